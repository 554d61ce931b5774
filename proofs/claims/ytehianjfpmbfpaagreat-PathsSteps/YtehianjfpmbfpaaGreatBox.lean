/-
  Times in blocks; what Join and Meet answer, in one word each.
-/
import Derived.Test.YtehianjfpmbfpaaGreatBase
import Derived.Test.YtehianjfpmbfpaaGreatInv
namespace Go.Proofs.YtehianjfpmbfpaaGreat
open Go.RowKit

def joinR (a b : Tm) : Tm := if likeB a b = true then joinT a b else ⟨0, 0, 0, 0, 0⟩
def meetR (a b : Tm) : Tm := if likeB a b = true then meetT a b else ⟨0, 0, 0, 0, 0⟩
def errR (a b : Tm) : Int := if likeB a b = true then 0 else 1

/-- A time lies in a block. -/
def Box (w : World) (b : Nat) (t : Tm) : Prop :=
  w.cell? ⟨b, 0, none⟩ = some (.int .i64 t.e) ∧ w.cell? ⟨b, 1, none⟩ = some (.int .i64 t.d) ∧ w.cell? ⟨b, 2, none⟩ = some (.int .i64 t.x) ∧ w.cell? ⟨b, 3, none⟩ = some (.int .i64 t.y) ∧ w.cell? ⟨b, 4, none⟩ = some (.int .i64 t.z)
theorem Box.later {w w' : World} {b : Nat} {t : Tm} (hg : Grow w w') (h : Box w b t) : Box w' b t := by
  obtain ⟨a, b, c, d, e⟩ := h
  exact ⟨cell_later hg a, cell_later hg b, cell_later hg c, cell_later hg d, cell_later hg e⟩
theorem Grow.alloc' (w : World) (o : Obj) : Grow w (w.alloc o) := (Below.refl _ _).alloc (Nat.le_refl _) _
theorem Box.new (w : World) (t : Tm) : Box (w.alloc (.cells #[.int .i64 t.e, .int .i64 t.d, .int .i64 t.x, .int .i64 t.y, .int .i64 t.z] 43)) w.heap.size t := by
  simp [Box, go_sem]
theorem Box.lt {w : World} {b : Nat} {t : Tm} (h : Box w b t) : b < w.heap.size := World.block_lt_of_cell? _ _ h.1

end Go.Proofs.YtehianjfpmbfpaaGreat
