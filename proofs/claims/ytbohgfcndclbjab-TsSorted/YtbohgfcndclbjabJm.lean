/-
  What Join and Meet do, in one word each: for every two times the answer and the error.
-/
import Derived.Test.YtbohgfcndclbjabJn
import Derived.Test.YtbohgfcndclbjabMt
import Derived.Test.YtbohgfcndclbjabInv
namespace Go.Proofs.Ytbohgfcndclbjab
open Go.RowKit

def joinR (a b : Tm) : Tm := if likeB a b = true then joinT a b else ⟨0, 0, 0, 0, 0⟩
def meetR (a b : Tm) : Tm := if likeB a b = true then meetT a b else ⟨0, 0, 0, 0, 0⟩
def errR (a b : Tm) : Int := if likeB a b = true then 0 else 1

theorem join_any (a b : Tm) (w : World) :
    Calls Try.prog 7 #[.agg #[.int .i64 a.e, .int .i64 a.d, .int .i64 a.x, .int .i64 a.y, .int .i64 a.z], .agg #[.int .i64 b.e, .int .i64 b.d, .int .i64 b.x, .int .i64 b.y, .int .i64 b.z]] w fun e w' => e = .returned (.tuple #[.agg #[.int .i64 (joinR a b).e, .int .i64 (joinR a b).d, .int .i64 (joinR a b).x, .int .i64 (joinR a b).y, .int .i64 (joinR a b).z], .int .i64 (errR a b)]) ∧ Below w.heap.size w w' := by
  cases h : likeB a b
  · have := join_no a b w h
    simpa [joinR, errR, h] using this
  · have := join_yes a b w h
    simpa [joinR, errR, h] using this
theorem meet_any (a b : Tm) (w : World) :
    Calls Try.prog 8 #[.agg #[.int .i64 a.e, .int .i64 a.d, .int .i64 a.x, .int .i64 a.y, .int .i64 a.z], .agg #[.int .i64 b.e, .int .i64 b.d, .int .i64 b.x, .int .i64 b.y, .int .i64 b.z]] w fun e w' => e = .returned (.tuple #[.agg #[.int .i64 (meetR a b).e, .int .i64 (meetR a b).d, .int .i64 (meetR a b).x, .int .i64 (meetR a b).y, .int .i64 (meetR a b).z], .int .i64 (errR a b)]) ∧ Below w.heap.size w w' := by
  cases h : likeB a b
  · have := meet_no a b w h
    simpa [meetR, errR, h] using this
  · have := meet_yes a b w h
    simpa [meetR, errR, h] using this

/-- A time lies in a block. -/
def Box (w : World) (b : Nat) (t : Tm) : Prop :=
  w.cell? ⟨b, 0, none⟩ = some (.int .i64 t.e) ∧ w.cell? ⟨b, 1, none⟩ = some (.int .i64 t.d) ∧ w.cell? ⟨b, 2, none⟩ = some (.int .i64 t.x) ∧ w.cell? ⟨b, 3, none⟩ = some (.int .i64 t.y) ∧ w.cell? ⟨b, 4, none⟩ = some (.int .i64 t.z)
theorem Box.later {w w' : World} {b : Nat} {t : Tm} (hg : Grow w w') (h : Box w b t) : Box w' b t := by
  obtain ⟨a, b, c, d, e⟩ := h
  exact ⟨cell_later hg a, cell_later hg b, cell_later hg c, cell_later hg d, cell_later hg e⟩
theorem Grow.alloc' (w : World) (o : Obj) : Grow w (w.alloc o) := (Below.refl _ _).alloc (Nat.le_refl _) _
theorem Box.new (w : World) (t : Tm) : Box (w.alloc (.cells #[.int .i64 t.e, .int .i64 t.d, .int .i64 t.x, .int .i64 t.y, .int .i64 t.z] 24)) w.heap.size t := by
  simp [Box, go_sem]
theorem Box.lt {w : World} {b : Nat} {t : Tm} (h : Box w b t) : b < w.heap.size := World.block_lt_of_cell? _ _ h.1

end Go.Proofs.Ytbohgfcndclbjab
