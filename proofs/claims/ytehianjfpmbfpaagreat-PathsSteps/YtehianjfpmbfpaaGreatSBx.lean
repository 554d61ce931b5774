/-
  Summaries in blocks; growth, step by step; the contracts of May with the answer named.
-/
import Derived.Test.YtehianjfpmbfpaaGreatSMy
import Derived.Test.YtehianjfpmbfpaaGreatSFacts
import Derived.Test.YtehianjfpmbfpaaGreatBox
import Derived.Deep.RegionHeld3
namespace Go.Proofs.YtehianjfpmbfpaaGreat
open Go.RowKit
set_option linter.unusedVariables false

theorem mayP (a : Tm) {p : Bool} (h : mayB a = p) (w : World) : Calls Tryz.prog 87 #[.agg #[.int .i64 a.e, .int .i64 a.d, .int .i64 a.x, .int .i64 a.y, .int .i64 a.z]] w fun e w' => e = .returned (.bool p) ∧ Below w.heap.size w w' := by rw [← h]; exact may_any a w
theorem sMayP (a : Sm) {p : Bool} (h : mayS a = p) (w : World) : Calls Tryz.prog 93 #[.agg #[.int .i64 a.f, .int .i64 a.t, .int .i64 a.k, .int .i64 a.ep, .int .i64 a.x, .int .i64 a.y, .int .i64 a.z]] w fun e w' => e = .returned (.bool p) ∧ Below w.heap.size w w' := by rw [← h]; exact sMay_any a w

/-- A summary lies in a block. -/
def SBox (w : World) (b : Nat) (s : Sm) : Prop :=
  w.cell? ⟨b, 0, none⟩ = some (.int .i64 s.f) ∧ w.cell? ⟨b, 1, none⟩ = some (.int .i64 s.t) ∧ w.cell? ⟨b, 2, none⟩ = some (.int .i64 s.k) ∧ w.cell? ⟨b, 3, none⟩ = some (.int .i64 s.ep) ∧ w.cell? ⟨b, 4, none⟩ = some (.int .i64 s.x) ∧ w.cell? ⟨b, 5, none⟩ = some (.int .i64 s.y) ∧ w.cell? ⟨b, 6, none⟩ = some (.int .i64 s.z)
theorem SBox.later {w w' : World} {b : Nat} {t : Sm} (hg : Grow w w') (h : SBox w b t) : SBox w' b t := by
  obtain ⟨a, b, c, d, e, f, g⟩ := h
  exact ⟨cell_later hg a, cell_later hg b, cell_later hg c, cell_later hg d, cell_later hg e, cell_later hg f, cell_later hg g⟩
theorem SBox.new (w : World) (t : Sm) : SBox (w.alloc (.cells #[.int .i64 t.f, .int .i64 t.t, .int .i64 t.k, .int .i64 t.ep, .int .i64 t.x, .int .i64 t.y, .int .i64 t.z] 68)) w.heap.size t := by
  simp [SBox, go_sem]
theorem Grow.drew' (w : World) : Grow w w.drew := ⟨rfl, rfl, rfl, Nat.le_refl _, fun _ _ => rfl⟩
/-- Growth, step by step: for simp. -/
theorem growR (a : World) : Below a.heap.size a a := Below.refl _ _
theorem growA {a w : World} (o : Obj) (h : Below a.heap.size a w) : Below a.heap.size a (w.alloc o) := Grow.trans' h (Grow.alloc' _ _)
theorem growD {a w : World} (h : Below a.heap.size a w) : Below a.heap.size a w.drew := Grow.trans' h (Grow.drew' _)


end Go.Proofs.YtehianjfpmbfpaaGreat
