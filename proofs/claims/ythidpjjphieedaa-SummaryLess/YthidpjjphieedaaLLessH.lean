/-
  Small contracts for the law SummaryLess: what its own 'high' does, two times in one block.
-/
import Derived.Test.YthidpjjphieedaaSShown
import Derived.Test.YthidpjjphieedaaSFacts2
import Derived.Test.YthidpjjphieedaaLe
import Derived.Test.YthidpjjphieedaaSLe
namespace Go.Proofs.Ythidpjjphieedaa
open Go.RowKit Go.Sort
set_option linter.unusedVariables false

def Box2 (w : World) (b : Nat) (p : Tm × Tm) : Prop :=
  w.cell? ⟨b, 0, none⟩ = some (.int .i64 p.1.e) ∧ w.cell? ⟨b, 1, none⟩ = some (.int .i64 p.1.d) ∧ w.cell? ⟨b, 2, none⟩ = some (.int .i64 p.1.x) ∧ w.cell? ⟨b, 3, none⟩ = some (.int .i64 p.1.y) ∧ w.cell? ⟨b, 4, none⟩ = some (.int .i64 p.1.z)
    ∧ w.cell? ⟨b, 5, none⟩ = some (.int .i64 p.2.e) ∧ w.cell? ⟨b, 6, none⟩ = some (.int .i64 p.2.d) ∧ w.cell? ⟨b, 7, none⟩ = some (.int .i64 p.2.x) ∧ w.cell? ⟨b, 8, none⟩ = some (.int .i64 p.2.y) ∧ w.cell? ⟨b, 9, none⟩ = some (.int .i64 p.2.z)
theorem Box2.later {w w' : World} {b : Nat} {p : Tm × Tm} (hg : Grow w w') (h : Box2 w b p) : Box2 w' b p := by
  obtain ⟨a0, a1, a2, a3, a4, a5, a6, a7, a8, a9⟩ := h
  exact ⟨cell_later hg a0, cell_later hg a1, cell_later hg a2, cell_later hg a3, cell_later hg a4, cell_later hg a5, cell_later hg a6, cell_later hg a7, cell_later hg a8, cell_later hg a9⟩
theorem sMayC (a : Sm) (p : Bool) (h : mayS a = p) (w : World) : Calls Try.prog 18 #[.agg #[.int .i64 a.f, .int .i64 a.t, .int .i64 a.k, .int .i64 a.ep, .int .i64 a.x, .int .i64 a.y, .int .i64 a.z]] w fun e w' => e = .returned (.bool p) ∧ Below w.heap.size w w' := by rw [← h]; exact sMay_any a w
theorem sLeC (a b : Sm) (p : Bool) (h : leS a b = p) (w : World) : Calls Try.prog 24 #[.agg #[.int .i64 a.f, .int .i64 a.t, .int .i64 a.k, .int .i64 a.ep, .int .i64 a.x, .int .i64 a.y, .int .i64 a.z], .agg #[.int .i64 b.f, .int .i64 b.t, .int .i64 b.k, .int .i64 b.ep, .int .i64 b.x, .int .i64 b.y, .int .i64 b.z]] w fun e w' => e = .returned (.bool p) ∧ Below w.heap.size w w' := by
  rw [← h]; exact sLe_any a b w
theorem refLeC (a b : Tm) (p : Bool) (h : leB a b = p) (w : World) : Calls Try.prog 28 #[.agg #[.int .i64 a.e, .int .i64 a.d, .int .i64 a.x, .int .i64 a.y, .int .i64 a.z], .agg #[.int .i64 b.e, .int .i64 b.d, .int .i64 b.x, .int .i64 b.y, .int .i64 b.z]] w fun e w' => e = .returned (.bool p) ∧ Below w.heap.size w w' := by
  rw [← h]; exact refLessEq_any a b w

set_option maxHeartbeats 400000 in
theorem high_any (r : Sm) (w : World) :
    Calls Try.prog 29 #[.agg #[.int .i64 r.f, .int .i64 r.t, .int .i64 r.k, .int .i64 r.ep, .int .i64 r.x, .int .i64 r.y, .int .i64 r.z]] w fun e w' => e = .returned (.bool (highS r)) ∧ Below w.heap.size w w' := by
  obtain ⟨rf, rt, rk, rp, rx, ry, rz⟩ := r
  dsimp only [highS]
  by_cases h1 : 500 ≤ rx <;> by_cases h2 : 500 ≤ ry
  all_goals
    go_enter Try.func29, Try.ntmps29
    go_wp2
    all_goals (try go_quiet (fail))
    all_goals (try go_wp2)
    all_goals go_ret
    all_goals refine ⟨ret_bool ?_, ?_⟩
    all_goals first | (simp [h1, h2]; done) | (simp; omega) | (repeat (first | exact Below.refl _ _ | apply below_drewN | refine Below.alloc ?_ (by simp; try omega) _))
theorem highC (r : Sm) (p : Bool) (h : highS r = p) (w : World) : Calls Try.prog 29 #[.agg #[.int .i64 r.f, .int .i64 r.t, .int .i64 r.k, .int .i64 r.ep, .int .i64 r.x, .int .i64 r.y, .int .i64 r.z]] w fun e w' => e = .returned (.bool p) ∧ Below w.heap.size w w' := by rw [← h]; exact high_any r w

end Go.Proofs.Ythidpjjphieedaa
