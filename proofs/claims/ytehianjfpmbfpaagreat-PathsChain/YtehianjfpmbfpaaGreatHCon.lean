/-
  What graph's small functions, and the document's own, do to the world: Ins, HasOut, InDepth, Inner, Order, and cmp.Compare: each returns its plain answer, and what was there stays as it was; what Go's == says of two places.
-/
import Derived.Test.YtehianjfpmbfpaaGreatHRow
import Derived.Test.YtehianjfpmbfpaaGreatSNd
import Derived.Test.YtehianjfpmbfpaaGreatSEq
namespace Go.Proofs.YtehianjfpmbfpaaGreat
set_option maxRecDepth 100000
open Go.RowKit
set_option linter.unusedVariables false
set_option linter.unusedSimpArgs false

theorem ins_at (k : Int) {z : Int} (hz : insP k = z) (w : World) :
    Calls Tryz.prog 79 #[.int .i64 k] w fun e w' => e = .returned (.int .i64 z) ∧ w' = w := by
  subst hz
  have hc : k = 4 ∨ (¬ k = 4 ∧ 2 ≤ k ∧ k ≤ 11) ∨ (¬ k = 4 ∧ 2 ≤ k ∧ ¬ k ≤ 11) ∨ (¬ k = 4 ∧ ¬ 2 ≤ k) := by omega
  rcases hc with h1 | ⟨h1, h2, h3⟩ | ⟨h1, h2, h3⟩ | ⟨h1, h2⟩
  all_goals
    go_enter Tryz.func79, Tryz.ntmps79
    go_wp2
  all_goals go_ret
  all_goals exact ⟨ret_int (by simp [insP, *]; try omega), rfl⟩
theorem rins_at (k : Int) {z : Int} (hz : insP k = z) (w : World) :
    Calls Tryz.prog 63 #[.int .i64 k] w fun e w' => e = .returned (.int .i64 z) ∧ w' = w := by
  subst hz
  have hc : k = 4 ∨ (¬ k = 4 ∧ 2 ≤ k ∧ k ≤ 11) ∨ (¬ k = 4 ∧ 2 ≤ k ∧ ¬ k ≤ 11) ∨ (¬ k = 4 ∧ ¬ 2 ≤ k) := by omega
  rcases hc with h1 | ⟨h1, h2, h3⟩ | ⟨h1, h2, h3⟩ | ⟨h1, h2⟩
  all_goals
    go_enter Tryz.func63, Tryz.ntmps63
    go_wp2
  all_goals go_ret
  all_goals exact ⟨ret_int (by simp [insP, *]; try omega), rfl⟩
theorem has_at (k : Int) {q : Bool} (hz : hasP k = q) (w : World) :
    Calls Tryz.prog 78 #[.int .i64 k] w fun e w' => e = .returned (.bool q) ∧ w' = w := by
  subst hz
  by_cases h1 : 1 ≤ k <;> by_cases h2 : k ≤ 10
  all_goals
    go_enter Tryz.func78, Tryz.ntmps78
    go_wp2
  all_goals go_ret
  all_goals exact ⟨ret_bool (by simp [hasP, *]), rfl⟩
theorem rhas_at (k : Int) {q : Bool} (hz : hasP k = q) (w : World) :
    Calls Tryz.prog 27 #[.int .i64 k] w fun e w' => e = .returned (.bool q) ∧ w' = w := by
  subst hz
  by_cases h1 : 1 ≤ k <;> by_cases h2 : k ≤ 10
  all_goals
    go_enter Tryz.func27, Tryz.ntmps27
    go_wp2
  all_goals go_ret
  all_goals exact ⟨ret_bool (by simp [hasP, *]), rfl⟩
theorem inD_at (k a b d : Int) {z : Int} (hz : inDP ⟨k, a, b, d⟩ = z) (w : World) :
    Calls Tryz.prog 62 #[.agg #[.int .i64 k, .int .i64 a, .int .i64 b, .int .i64 d]] w fun e w' => e = .returned (.int .i64 z) ∧ Grow w w' := by
  subst hz
  have hc : k = 8 ∨ (¬ k = 8 ∧ k = 9) ∨ (¬ k = 8 ∧ ¬ k = 9) := by omega
  rcases hc with h1 | ⟨h1, h2⟩ | ⟨h1, h2⟩
  all_goals
    go_enter Tryz.func62, Tryz.ntmps62
    go_wp2
  all_goals go_ret
  all_goals exact ⟨ret_int (by simp [inDP, *]), Grow.alloc' _ _⟩
theorem rinD_at (k a b d : Int) {z : Int} (hz : inDP ⟨k, a, b, d⟩ = z) (w : World) :
    Calls Tryz.prog 42 #[.agg #[.int .i64 k, .int .i64 a, .int .i64 b, .int .i64 d]] w fun e w' => e = .returned (.int .i64 z) ∧ Grow w w' := by
  subst hz
  have hc : k = 8 ∨ (¬ k = 8 ∧ k = 9) ∨ (¬ k = 8 ∧ ¬ k = 9) := by omega
  rcases hc with h1 | ⟨h1, h2⟩ | ⟨h1, h2⟩
  all_goals
    go_enter Tryz.func42, Tryz.ntmps42
    go_wp2
  all_goals go_ret
  all_goals exact ⟨ret_int (by simp [inDP, *]), Grow.alloc' _ _⟩
theorem eqLc (a b c d : Int) (w : World) : (Op.equalIn 10000 27 (.agg #[.int .i64 a, .int .i64 b]) (.agg #[.int .i64 c, .int .i64 d])).run Tryz.prog w = .ok (eqL ⟨a, b⟩ ⟨c, d⟩) w := by
  have u3 := Tryz.underlying3
  have a3 := Tryz.isAgg3
  have z3 := Tryz.sizeOf3
  have hS : Tryz.prog.underlying 27 = some (.struct (Tryz.prog.fieldsOf 27)) := by kernel_rfl
  rw [show (10000 : Nat) = 9999 + 1 from rfl, run_equalIn_agg w 9999 27 _ _ hS (by kernel_rfl)]
  simp only [Program.fieldsOf, Tryz.underlying27]
  go_simp
  unfold eqL
  by_cases h1 : a = c <;> by_cases h2 : b = d <;> simp [h1, h2]
attribute [local go_sem ↓] eqLc

end Go.Proofs.YtehianjfpmbfpaaGreat
