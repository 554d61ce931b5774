/-
  What graph's small functions, and the document's own, do to the world: Ins, HasOut, InDepth, Inner, Order, and cmp.Compare: each returns its plain answer, and what was there stays as it was; what Go's == says of two places.
-/
import Derived.Test.YtdgmfjaldicmgaaHRow
import Derived.Test.YtdgmfjaldicmgaaSNd
import Derived.Test.YtdgmfjaldicmgaaSEq
namespace Go.Proofs.Ytdgmfjaldicmgaa
set_option maxRecDepth 100000
open Go.RowKit
set_option linter.unusedVariables false
set_option linter.unusedSimpArgs false

theorem ins_at (k : Int) {z : Int} (hz : insP k = z) (w : World) :
    Calls Try.prog 37 #[.int .i64 k] w fun e w' => e = .returned (.int .i64 z) ∧ w' = w := by
  subst hz
  have hc : k = 4 ∨ (¬ k = 4 ∧ 2 ≤ k ∧ k ≤ 11) ∨ (¬ k = 4 ∧ 2 ≤ k ∧ ¬ k ≤ 11) ∨ (¬ k = 4 ∧ ¬ 2 ≤ k) := by omega
  rcases hc with h1 | ⟨h1, h2, h3⟩ | ⟨h1, h2, h3⟩ | ⟨h1, h2⟩
  all_goals
    go_enter Try.func37, Try.ntmps37
    go_wp2
  all_goals go_ret
  all_goals exact ⟨ret_int (by simp [insP, *]; try omega), rfl⟩
theorem rins_at (k : Int) {z : Int} (hz : insP k = z) (w : World) :
    Calls Try.prog 93 #[.int .i64 k] w fun e w' => e = .returned (.int .i64 z) ∧ w' = w := by
  subst hz
  have hc : k = 4 ∨ (¬ k = 4 ∧ 2 ≤ k ∧ k ≤ 11) ∨ (¬ k = 4 ∧ 2 ≤ k ∧ ¬ k ≤ 11) ∨ (¬ k = 4 ∧ ¬ 2 ≤ k) := by omega
  rcases hc with h1 | ⟨h1, h2, h3⟩ | ⟨h1, h2, h3⟩ | ⟨h1, h2⟩
  all_goals
    go_enter Try.func93, Try.ntmps93
    go_wp2
  all_goals go_ret
  all_goals exact ⟨ret_int (by simp [insP, *]; try omega), rfl⟩
theorem has_at (k : Int) {q : Bool} (hz : hasP k = q) (w : World) :
    Calls Try.prog 17 #[.int .i64 k] w fun e w' => e = .returned (.bool q) ∧ w' = w := by
  subst hz
  by_cases h1 : 1 ≤ k <;> by_cases h2 : k ≤ 10
  all_goals
    go_enter Try.func17, Try.ntmps17
    go_wp2
  all_goals go_ret
  all_goals exact ⟨ret_bool (by simp [hasP, *]), rfl⟩
theorem rhas_at (k : Int) {q : Bool} (hz : hasP k = q) (w : World) :
    Calls Try.prog 92 #[.int .i64 k] w fun e w' => e = .returned (.bool q) ∧ w' = w := by
  subst hz
  by_cases h1 : 1 ≤ k <;> by_cases h2 : k ≤ 10
  all_goals
    go_enter Try.func92, Try.ntmps92
    go_wp2
  all_goals go_ret
  all_goals exact ⟨ret_bool (by simp [hasP, *]), rfl⟩
theorem inD_at (k a b d : Int) {z : Int} (hz : inDP ⟨k, a, b, d⟩ = z) (w : World) :
    Calls Try.prog 38 #[.agg #[.int .i64 k, .int .i64 a, .int .i64 b, .int .i64 d]] w fun e w' => e = .returned (.int .i64 z) ∧ Grow w w' := by
  subst hz
  have hc : k = 8 ∨ (¬ k = 8 ∧ k = 9) ∨ (¬ k = 8 ∧ ¬ k = 9) := by omega
  rcases hc with h1 | ⟨h1, h2⟩ | ⟨h1, h2⟩
  all_goals
    go_enter Try.func38, Try.ntmps38
    go_wp2
  all_goals go_ret
  all_goals exact ⟨ret_int (by simp [inDP, *]), Grow.alloc' _ _⟩
theorem rinD_at (k a b d : Int) {z : Int} (hz : inDP ⟨k, a, b, d⟩ = z) (w : World) :
    Calls Try.prog 72 #[.agg #[.int .i64 k, .int .i64 a, .int .i64 b, .int .i64 d]] w fun e w' => e = .returned (.int .i64 z) ∧ Grow w w' := by
  subst hz
  have hc : k = 8 ∨ (¬ k = 8 ∧ k = 9) ∨ (¬ k = 8 ∧ ¬ k = 9) := by omega
  rcases hc with h1 | ⟨h1, h2⟩ | ⟨h1, h2⟩
  all_goals
    go_enter Try.func72, Try.ntmps72
    go_wp2
  all_goals go_ret
  all_goals exact ⟨ret_int (by simp [inDP, *]), Grow.alloc' _ _⟩
theorem eqLc (a b c d : Int) (w : World) : (Op.equalIn 10000 42 (.agg #[.int .i64 a, .int .i64 b]) (.agg #[.int .i64 c, .int .i64 d])).run Try.prog w = .ok (eqL ⟨a, b⟩ ⟨c, d⟩) w := by
  have u3 := Try.underlying3
  have a3 := Try.isAgg3
  have z3 := Try.sizeOf3
  have hS : Try.prog.underlying 42 = some (.struct (Try.prog.fieldsOf 42)) := by kernel_rfl
  rw [show (10000 : Nat) = 9999 + 1 from rfl, run_equalIn_agg w 9999 42 _ _ hS (by kernel_rfl)]
  simp only [Program.fieldsOf, Try.underlying42]
  go_simp
  unfold eqL
  by_cases h1 : a = c <;> by_cases h2 : b = d <;> simp [h1, h2]
attribute [local go_sem ↓] eqLc

end Go.Proofs.Ytdgmfjaldicmgaa
