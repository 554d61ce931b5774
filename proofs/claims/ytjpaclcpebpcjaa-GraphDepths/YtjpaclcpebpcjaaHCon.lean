/-
  What graph's small functions, and the document's own, do to the world: Ins, HasOut, InDepth, Inner, Order, and cmp.Compare: each returns its plain answer, and what was there stays as it was; what Go's == says of two places.
-/
import Derived.Test.YtjpaclcpebpcjaaHRow
import Derived.Test.YtjpaclcpebpcjaaSNd
import Derived.Test.YtjpaclcpebpcjaaSEq
namespace Go.Proofs.Ytjpaclcpebpcjaa
set_option maxRecDepth 100000
open Go.RowKit
set_option linter.unusedVariables false
set_option linter.unusedSimpArgs false

theorem ins_at (k : Int) {z : Int} (hz : insP k = z) (w : World) :
    Calls Try.prog 10 #[.int .i64 k] w fun e w' => e = .returned (.int .i64 z) ∧ w' = w := by
  subst hz
  have hc : k = 4 ∨ (¬ k = 4 ∧ 2 ≤ k ∧ k ≤ 11) ∨ (¬ k = 4 ∧ 2 ≤ k ∧ ¬ k ≤ 11) ∨ (¬ k = 4 ∧ ¬ 2 ≤ k) := by omega
  rcases hc with h1 | ⟨h1, h2, h3⟩ | ⟨h1, h2, h3⟩ | ⟨h1, h2⟩
  all_goals
    go_enter Try.func10, Try.ntmps10
    go_wp2
  all_goals go_ret
  all_goals exact ⟨ret_int (by simp [insP, *]; try omega), rfl⟩
theorem rins_at (k : Int) {z : Int} (hz : insP k = z) (w : World) :
    Calls Try.prog 11 #[.int .i64 k] w fun e w' => e = .returned (.int .i64 z) ∧ w' = w := by
  subst hz
  have hc : k = 4 ∨ (¬ k = 4 ∧ 2 ≤ k ∧ k ≤ 11) ∨ (¬ k = 4 ∧ 2 ≤ k ∧ ¬ k ≤ 11) ∨ (¬ k = 4 ∧ ¬ 2 ≤ k) := by omega
  rcases hc with h1 | ⟨h1, h2, h3⟩ | ⟨h1, h2, h3⟩ | ⟨h1, h2⟩
  all_goals
    go_enter Try.func11, Try.ntmps11
    go_wp2
  all_goals go_ret
  all_goals exact ⟨ret_int (by simp [insP, *]; try omega), rfl⟩
theorem has_at (k : Int) {q : Bool} (hz : hasP k = q) (w : World) :
    Calls Try.prog 12 #[.int .i64 k] w fun e w' => e = .returned (.bool q) ∧ w' = w := by
  subst hz
  by_cases h1 : 1 ≤ k <;> by_cases h2 : k ≤ 10
  all_goals
    go_enter Try.func12, Try.ntmps12
    go_wp2
  all_goals go_ret
  all_goals exact ⟨ret_bool (by simp [hasP, *]), rfl⟩
theorem rhas_at (k : Int) {q : Bool} (hz : hasP k = q) (w : World) :
    Calls Try.prog 13 #[.int .i64 k] w fun e w' => e = .returned (.bool q) ∧ w' = w := by
  subst hz
  by_cases h1 : 1 ≤ k <;> by_cases h2 : k ≤ 10
  all_goals
    go_enter Try.func13, Try.ntmps13
    go_wp2
  all_goals go_ret
  all_goals exact ⟨ret_bool (by simp [hasP, *]), rfl⟩
theorem inD_at (k a b d : Int) {z : Int} (hz : inDP ⟨k, a, b, d⟩ = z) (w : World) :
    Calls Try.prog 14 #[.agg #[.int .i64 k, .int .i64 a, .int .i64 b, .int .i64 d]] w fun e w' => e = .returned (.int .i64 z) ∧ Grow w w' := by
  subst hz
  have hc : k = 8 ∨ (¬ k = 8 ∧ k = 9) ∨ (¬ k = 8 ∧ ¬ k = 9) := by omega
  rcases hc with h1 | ⟨h1, h2⟩ | ⟨h1, h2⟩
  all_goals
    go_enter Try.func14, Try.ntmps14
    go_wp2
  all_goals go_ret
  all_goals exact ⟨ret_int (by simp [inDP, *]), Grow.alloc' _ _⟩
theorem rinD_at (k a b d : Int) {z : Int} (hz : inDP ⟨k, a, b, d⟩ = z) (w : World) :
    Calls Try.prog 15 #[.agg #[.int .i64 k, .int .i64 a, .int .i64 b, .int .i64 d]] w fun e w' => e = .returned (.int .i64 z) ∧ Grow w w' := by
  subst hz
  have hc : k = 8 ∨ (¬ k = 8 ∧ k = 9) ∨ (¬ k = 8 ∧ ¬ k = 9) := by omega
  rcases hc with h1 | ⟨h1, h2⟩ | ⟨h1, h2⟩
  all_goals
    go_enter Try.func15, Try.ntmps15
    go_wp2
  all_goals go_ret
  all_goals exact ⟨ret_int (by simp [inDP, *]), Grow.alloc' _ _⟩
theorem isNaN_at (x : Int) (w : World) :
    Calls Try.prog 50 #[.int .i64 x] w fun e w' => e = .returned (.bool false) ∧ w' = w := by
  go_enter Try.func50, Try.ntmps50
  go_wp2
  all_goals go_ret
  all_goals exact ⟨ret_bool (by simp), rfl⟩
theorem cmp_at (x y : Int) {z : Int} (hz : cmpI x y = z) (w : World) :
    Calls Try.prog 41 #[.int .i64 x, .int .i64 y] w fun e w' => e = .returned (.int .i64 z) ∧ w' = w := by
  subst hz
  have hc : x < y ∨ (¬ x < y ∧ y < x) ∨ (¬ x < y ∧ ¬ y < x) := by omega
  rcases hc with h1 | ⟨h1, h2⟩ | ⟨h1, h2⟩
  all_goals
    go_enter Try.func41, Try.ntmps41
    go_wp2_with (go_at_call 50; refine (isNaN_at _ _).mono ?_; rintro e w' ⟨rfl, rfl⟩)
  all_goals go_ret
  all_goals exact ⟨ret_int (by unfold cmpI; (repeat' split) <;> omega), rfl⟩
set_option maxHeartbeats 1000000 in
theorem ord_at (a b : Lc) {z : Int} (hz : ordL a b = z) (w : World) :
    Calls Try.prog 18 #[.agg #[.int .i64 a.n, .int .i64 a.p], .agg #[.int .i64 b.n, .int .i64 b.p]] w fun e w' => e = .returned (.int .i64 z) ∧ Grow w w' := by
  subst hz
  obtain ⟨n, p⟩ := a
  obtain ⟨m, q⟩ := b
  dsimp only
  by_cases h : cmpI n m = 0
  · have HE := hide (show ordL ⟨n, p⟩ ⟨m, q⟩ = cmpI p q by simp [ordL, h])
    have C := hide (fun w => cmp_at n m h w)
    clear h
    go_enter Try.func18, Try.ntmps18
    go_wp2_with fail
    refine (C.out _).mono ?_
    rintro e w1 ⟨rfl, rfl⟩
    go_wp2_with fail
    refine (cmp_at p q rfl _).mono ?_
    rintro e w1 ⟨rfl, rfl⟩
    go_wp2_with fail
    go_ret
    exact ⟨ret_int HE.out.symm, Grow.trans' (Grow.alloc' _ _) (Grow.alloc' _ _)⟩
  · have HE := hide (show ordL ⟨n, p⟩ ⟨m, q⟩ = cmpI n m by simp [ordL, h])
    obtain ⟨z, hz⟩ : ∃ z, cmpI n m = z := ⟨_, rfl⟩
    have C := hide (fun w => cmp_at n m hz w)
    rw [hz] at h HE
    clear hz
    go_enter Try.func18, Try.ntmps18
    go_wp2_with fail
    refine (C.out _).mono ?_
    rintro e w1 ⟨rfl, rfl⟩
    go_wp2_with fail
    go_ret
    exact ⟨ret_int HE.out.symm, Grow.trans' (Grow.alloc' _ _) (Grow.alloc' _ _)⟩
theorem eqLc (a b c d : Int) (w : World) : (Op.equalIn 10000 25 (.agg #[.int .i64 a, .int .i64 b]) (.agg #[.int .i64 c, .int .i64 d])).run Try.prog w = .ok (eqL ⟨a, b⟩ ⟨c, d⟩) w := by
  have u3 := Try.underlying3
  have a3 := Try.isAgg3
  have z3 := Try.sizeOf3
  have hS : Try.prog.underlying 25 = some (.struct (Try.prog.fieldsOf 25)) := by kernel_rfl
  rw [show (10000 : Nat) = 9999 + 1 from rfl, run_equalIn_agg w 9999 25 _ _ hS (by kernel_rfl)]
  simp only [Program.fieldsOf, Try.underlying25]
  go_simp
  unfold eqL
  by_cases h1 : a = c <;> by_cases h2 : b = d <;> simp [h1, h2]
attribute [local go_sem ↓] eqLc
set_option maxHeartbeats 1000000 in
theorem rord_at (a b : Lc) {z : Int} (hz : ordL a b = z) (w : World) :
    Calls Try.prog 19 #[.agg #[.int .i64 a.n, .int .i64 a.p], .agg #[.int .i64 b.n, .int .i64 b.p]] w fun e w' => e = .returned (.int .i64 z) ∧ Grow w w' := by
  subst hz
  obtain ⟨n, p⟩ := a
  obtain ⟨m, q⟩ := b
  dsimp only
  have hc : (n = m ∧ p = q) ∨ n < m ∨ (¬ n < m ∧ n = m ∧ p < q) ∨ (¬ n < m ∧ n = m ∧ q < p) ∨ (¬ n < m ∧ ¬ n = m) := by omega
  rcases hc with ⟨rfl, rfl⟩ | h | ⟨h, rfl, h1⟩ | ⟨h, rfl, h1⟩ | ⟨h, h1⟩
  · have HE := hide (show (0 : Int) = ordL ⟨n, p⟩ ⟨n, p⟩ from ((ordL_zero _ _).2 rfl).symm)
    have he : eqL ⟨n, p⟩ ⟨n, p⟩ = true := by simp [eqL]
    go_enter Try.func19, Try.ntmps19
    go_wp2_with fail
    go_ret
    exact ⟨ret_int HE.out, Grow.trans' (Grow.alloc' _ _) (Grow.alloc' _ _)⟩
  · have HE := hide (show (-1 : Int) = ordL ⟨n, p⟩ ⟨m, q⟩ from ((ordL_lt _ _).2 (.inl h)).symm)
    have he : eqL ⟨n, p⟩ ⟨m, q⟩ = false := by simp [eqL]; omega
    go_enter Try.func19, Try.ntmps19
    go_wp2_with fail
    go_ret
    exact ⟨ret_int HE.out, Grow.trans' (Grow.alloc' _ _) (Grow.alloc' _ _)⟩
  · have HE := hide (show (-1 : Int) = ordL ⟨n, p⟩ ⟨n, q⟩ from ((ordL_lt ⟨n, p⟩ ⟨n, q⟩).2 (.inr ⟨rfl, h1⟩)).symm)
    have he : eqL ⟨n, p⟩ ⟨n, q⟩ = false := by simp [eqL]; omega
    go_enter Try.func19, Try.ntmps19
    go_wp2_with fail
    go_ret
    exact ⟨ret_int HE.out, Grow.trans' (Grow.alloc' _ _) (Grow.alloc' _ _)⟩
  · have HE := hide (show (1 : Int) = ordL ⟨n, p⟩ ⟨n, q⟩ from ((ordL_gt ⟨n, p⟩ ⟨n, q⟩).2 (.inr ⟨rfl, h1⟩)).symm)
    have he : eqL ⟨n, p⟩ ⟨n, q⟩ = false := by simp [eqL]; omega
    have h2 : ¬ p < q := by omega
    clear h1
    go_enter Try.func19, Try.ntmps19
    go_wp2_with fail
    go_ret
    exact ⟨ret_int HE.out, Grow.trans' (Grow.alloc' _ _) (Grow.alloc' _ _)⟩
  · have HE := hide (show (1 : Int) = ordL ⟨n, p⟩ ⟨m, q⟩ from ((ordL_gt _ _).2 (.inl (by show m < n; omega))).symm)
    have he : eqL ⟨n, p⟩ ⟨m, q⟩ = false := by simp [eqL]; omega
    go_enter Try.func19, Try.ntmps19
    go_wp2_with fail
    go_ret
    exact ⟨ret_int HE.out, Grow.trans' (Grow.alloc' _ _) (Grow.alloc' _ _)⟩

end Go.Proofs.Ytjpaclcpebpcjaa
