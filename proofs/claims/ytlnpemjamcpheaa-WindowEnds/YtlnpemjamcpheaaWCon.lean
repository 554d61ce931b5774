/-
  What window's small functions, and the document's own, do to the world: mayStep, mayNumber, mayHave, May, First, Last, overBy: each returns its plain answer, and the world stays as it was.
-/
import Derived.Test.YtlnpemjamcpheaaWRow
namespace Go.Proofs.Ytlnpemjamcpheaa
set_option maxRecDepth 100000
open Go.RowKit
set_option linter.unusedVariables false
set_option linter.unusedSimpArgs false

theorem mul_small {b k : Int} (h1 : 1 ≤ b) (h2 : b ≤ 20) (h3 : 0 ≤ k) (h4 : k ≤ 1048576) : 0 ≤ b * k ∧ b * k ≤ 20971520 := by
  have q1 := Int.mul_nonneg (show 0 ≤ b by omega) h3
  have q2 : b * k ≤ 20 * k := Int.mul_le_mul_of_nonneg_right h2 h3
  omega
theorem mayStep_at (b : Int) {p : Bool} (hp : (decide (1 ≤ b) && decide (b ≤ 20)) = p) (w : World) :
    Calls Try.prog 23 #[.int .i64 b] w fun e w' => e = .returned (.bool p) ∧ w' = w := by
  subst hp
  by_cases h1 : 1 ≤ b <;> by_cases h2 : b ≤ 20
  all_goals
    go_enter Try.func23, Try.ntmps23
    go_wp2
  all_goals go_ret
  all_goals exact ⟨ret_bool (by simp; try omega), rfl⟩
theorem mayNum_at (b : Int) {p : Bool} (hp : inE b = p) (w : World) :
    Calls Try.prog 24 #[.int .i64 b] w fun e w' => e = .returned (.bool p) ∧ w' = w := by
  subst hp
  by_cases h1 : 0 ≤ b <;> by_cases h2 : b ≤ 1048576
  all_goals
    go_enter Try.func24, Try.ntmps24
    go_wp2
  all_goals go_ret
  all_goals exact ⟨ret_bool (by simp [inE]; try omega), rfl⟩
theorem may_at (a b : Int) {p : Bool} (hp : mayW a b = p) (w : World) :
    Calls Try.prog 15 #[.int .i64 a, .int .i64 b] w fun e w' => e = .returned (.bool p) ∧ w' = w := by
  subst hp
  obtain ⟨q, hq⟩ : ∃ q, (decide (1 ≤ b) && decide (b ≤ 20)) = q := ⟨_, rfl⟩
  have C := hide (mayStep_at b hq w)
  have HQ := hide hq
  clear hq
  by_cases h1 : a ≤ 20
  · cases q
    · go_enter Try.func15, Try.ntmps15
      go_wp2_with fail
      refine (C.out).mono ?_
      rintro e w1 ⟨rfl, rfl⟩
      go_wp2_with fail
      go_ret
      refine ⟨ret_bool ?_, rfl⟩
      have := HQ.out
      simp [mayW] at this ⊢
      omega
    · by_cases h2 : b ≤ a
      all_goals
        go_enter Try.func15, Try.ntmps15
        go_wp2_with fail
        refine (C.out).mono ?_
        rintro e w1 ⟨rfl, rfl⟩
        go_wp2_with fail
        go_ret
        refine ⟨ret_bool ?_, rfl⟩
        have := HQ.out
        simp [mayW] at this ⊢
        omega
  · go_enter Try.func15, Try.ntmps15
    go_wp2_with fail
    go_ret
    exact ⟨ret_bool (by simp [mayW]; omega), rfl⟩
theorem mayHave_at (a b k : Int) {p : Bool} (hp : (mayW a b && inE k) = p) (w : World) :
    Calls Try.prog 21 #[.int .i64 a, .int .i64 b, .int .i64 k] w fun e w' => e = .returned (.bool p) ∧ w' = w := by
  subst hp
  obtain ⟨q, hq⟩ : ∃ q, mayW a b = q := ⟨_, rfl⟩
  rw [hq]
  have C := hide (may_at a b hq w)
  clear hq
  cases q
  · go_enter Try.func21, Try.ntmps21
    go_wp2_with fail
    refine (C.out).mono ?_
    rintro e w1 ⟨rfl, rfl⟩
    go_wp2_with fail
    go_ret
    exact ⟨rfl, rfl⟩
  · have hc : ¬ 0 ≤ k ∨ (0 ≤ k ∧ k ≤ 1048576) ∨ (0 ≤ k ∧ ¬ k ≤ 1048576) := by omega
    rcases hc with h1 | ⟨h1, h2⟩ | ⟨h1, h2⟩
    all_goals
      go_enter Try.func21, Try.ntmps21
      go_wp2_with fail
      refine (C.out).mono ?_
      rintro e w1 ⟨rfl, rfl⟩
      go_wp2_with fail
      go_ret
      exact ⟨ret_bool (by simp [inE]; try omega), rfl⟩
theorem firstW_in {b k : Int} (h : (decide (1 ≤ b) && decide (b ≤ 20)) = true) (hk : inE k = true) : firstW b k = b * k := by
  have := (inE_iff k).1 hk
  simp at h
  unfold firstW
  rw [if_pos ⟨h.1, h.2, this⟩]
theorem firstW_out {b k : Int} (h : ¬ ((decide (1 ≤ b) && decide (b ≤ 20)) = true ∧ inE k = true)) : firstW b k = -1 := by
  unfold firstW
  rw [if_neg]
  rintro ⟨h1, h2, h3⟩
  exact h ⟨by simp [h1, h2], (inE_iff k).2 h3⟩
theorem lastW_in {a b k : Int} (h : mayW a b = true) (hk : inE k = true) : lastW a b k = b * k + a - 1 := by
  unfold lastW
  rw [if_pos ⟨h, (inE_iff k).1 hk⟩]
theorem lastW_out {a b k : Int} (h : ¬ (mayW a b = true ∧ inE k = true)) : lastW a b k = -1 := by
  unfold lastW
  rw [if_neg]
  rintro ⟨h1, h2⟩
  exact h ⟨h1, (inE_iff k).2 h2⟩
theorem first_at (b k : Int) {z : Int} (hz : firstW b k = z) (w : World) :
    Calls Try.prog 17 #[.int .i64 b, .int .i64 k] w fun e w' => e = .returned (.int .i64 z) ∧ w' = w := by
  subst hz
  obtain ⟨q, hq⟩ : ∃ q, (decide (1 ≤ b) && decide (b ≤ 20)) = q := ⟨_, rfl⟩
  obtain ⟨p, hp⟩ : ∃ p, inE k = p := ⟨_, rfl⟩
  have C := hide (mayStep_at b hq w)
  have C2 := hide (mayNum_at k hp w)
  cases q
  · rw [firstW_out (by rw [hq]; simp)]
    clear hq hp
    go_enter Try.func17, Try.ntmps17
    go_wp2_with fail
    refine (C.out).mono ?_
    rintro e w1 ⟨rfl, rfl⟩
    go_wp2_with fail
    go_ret
    exact ⟨rfl, rfl⟩
  · cases p
    · rw [firstW_out (by rw [hp]; simp)]
      clear hq hp
      go_enter Try.func17, Try.ntmps17
      go_wp2_with fail
      refine (C.out).mono ?_
      rintro e w1 ⟨rfl, rfl⟩
      go_wp2_with fail
      refine (C2.out).mono ?_
      rintro e w1 ⟨rfl, rfl⟩
      go_wp2_with fail
      go_ret
      exact ⟨rfl, rfl⟩
    · rw [firstW_in hq hp]
      have hm := mul_small (b := b) (k := k) (by simp at hq; exact hq.1) (by simp at hq; exact hq.2) ((inE_iff k).1 hp).1 ((inE_iff k).1 hp).2
      have hw : IntKind.i64.wrap (b * k) = b * k := IntWalk.i64_in _ ⟨by omega, by omega⟩
      clear hq hp hm
      go_enter Try.func17, Try.ntmps17
      go_wp2_with fail
      refine (C.out).mono ?_
      rintro e w1 ⟨rfl, rfl⟩
      go_wp2_with fail
      refine (C2.out).mono ?_
      rintro e w1 ⟨rfl, rfl⟩
      go_wp2_with fail
      go_ret
      exact ⟨rfl, rfl⟩
theorem may_step {a b : Int} (h : mayW a b = true) : (decide (1 ≤ b) && decide (b ≤ 20)) = true := by
  have := (mayW_iff a b).1 h
  simp; omega
theorem last_at (a b k : Int) {z : Int} (hz : lastW a b k = z) (w : World) :
    Calls Try.prog 19 #[.int .i64 a, .int .i64 b, .int .i64 k] w fun e w' => e = .returned (.int .i64 z) ∧ w' = w := by
  subst hz
  obtain ⟨q, hq⟩ : ∃ q, mayW a b = q := ⟨_, rfl⟩
  obtain ⟨p, hp⟩ : ∃ p, inE k = p := ⟨_, rfl⟩
  have C := hide (may_at a b hq w)
  have C2 := hide (mayNum_at k hp w)
  cases q
  · rw [lastW_out (by rw [hq]; simp)]
    clear hq hp
    go_enter Try.func19, Try.ntmps19
    go_wp2_with fail
    refine (C.out).mono ?_
    rintro e w1 ⟨rfl, rfl⟩
    go_wp2_with fail
    go_ret
    exact ⟨rfl, rfl⟩
  · cases p
    · rw [lastW_out (by rw [hp]; simp)]
      clear hq hp
      go_enter Try.func19, Try.ntmps19
      go_wp2_with fail
      refine (C.out).mono ?_
      rintro e w1 ⟨rfl, rfl⟩
      go_wp2_with fail
      refine (C2.out).mono ?_
      rintro e w1 ⟨rfl, rfl⟩
      go_wp2_with fail
      go_ret
      exact ⟨rfl, rfl⟩
    · rw [lastW_in hq hp]
      have hm := mul_small (b := b) (k := k) (by have := (mayW_iff a b).1 hq; omega) (by have := (mayW_iff a b).1 hq; omega) ((inE_iff k).1 hp).1 ((inE_iff k).1 hp).2
      have ha := (mayW_iff a b).1 hq
      have C3 := hide (first_at b k (firstW_in (may_step hq) hp) w)
      have hw : IntKind.i64.wrap (b * k + a) = b * k + a := IntWalk.i64_in _ ⟨by omega, by omega⟩
      have hw2 : IntKind.i64.wrap (b * k + a - 1) = b * k + a - 1 := IntWalk.i64_in _ ⟨by omega, by omega⟩
      clear hq hp hm ha
      go_enter Try.func19, Try.ntmps19
      go_wp2_with fail
      refine (C.out).mono ?_
      rintro e w1 ⟨rfl, rfl⟩
      go_wp2_with fail
      refine (C2.out).mono ?_
      rintro e w1 ⟨rfl, rfl⟩
      go_wp2_with fail
      refine (C3.out).mono ?_
      rintro e w1 ⟨rfl, rfl⟩
      go_wp2_with fail
      go_ret
      exact ⟨rfl, rfl⟩
theorem lo_eq {a b e : Int} (hb : 1 ≤ b) (h : ¬ e < a) : Int.tdiv (e - a) b + 1 = loW a b e := by
  unfold loW
  rw [if_neg (by omega), Int.tdiv_eq_ediv_of_nonneg (by omega), Int.add_ediv_of_dvd_right (Int.dvd_refl b), Int.ediv_self (by omega)]
theorem lo_small {a b e : Int} (h : mayW a b = true) (he : inE e = true) : 0 ≤ loW a b e ∧ loW a b e ≤ hiW b e ∧ hiW b e ≤ 1048576 := by
  obtain ⟨h1, h2, h3, h4⟩ := (mayW_iff a b).1 h
  obtain ⟨e1, e2⟩ := (inE_iff e).1 he
  exact ⟨loW_nonneg h3 h4, lo_le_hi h1 h3 h4 e1, Int.le_trans (hiW_le h3 e1) e2⟩
theorem over_at (a b e : Int) (h : mayW a b = true) (he : inE e = true) (w : World) :
    Calls Try.prog 22 #[.int .i64 a, .int .i64 b, .int .i64 e] w fun r w' => r = .returned (.int .i64 (loW a b e)) ∧ w' = w := by
  obtain ⟨h1, h2, h3, h4⟩ := (mayW_iff a b).1 h
  obtain ⟨e1, e2⟩ := (inE_iff e).1 he
  have hlo := lo_small h he
  by_cases hc : e < a
  · have HL := hide (show loW a b e = 0 by unfold loW; rw [if_pos (by omega)])
    clear h1 h2 h3 h4 e1 e2 hlo
    go_enter Try.func22, Try.ntmps22
    go_wp2_with fail
    go_ret
    exact ⟨ret_int HL.out.symm, rfl⟩
  · have HL := hide (lo_eq h3 hc)
    have hb0 : ¬ b = 0 := by omega
    have hw : IntKind.i64.wrap (e - a) = e - a := IntWalk.i64_in _ ⟨by omega, by omega⟩
    have hw2 : IntKind.i64.wrap (Int.tdiv (e - a) b) = Int.tdiv (e - a) b := IntWalk.i64_in _ ⟨by have := HL.out; omega, by have := HL.out; omega⟩
    have hw3 : IntKind.i64.wrap (Int.tdiv (e - a) b + 1) = Int.tdiv (e - a) b + 1 := IntWalk.i64_in _ ⟨by have := HL.out; omega, by have := HL.out; omega⟩
    clear h1 h2 h3 h4 e1 e2 hlo
    go_enter Try.func22, Try.ntmps22
    go_wp2_with fail
    go_ret
    exact ⟨ret_int HL.out, rfl⟩

theorem rmay_at (a b : Int) {p : Bool} (hp : mayW a b = p) (w : World) :
    Calls Try.prog 16 #[.int .i64 a, .int .i64 b] w fun e w' => e = .returned (.bool p) ∧ w' = w := by
  subst hp
  by_cases h1 : 1 ≤ a <;> by_cases h2 : a ≤ 20 <;> by_cases h3 : 1 ≤ b <;> by_cases h4 : b ≤ a
  all_goals
    go_enter Try.func16, Try.ntmps16
    go_wp2
  all_goals go_ret
  all_goals exact ⟨ret_bool (by simp [mayW]; try omega), rfl⟩
theorem rfirst_at (b k : Int) {z : Int} (hz : firstW b k = z) (w : World) :
    Calls Try.prog 18 #[.int .i64 b, .int .i64 k] w fun e w' => e = .returned (.int .i64 z) ∧ w' = w := by
  subst hz
  by_cases h : 1 ≤ b ∧ b ≤ 20 ∧ 0 ≤ k ∧ k ≤ 1048576
  · obtain ⟨h1, h2, h3, h4⟩ := h
    have hm := mul_small h1 h2 h3 h4
    have HF := hide (show firstW b k = b * k by unfold firstW; rw [if_pos ⟨h1, h2, h3, h4⟩])
    have hw : IntKind.i64.wrap (b * k) = b * k := IntWalk.i64_in _ ⟨by omega, by omega⟩
    have d1 : ¬ b < 1 := by omega
    have d2 : ¬ 20 < b := by omega
    have d3 : ¬ k < 0 := by omega
    have d4 : ¬ 1048576 < k := by omega
    clear hm h1 h2 h3 h4
    go_enter Try.func18, Try.ntmps18
    go_wp2
    go_ret
    exact ⟨ret_int HF.out.symm, rfl⟩
  · have HF := hide (show firstW b k = -1 by unfold firstW; rw [if_neg h])
    have hc : b < 1 ∨ (¬ b < 1 ∧ 20 < b) ∨ (¬ b < 1 ∧ ¬ 20 < b ∧ k < 0) ∨ (¬ b < 1 ∧ ¬ 20 < b ∧ ¬ k < 0 ∧ 1048576 < k) := by omega
    clear h
    rcases hc with d1 | ⟨d1, d2⟩ | ⟨d1, d2, d3⟩ | ⟨d1, d2, d3, d4⟩
    all_goals
      go_enter Try.func18, Try.ntmps18
      go_wp2
      go_ret
      exact ⟨ret_int HF.out.symm, rfl⟩
theorem rlast_at (a b k : Int) {z : Int} (hz : lastW a b k = z) (w : World) :
    Calls Try.prog 20 #[.int .i64 a, .int .i64 b, .int .i64 k] w fun e w' => e = .returned (.int .i64 z) ∧ w' = w := by
  subst hz
  obtain ⟨q, hq⟩ : ∃ q, mayW a b = q := ⟨_, rfl⟩
  have C := hide (rmay_at a b hq w)
  cases q
  · rw [lastW_out (by rw [hq]; simp)]
    clear hq
    go_enter Try.func20, Try.ntmps20
    go_wp2_with fail
    refine (C.out).mono ?_
    rintro e w1 ⟨rfl, rfl⟩
    go_wp2_with fail
    go_ret
    exact ⟨rfl, rfl⟩
  · by_cases h1 : k < 0
    · rw [lastW_out (by rw [inE_iff]; omega)]
      clear hq
      go_enter Try.func20, Try.ntmps20
      go_wp2_with fail
      refine (C.out).mono ?_
      rintro e w1 ⟨rfl, rfl⟩
      go_wp2_with fail
      go_ret
      exact ⟨rfl, rfl⟩
    · by_cases h2 : 1048576 < k
      · rw [lastW_out (by rw [inE_iff]; omega)]
        clear hq
        go_enter Try.func20, Try.ntmps20
        go_wp2_with fail
        refine (C.out).mono ?_
        rintro e w1 ⟨rfl, rfl⟩
        go_wp2_with fail
        go_ret
        exact ⟨rfl, rfl⟩
      · rw [lastW_in hq (by rw [inE_iff]; omega)]
        have ha := (mayW_iff a b).1 hq
        have hm := mul_small (b := b) (k := k) (by omega) (by omega) (by omega) (by omega)
        have hw0 : IntKind.i64.wrap (b * k) = b * k := IntWalk.i64_in _ ⟨by omega, by omega⟩
        have hw : IntKind.i64.wrap (b * k + a) = b * k + a := IntWalk.i64_in _ ⟨by omega, by omega⟩
        have hw2 : IntKind.i64.wrap (b * k + a - 1) = b * k + a - 1 := IntWalk.i64_in _ ⟨by omega, by omega⟩
        clear hq hm ha
        go_enter Try.func20, Try.ntmps20
        go_wp2_with fail
        refine (C.out).mono ?_
        rintro e w1 ⟨rfl, rfl⟩
        go_wp2_with fail
        go_ret
        exact ⟨rfl, rfl⟩

end Go.Proofs.Ytlnpemjamcpheaa
