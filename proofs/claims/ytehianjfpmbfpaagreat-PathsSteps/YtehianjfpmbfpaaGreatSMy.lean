/-
  What summary.May and the document's own May do to the world: for every summary each returns its plain answer, and what was there stays as it was.
-/
import Derived.Test.YtehianjfpmbfpaaGreatSBase
import Derived.Test.YtehianjfpmbfpaaGreatMy
namespace Go.Proofs.YtehianjfpmbfpaaGreat
open Go.RowKit
set_option linter.unusedVariables false

def withinB (n m : Int) : Bool := decide (0 ≤ n) && decide (n ≤ m)
def highI (i d : Int) : Int := if i < d then 1000 else 0

set_option maxHeartbeats 400000 in
theorem within_any (n m : Int) (w : World) :
    Calls Tryz.prog 104 #[.int .i64 n, .int .i64 m] w fun e w' => e = .returned (.bool (withinB n m)) ∧ w' = w := by
  unfold withinB
  by_cases h : 0 ≤ n
  all_goals
    go_enter Tryz.func104, Tryz.ntmps104
    go_wp2
    all_goals go_ret
    all_goals exact ⟨ret_bool (by first | (simp [h]; done) | (simp; omega)), rfl⟩
theorem depthMay_any (n : Int) (w : World) :
    Calls Tryz.prog 84 #[.int .i64 n] w fun e w' => e = .returned (.bool (withinB n 3)) ∧ w' = w := by
  go_enter Tryz.func84, Tryz.ntmps84
  go_wp2_with (go_at_call 104; refine (within_any _ _ _).mono ?_; rintro e w' ⟨rfl, rfl⟩)
  all_goals go_ret
  exact ⟨rfl, rfl⟩
theorem highest_any (i d : Int) (w : World) :
    Calls Tryz.prog 116 #[.int .i64 i, .int .i64 d] w fun e w' => e = .returned (.int .i64 (highI i d)) ∧ w' = w := by
  unfold highI
  by_cases h : i < d
  all_goals
    go_enter Tryz.func116, Tryz.ntmps116
    go_wp2
    all_goals go_ret
    all_goals exact ⟨ret_int (by first | rfl | rw [if_pos h] | rw [if_neg (by omega)]), rfl⟩

theorem within_iff (n m : Int) : withinB n m = true ↔ 0 ≤ n ∧ n ≤ m := by unfold withinB; rw [Bool.and_eq_true, decide_eq_true_iff, decide_eq_true_iff]
theorem within_high (x i t : Int) : withinB x (highI i t) = true ↔ 0 ≤ x ∧ (i < t → x ≤ 1000) ∧ (t ≤ i → x ≤ 0) := by rw [within_iff]; unfold highI; rw [cap_iff]
theorem within_min (k f t : Int) : withinB k (minI f t) = true ↔ 0 ≤ k ∧ k ≤ f ∧ k ≤ t := by
  rw [within_iff]; unfold minI
  by_cases h : t < f
  · rw [if_pos h]; omega
  · rw [if_neg h]; omega
theorem mayS_split (s : Sm) : mayS s = (withinB s.f 3 && withinB s.t 3 && withinB s.k (minI s.f s.t) && withinB s.ep 1048576 && withinB s.x (highI 0 s.t) && withinB s.y (highI 1 s.t) && withinB s.z (highI 2 s.t)) := by
  rw [Bool.eq_iff_iff, mayS_iff]
  simp only [Bool.and_eq_true, within_high, within_min]
  simp only [within_iff]
  constructor
  · rintro ⟨⟨h1, h2, h3, h4⟩, h5, h6, h7, h8, h9⟩
    exact ⟨⟨⟨⟨⟨⟨⟨h1, h2⟩, h3, h4⟩, h5⟩, h6⟩, h7⟩, h8⟩, h9⟩
  · rintro ⟨⟨⟨⟨⟨⟨⟨h1, h2⟩, h3, h4⟩, h5⟩, h6⟩, h7⟩, h8⟩, h9⟩
    exact ⟨⟨h1, h2, h3, h4⟩, h5, h6, h7, h8, h9⟩

/-- The contracts with the answer known. -/
theorem depthMay_at {n : Int} {p : Bool} (h : withinB n 3 = p) (w : World) : Calls Tryz.prog 84 #[.int .i64 n] w fun e w' => e = .returned (.bool p) ∧ w' = w := by rw [← h]; exact depthMay_any n w
theorem within_at {n m : Int} {p : Bool} (h : withinB n m = p) (w : World) : Calls Tryz.prog 104 #[.int .i64 n, .int .i64 m] w fun e w' => e = .returned (.bool p) ∧ w' = w := by rw [← h]; exact within_any n m w

theorem seven (p1 p2 p3 p4 p5 p6 p7 : Bool) : p1 = false ∨ (p1 = true ∧ p2 = false) ∨ (p1 = true ∧ p2 = true ∧ p3 = false) ∨ (p1 = true ∧ p2 = true ∧ p3 = true ∧ p4 = false) ∨ (p1 = true ∧ p2 = true ∧ p3 = true ∧ p4 = true ∧ p5 = false)
    ∨ (p1 = true ∧ p2 = true ∧ p3 = true ∧ p4 = true ∧ p5 = true ∧ p6 = false) ∨ (p1 = true ∧ p2 = true ∧ p3 = true ∧ p4 = true ∧ p5 = true ∧ p6 = true ∧ p7 = false) ∨ (p1 = true ∧ p2 = true ∧ p3 = true ∧ p4 = true ∧ p5 = true ∧ p6 = true ∧ p7 = true) := by
  cases p1 <;> cases p2 <;> cases p3 <;> cases p4 <;> cases p5 <;> cases p6 <;> cases p7 <;> simp

attribute [local go_sem ↓] run_minI
set_option maxHeartbeats 4000000 in
theorem sMay_0 (f t k ep x y z : Int) (w : World) (h1 : withinB f 3 = false) :
    Calls Tryz.prog 93 #[.agg #[.int .i64 f, .int .i64 t, .int .i64 k, .int .i64 ep, .int .i64 x, .int .i64 y, .int .i64 z]] w fun e w' => e = .returned (.bool false) ∧ Below w.heap.size w w' := by
  have i0 := idx0
  have i1 := idx1
  have i2 := idx2
  go_enter Tryz.func93, Tryz.ntmps93
  go_wp2_with ((first | (go_at_call 84; refine (depthMay_any _ _).mono ?_) | (go_at_call 116; refine (highest_any _ _ _).mono ?_) | (go_at_call 104; refine (within_any _ _ _).mono ?_)); rintro e w' ⟨rfl, rfl⟩)
  repeat any_goals (first
    | (refine wp_loop_rounds 4 ?_; rw [rounds_succ]; go_wp2_with ((first | (go_at_call 84; refine (depthMay_any _ _).mono ?_) | (go_at_call 116; refine (highest_any _ _ _).mono ?_) | (go_at_call 104; refine (within_any _ _ _).mono ?_)); rintro e w' ⟨rfl, rfl⟩))
    | (rw [rounds_succ]; go_wp2_with ((first | (go_at_call 84; refine (depthMay_any _ _).mono ?_) | (go_at_call 116; refine (highest_any _ _ _).mono ?_) | (go_at_call 104; refine (within_any _ _ _).mono ?_)); rintro e w' ⟨rfl, rfl⟩))
    | (go_quiet (((first | (go_at_call 84; refine (depthMay_any _ _).mono ?_) | (go_at_call 116; refine (highest_any _ _ _).mono ?_) | (go_at_call 104; refine (within_any _ _ _).mono ?_)); rintro e w' ⟨rfl, rfl⟩; exact ⟨rfl, _, rfl⟩)); go_wp2_with ((first | (go_at_call 84; refine (depthMay_any _ _).mono ?_) | (go_at_call 116; refine (highest_any _ _ _).mono ?_) | (go_at_call 104; refine (within_any _ _ _).mono ?_)); rintro e w' ⟨rfl, rfl⟩)))
  all_goals go_ret
  all_goals refine ⟨rfl, ?_⟩
  all_goals (repeat (first | exact Below.refl _ _ | apply below_drewN | refine Below.alloc ?_ (by simp; try omega) _))
set_option maxHeartbeats 4000000 in
theorem sMay_1 (f t k ep x y z : Int) (w : World) (h1 : withinB f 3 = true) (h2 : withinB t 3 = false) :
    Calls Tryz.prog 93 #[.agg #[.int .i64 f, .int .i64 t, .int .i64 k, .int .i64 ep, .int .i64 x, .int .i64 y, .int .i64 z]] w fun e w' => e = .returned (.bool false) ∧ Below w.heap.size w w' := by
  have i0 := idx0
  have i1 := idx1
  have i2 := idx2
  go_enter Tryz.func93, Tryz.ntmps93
  go_wp2_with ((first | (go_at_call 84; refine (depthMay_any _ _).mono ?_) | (go_at_call 116; refine (highest_any _ _ _).mono ?_) | (go_at_call 104; refine (within_any _ _ _).mono ?_)); rintro e w' ⟨rfl, rfl⟩)
  repeat any_goals (first
    | (refine wp_loop_rounds 4 ?_; rw [rounds_succ]; go_wp2_with ((first | (go_at_call 84; refine (depthMay_any _ _).mono ?_) | (go_at_call 116; refine (highest_any _ _ _).mono ?_) | (go_at_call 104; refine (within_any _ _ _).mono ?_)); rintro e w' ⟨rfl, rfl⟩))
    | (rw [rounds_succ]; go_wp2_with ((first | (go_at_call 84; refine (depthMay_any _ _).mono ?_) | (go_at_call 116; refine (highest_any _ _ _).mono ?_) | (go_at_call 104; refine (within_any _ _ _).mono ?_)); rintro e w' ⟨rfl, rfl⟩))
    | (go_quiet (((first | (go_at_call 84; refine (depthMay_any _ _).mono ?_) | (go_at_call 116; refine (highest_any _ _ _).mono ?_) | (go_at_call 104; refine (within_any _ _ _).mono ?_)); rintro e w' ⟨rfl, rfl⟩; exact ⟨rfl, _, rfl⟩)); go_wp2_with ((first | (go_at_call 84; refine (depthMay_any _ _).mono ?_) | (go_at_call 116; refine (highest_any _ _ _).mono ?_) | (go_at_call 104; refine (within_any _ _ _).mono ?_)); rintro e w' ⟨rfl, rfl⟩)))
  all_goals go_ret
  all_goals refine ⟨rfl, ?_⟩
  all_goals (repeat (first | exact Below.refl _ _ | apply below_drewN | refine Below.alloc ?_ (by simp; try omega) _))
set_option maxHeartbeats 4000000 in
theorem sMay_2 (f t k ep x y z : Int) (w : World) (h1 : withinB f 3 = true) (h2 : withinB t 3 = true) (h3 : withinB k (minI f t) = false) :
    Calls Tryz.prog 93 #[.agg #[.int .i64 f, .int .i64 t, .int .i64 k, .int .i64 ep, .int .i64 x, .int .i64 y, .int .i64 z]] w fun e w' => e = .returned (.bool false) ∧ Below w.heap.size w w' := by
  have i0 := idx0
  have i1 := idx1
  have i2 := idx2
  go_enter Tryz.func93, Tryz.ntmps93
  go_wp2_with ((first | (go_at_call 84; refine (depthMay_any _ _).mono ?_) | (go_at_call 116; refine (highest_any _ _ _).mono ?_) | (go_at_call 104; refine (within_any _ _ _).mono ?_)); rintro e w' ⟨rfl, rfl⟩)
  repeat any_goals (first
    | (refine wp_loop_rounds 4 ?_; rw [rounds_succ]; go_wp2_with ((first | (go_at_call 84; refine (depthMay_any _ _).mono ?_) | (go_at_call 116; refine (highest_any _ _ _).mono ?_) | (go_at_call 104; refine (within_any _ _ _).mono ?_)); rintro e w' ⟨rfl, rfl⟩))
    | (rw [rounds_succ]; go_wp2_with ((first | (go_at_call 84; refine (depthMay_any _ _).mono ?_) | (go_at_call 116; refine (highest_any _ _ _).mono ?_) | (go_at_call 104; refine (within_any _ _ _).mono ?_)); rintro e w' ⟨rfl, rfl⟩))
    | (go_quiet (((first | (go_at_call 84; refine (depthMay_any _ _).mono ?_) | (go_at_call 116; refine (highest_any _ _ _).mono ?_) | (go_at_call 104; refine (within_any _ _ _).mono ?_)); rintro e w' ⟨rfl, rfl⟩; exact ⟨rfl, _, rfl⟩)); go_wp2_with ((first | (go_at_call 84; refine (depthMay_any _ _).mono ?_) | (go_at_call 116; refine (highest_any _ _ _).mono ?_) | (go_at_call 104; refine (within_any _ _ _).mono ?_)); rintro e w' ⟨rfl, rfl⟩)))
  all_goals go_ret
  all_goals refine ⟨rfl, ?_⟩
  all_goals (repeat (first | exact Below.refl _ _ | apply below_drewN | refine Below.alloc ?_ (by simp; try omega) _))
set_option maxHeartbeats 4000000 in
theorem sMay_3 (f t k ep x y z : Int) (w : World) (h1 : withinB f 3 = true) (h2 : withinB t 3 = true) (h3 : withinB k (minI f t) = true) (h4 : withinB ep 1048576 = false) :
    Calls Tryz.prog 93 #[.agg #[.int .i64 f, .int .i64 t, .int .i64 k, .int .i64 ep, .int .i64 x, .int .i64 y, .int .i64 z]] w fun e w' => e = .returned (.bool false) ∧ Below w.heap.size w w' := by
  have i0 := idx0
  have i1 := idx1
  have i2 := idx2
  go_enter Tryz.func93, Tryz.ntmps93
  go_wp2_with ((first | (go_at_call 84; refine (depthMay_any _ _).mono ?_) | (go_at_call 116; refine (highest_any _ _ _).mono ?_) | (go_at_call 104; refine (within_any _ _ _).mono ?_)); rintro e w' ⟨rfl, rfl⟩)
  repeat any_goals (first
    | (refine wp_loop_rounds 4 ?_; rw [rounds_succ]; go_wp2_with ((first | (go_at_call 84; refine (depthMay_any _ _).mono ?_) | (go_at_call 116; refine (highest_any _ _ _).mono ?_) | (go_at_call 104; refine (within_any _ _ _).mono ?_)); rintro e w' ⟨rfl, rfl⟩))
    | (rw [rounds_succ]; go_wp2_with ((first | (go_at_call 84; refine (depthMay_any _ _).mono ?_) | (go_at_call 116; refine (highest_any _ _ _).mono ?_) | (go_at_call 104; refine (within_any _ _ _).mono ?_)); rintro e w' ⟨rfl, rfl⟩))
    | (go_quiet (((first | (go_at_call 84; refine (depthMay_any _ _).mono ?_) | (go_at_call 116; refine (highest_any _ _ _).mono ?_) | (go_at_call 104; refine (within_any _ _ _).mono ?_)); rintro e w' ⟨rfl, rfl⟩; exact ⟨rfl, _, rfl⟩)); go_wp2_with ((first | (go_at_call 84; refine (depthMay_any _ _).mono ?_) | (go_at_call 116; refine (highest_any _ _ _).mono ?_) | (go_at_call 104; refine (within_any _ _ _).mono ?_)); rintro e w' ⟨rfl, rfl⟩)))
  all_goals go_ret
  all_goals refine ⟨rfl, ?_⟩
  all_goals (repeat (first | exact Below.refl _ _ | apply below_drewN | refine Below.alloc ?_ (by simp; try omega) _))
set_option maxHeartbeats 4000000 in
theorem sMay_4 (f t k ep x y z : Int) (w : World) (h1 : withinB f 3 = true) (h2 : withinB t 3 = true) (h3 : withinB k (minI f t) = true) (h4 : withinB ep 1048576 = true) (h5 : withinB x (highI 0 t) = false) :
    Calls Tryz.prog 93 #[.agg #[.int .i64 f, .int .i64 t, .int .i64 k, .int .i64 ep, .int .i64 x, .int .i64 y, .int .i64 z]] w fun e w' => e = .returned (.bool false) ∧ Below w.heap.size w w' := by
  have i0 := idx0
  have i1 := idx1
  have i2 := idx2
  go_enter Tryz.func93, Tryz.ntmps93
  go_wp2_with ((first | (go_at_call 84; refine (depthMay_any _ _).mono ?_) | (go_at_call 116; refine (highest_any _ _ _).mono ?_) | (go_at_call 104; refine (within_any _ _ _).mono ?_)); rintro e w' ⟨rfl, rfl⟩)
  repeat any_goals (first
    | (refine wp_loop_rounds 4 ?_; rw [rounds_succ]; go_wp2_with ((first | (go_at_call 84; refine (depthMay_any _ _).mono ?_) | (go_at_call 116; refine (highest_any _ _ _).mono ?_) | (go_at_call 104; refine (within_any _ _ _).mono ?_)); rintro e w' ⟨rfl, rfl⟩))
    | (rw [rounds_succ]; go_wp2_with ((first | (go_at_call 84; refine (depthMay_any _ _).mono ?_) | (go_at_call 116; refine (highest_any _ _ _).mono ?_) | (go_at_call 104; refine (within_any _ _ _).mono ?_)); rintro e w' ⟨rfl, rfl⟩))
    | (go_quiet (((first | (go_at_call 84; refine (depthMay_any _ _).mono ?_) | (go_at_call 116; refine (highest_any _ _ _).mono ?_) | (go_at_call 104; refine (within_any _ _ _).mono ?_)); rintro e w' ⟨rfl, rfl⟩; exact ⟨rfl, _, rfl⟩)); go_wp2_with ((first | (go_at_call 84; refine (depthMay_any _ _).mono ?_) | (go_at_call 116; refine (highest_any _ _ _).mono ?_) | (go_at_call 104; refine (within_any _ _ _).mono ?_)); rintro e w' ⟨rfl, rfl⟩)))
  all_goals go_ret
  all_goals refine ⟨rfl, ?_⟩
  all_goals (repeat (first | exact Below.refl _ _ | apply below_drewN | refine Below.alloc ?_ (by simp; try omega) _))
set_option maxHeartbeats 4000000 in
theorem sMay_5 (f t k ep x y z : Int) (w : World) (h1 : withinB f 3 = true) (h2 : withinB t 3 = true) (h3 : withinB k (minI f t) = true) (h4 : withinB ep 1048576 = true) (h5 : withinB x (highI 0 t) = true) (h6 : withinB y (highI 1 t) = false) :
    Calls Tryz.prog 93 #[.agg #[.int .i64 f, .int .i64 t, .int .i64 k, .int .i64 ep, .int .i64 x, .int .i64 y, .int .i64 z]] w fun e w' => e = .returned (.bool false) ∧ Below w.heap.size w w' := by
  have i0 := idx0
  have i1 := idx1
  have i2 := idx2
  go_enter Tryz.func93, Tryz.ntmps93
  go_wp2_with ((first | (go_at_call 84; refine (depthMay_any _ _).mono ?_) | (go_at_call 116; refine (highest_any _ _ _).mono ?_) | (go_at_call 104; refine (within_any _ _ _).mono ?_)); rintro e w' ⟨rfl, rfl⟩)
  repeat any_goals (first
    | (refine wp_loop_rounds 4 ?_; rw [rounds_succ]; go_wp2_with ((first | (go_at_call 84; refine (depthMay_any _ _).mono ?_) | (go_at_call 116; refine (highest_any _ _ _).mono ?_) | (go_at_call 104; refine (within_any _ _ _).mono ?_)); rintro e w' ⟨rfl, rfl⟩))
    | (rw [rounds_succ]; go_wp2_with ((first | (go_at_call 84; refine (depthMay_any _ _).mono ?_) | (go_at_call 116; refine (highest_any _ _ _).mono ?_) | (go_at_call 104; refine (within_any _ _ _).mono ?_)); rintro e w' ⟨rfl, rfl⟩))
    | (go_quiet (((first | (go_at_call 84; refine (depthMay_any _ _).mono ?_) | (go_at_call 116; refine (highest_any _ _ _).mono ?_) | (go_at_call 104; refine (within_any _ _ _).mono ?_)); rintro e w' ⟨rfl, rfl⟩; exact ⟨rfl, _, rfl⟩)); go_wp2_with ((first | (go_at_call 84; refine (depthMay_any _ _).mono ?_) | (go_at_call 116; refine (highest_any _ _ _).mono ?_) | (go_at_call 104; refine (within_any _ _ _).mono ?_)); rintro e w' ⟨rfl, rfl⟩)))
  all_goals go_ret
  all_goals refine ⟨rfl, ?_⟩
  all_goals (repeat (first | exact Below.refl _ _ | apply below_drewN | refine Below.alloc ?_ (by simp; try omega) _))
set_option maxHeartbeats 4000000 in
theorem sMay_6 (f t k ep x y z : Int) (w : World) (h1 : withinB f 3 = true) (h2 : withinB t 3 = true) (h3 : withinB k (minI f t) = true) (h4 : withinB ep 1048576 = true) (h5 : withinB x (highI 0 t) = true) (h6 : withinB y (highI 1 t) = true) (h7 : withinB z (highI 2 t) = false) :
    Calls Tryz.prog 93 #[.agg #[.int .i64 f, .int .i64 t, .int .i64 k, .int .i64 ep, .int .i64 x, .int .i64 y, .int .i64 z]] w fun e w' => e = .returned (.bool false) ∧ Below w.heap.size w w' := by
  have i0 := idx0
  have i1 := idx1
  have i2 := idx2
  go_enter Tryz.func93, Tryz.ntmps93
  go_wp2_with ((first | (go_at_call 84; refine (depthMay_any _ _).mono ?_) | (go_at_call 116; refine (highest_any _ _ _).mono ?_) | (go_at_call 104; refine (within_any _ _ _).mono ?_)); rintro e w' ⟨rfl, rfl⟩)
  repeat any_goals (first
    | (refine wp_loop_rounds 4 ?_; rw [rounds_succ]; go_wp2_with ((first | (go_at_call 84; refine (depthMay_any _ _).mono ?_) | (go_at_call 116; refine (highest_any _ _ _).mono ?_) | (go_at_call 104; refine (within_any _ _ _).mono ?_)); rintro e w' ⟨rfl, rfl⟩))
    | (rw [rounds_succ]; go_wp2_with ((first | (go_at_call 84; refine (depthMay_any _ _).mono ?_) | (go_at_call 116; refine (highest_any _ _ _).mono ?_) | (go_at_call 104; refine (within_any _ _ _).mono ?_)); rintro e w' ⟨rfl, rfl⟩))
    | (go_quiet (((first | (go_at_call 84; refine (depthMay_any _ _).mono ?_) | (go_at_call 116; refine (highest_any _ _ _).mono ?_) | (go_at_call 104; refine (within_any _ _ _).mono ?_)); rintro e w' ⟨rfl, rfl⟩; exact ⟨rfl, _, rfl⟩)); go_wp2_with ((first | (go_at_call 84; refine (depthMay_any _ _).mono ?_) | (go_at_call 116; refine (highest_any _ _ _).mono ?_) | (go_at_call 104; refine (within_any _ _ _).mono ?_)); rintro e w' ⟨rfl, rfl⟩)))
  all_goals go_ret
  all_goals refine ⟨rfl, ?_⟩
  all_goals (repeat (first | exact Below.refl _ _ | apply below_drewN | refine Below.alloc ?_ (by simp; try omega) _))
set_option maxHeartbeats 4000000 in
theorem sMay_7 (f t k ep x y z : Int) (w : World) (h1 : withinB f 3 = true) (h2 : withinB t 3 = true) (h3 : withinB k (minI f t) = true) (h4 : withinB ep 1048576 = true) (h5 : withinB x (highI 0 t) = true) (h6 : withinB y (highI 1 t) = true) (h7 : withinB z (highI 2 t) = true) :
    Calls Tryz.prog 93 #[.agg #[.int .i64 f, .int .i64 t, .int .i64 k, .int .i64 ep, .int .i64 x, .int .i64 y, .int .i64 z]] w fun e w' => e = .returned (.bool true) ∧ Below w.heap.size w w' := by
  have i0 := idx0
  have i1 := idx1
  have i2 := idx2
  go_enter Tryz.func93, Tryz.ntmps93
  go_wp2_with ((first | (go_at_call 84; refine (depthMay_any _ _).mono ?_) | (go_at_call 116; refine (highest_any _ _ _).mono ?_) | (go_at_call 104; refine (within_any _ _ _).mono ?_)); rintro e w' ⟨rfl, rfl⟩)
  repeat any_goals (first
    | (refine wp_loop_rounds 4 ?_; rw [rounds_succ]; go_wp2_with ((first | (go_at_call 84; refine (depthMay_any _ _).mono ?_) | (go_at_call 116; refine (highest_any _ _ _).mono ?_) | (go_at_call 104; refine (within_any _ _ _).mono ?_)); rintro e w' ⟨rfl, rfl⟩))
    | (rw [rounds_succ]; go_wp2_with ((first | (go_at_call 84; refine (depthMay_any _ _).mono ?_) | (go_at_call 116; refine (highest_any _ _ _).mono ?_) | (go_at_call 104; refine (within_any _ _ _).mono ?_)); rintro e w' ⟨rfl, rfl⟩))
    | (go_quiet (((first | (go_at_call 84; refine (depthMay_any _ _).mono ?_) | (go_at_call 116; refine (highest_any _ _ _).mono ?_) | (go_at_call 104; refine (within_any _ _ _).mono ?_)); rintro e w' ⟨rfl, rfl⟩; exact ⟨rfl, _, rfl⟩)); go_wp2_with ((first | (go_at_call 84; refine (depthMay_any _ _).mono ?_) | (go_at_call 116; refine (highest_any _ _ _).mono ?_) | (go_at_call 104; refine (within_any _ _ _).mono ?_)); rintro e w' ⟨rfl, rfl⟩)))
  all_goals go_ret
  all_goals refine ⟨rfl, ?_⟩
  all_goals (repeat (first | exact Below.refl _ _ | apply below_drewN | refine Below.alloc ?_ (by simp; try omega) _))

theorem sMay_any (s : Sm) (w : World) :
    Calls Tryz.prog 93 #[.agg #[.int .i64 s.f, .int .i64 s.t, .int .i64 s.k, .int .i64 s.ep, .int .i64 s.x, .int .i64 s.y, .int .i64 s.z]] w fun e w' => e = .returned (.bool (mayS s)) ∧ Below w.heap.size w w' := by
  rw [mayS_split]
  obtain ⟨f, t, k, ep, x, y, z⟩ := s
  dsimp only
  rcases seven (withinB f 3) (withinB t 3) (withinB k (minI f t)) (withinB ep 1048576) (withinB x (highI 0 t)) (withinB y (highI 1 t)) (withinB z (highI 2 t)) with h1 | ⟨h1, h2⟩ | ⟨h1, h2, h3⟩ | ⟨h1, h2, h3, h4⟩ | ⟨h1, h2, h3, h4, h5⟩ | ⟨h1, h2, h3, h4, h5, h6⟩ | ⟨h1, h2, h3, h4, h5, h6, h7⟩ | ⟨h1, h2, h3, h4, h5, h6, h7⟩
  · simpa only [h1, Bool.false_and] using sMay_0 f t k ep x y z w h1
  · simpa only [h1, h2, Bool.and_false, Bool.false_and] using sMay_1 f t k ep x y z w h1 h2
  · simpa only [h1, h2, h3, Bool.and_false, Bool.false_and] using sMay_2 f t k ep x y z w h1 h2 h3
  · simpa only [h1, h2, h3, h4, Bool.and_false, Bool.false_and] using sMay_3 f t k ep x y z w h1 h2 h3 h4
  · simpa only [h1, h2, h3, h4, h5, Bool.and_false, Bool.false_and] using sMay_4 f t k ep x y z w h1 h2 h3 h4 h5
  · simpa only [h1, h2, h3, h4, h5, h6, Bool.and_false, Bool.false_and] using sMay_5 f t k ep x y z w h1 h2 h3 h4 h5 h6
  · simpa only [h1, h2, h3, h4, h5, h6, h7, Bool.and_false] using sMay_6 f t k ep x y z w h1 h2 h3 h4 h5 h6 h7
  · simpa only [h1, h2, h3, h4, h5, h6, h7, Bool.and_true] using sMay_7 f t k ep x y z w h1 h2 h3 h4 h5 h6 h7

end Go.Proofs.YtehianjfpmbfpaaGreat
