/-
  What the document's own May of summaries does to the world: for every summary it returns its plain answer, and what was there stays as it was.
-/
import Derived.Test.YtehianjfpmbfpaaGreatSMy
namespace Go.Proofs.YtehianjfpmbfpaaGreat
open Go.RowKit
set_option linter.unusedVariables false

theorem refDepth_any (n : Int) (w : World) :
    Calls Tryz.prog 70 #[.int .i64 n] w fun e w' => e = .returned (.bool (withinB n 3)) ∧ w' = w := by
  unfold withinB
  by_cases h : 0 ≤ n
  all_goals
    go_enter Tryz.func70, Tryz.ntmps70
    go_wp2
    all_goals go_ret
    all_goals exact ⟨ret_bool (by first | (simp [h]; done) | (simp; omega)), rfl⟩

set_option maxHeartbeats 4000000 in
theorem refMayS_0 (f t k ep x y z : Int) (w : World) (h1 : withinB f 3 = false) :
    Calls Tryz.prog 44 #[.agg #[.int .i64 f, .int .i64 t, .int .i64 k, .int .i64 ep, .int .i64 x, .int .i64 y, .int .i64 z]] w fun e w' => e = .returned (.bool false) ∧ Below w.heap.size w w' := by
  go_enter Tryz.func44, Tryz.ntmps44
  go_wp2_with (go_at_call 70; refine (refDepth_any _ _).mono ?_; rintro e w' ⟨rfl, rfl⟩)
  all_goals go_ret
  all_goals refine ⟨rfl, ?_⟩
  all_goals (repeat (first | exact Below.refl _ _ | apply below_drewN | refine Below.alloc ?_ (by simp; try omega) _))
set_option maxHeartbeats 4000000 in
theorem refMayS_1 (f t k ep x y z : Int) (w : World) (h1 : withinB f 3 = true) (h2 : withinB t 3 = false) :
    Calls Tryz.prog 44 #[.agg #[.int .i64 f, .int .i64 t, .int .i64 k, .int .i64 ep, .int .i64 x, .int .i64 y, .int .i64 z]] w fun e w' => e = .returned (.bool false) ∧ Below w.heap.size w w' := by
  go_enter Tryz.func44, Tryz.ntmps44
  go_wp2_with (go_at_call 70; refine (refDepth_any _ _).mono ?_; rintro e w' ⟨rfl, rfl⟩)
  all_goals go_ret
  all_goals refine ⟨rfl, ?_⟩
  all_goals (repeat (first | exact Below.refl _ _ | apply below_drewN | refine Below.alloc ?_ (by simp; try omega) _))
set_option maxHeartbeats 4000000 in
theorem refMayS_t0 (f k ep x y z : Int) (w : World) (h1 : withinB f 3 = true) :
    Calls Tryz.prog 44 #[.agg #[.int .i64 f, .int .i64 0, .int .i64 k, .int .i64 ep, .int .i64 x, .int .i64 y, .int .i64 z]] w fun e w' => e = .returned (.bool (mayS ⟨f, 0, k, ep, x, y, z⟩)) ∧ Below w.heap.size w w' := by
  have h2 : withinB 0 3 = true := by decide
  go_enter Tryz.func44, Tryz.ntmps44
  go_wp2_with (go_at_call 70; refine (refDepth_any _ _).mono ?_; rintro e w' ⟨rfl, rfl⟩)
  repeat any_goals (first
    | (refine wp_loop_rounds 4 ?_; rw [rounds_succ]; go_wp2)
    | (rw [rounds_succ]; go_wp2)
    | (go_quiet ((go_at_call 70; refine (refDepth_any _ _).mono ?_; rintro e w' ⟨rfl, rfl⟩; exact ⟨rfl, _, rfl⟩)); go_wp2))
  all_goals go_ret
  all_goals refine ⟨ret_bool ?_, ?_⟩
  all_goals first | (rw [mayS_iff]; simp [within_iff] at *; omega) | (repeat (first | exact Below.refl _ _ | apply below_drewN | refine Below.alloc ?_ (by simp; try omega) _))
set_option maxHeartbeats 4000000 in
theorem refMayS_t1 (f k ep x y z : Int) (w : World) (h1 : withinB f 3 = true) :
    Calls Tryz.prog 44 #[.agg #[.int .i64 f, .int .i64 1, .int .i64 k, .int .i64 ep, .int .i64 x, .int .i64 y, .int .i64 z]] w fun e w' => e = .returned (.bool (mayS ⟨f, 1, k, ep, x, y, z⟩)) ∧ Below w.heap.size w w' := by
  have h2 : withinB 1 3 = true := by decide
  go_enter Tryz.func44, Tryz.ntmps44
  go_wp2_with (go_at_call 70; refine (refDepth_any _ _).mono ?_; rintro e w' ⟨rfl, rfl⟩)
  repeat any_goals (first
    | (refine wp_loop_rounds 4 ?_; rw [rounds_succ]; go_wp2)
    | (rw [rounds_succ]; go_wp2)
    | (go_quiet ((go_at_call 70; refine (refDepth_any _ _).mono ?_; rintro e w' ⟨rfl, rfl⟩; exact ⟨rfl, _, rfl⟩)); go_wp2))
  all_goals go_ret
  all_goals refine ⟨ret_bool ?_, ?_⟩
  all_goals first | (rw [mayS_iff]; simp [within_iff] at *; omega) | (repeat (first | exact Below.refl _ _ | apply below_drewN | refine Below.alloc ?_ (by simp; try omega) _))
set_option maxHeartbeats 4000000 in
theorem refMayS_t2 (f k ep x y z : Int) (w : World) (h1 : withinB f 3 = true) :
    Calls Tryz.prog 44 #[.agg #[.int .i64 f, .int .i64 2, .int .i64 k, .int .i64 ep, .int .i64 x, .int .i64 y, .int .i64 z]] w fun e w' => e = .returned (.bool (mayS ⟨f, 2, k, ep, x, y, z⟩)) ∧ Below w.heap.size w w' := by
  have h2 : withinB 2 3 = true := by decide
  go_enter Tryz.func44, Tryz.ntmps44
  go_wp2_with (go_at_call 70; refine (refDepth_any _ _).mono ?_; rintro e w' ⟨rfl, rfl⟩)
  repeat any_goals (first
    | (refine wp_loop_rounds 4 ?_; rw [rounds_succ]; go_wp2)
    | (rw [rounds_succ]; go_wp2)
    | (go_quiet ((go_at_call 70; refine (refDepth_any _ _).mono ?_; rintro e w' ⟨rfl, rfl⟩; exact ⟨rfl, _, rfl⟩)); go_wp2))
  all_goals go_ret
  all_goals refine ⟨ret_bool ?_, ?_⟩
  all_goals first | (rw [mayS_iff]; simp [within_iff] at *; omega) | (repeat (first | exact Below.refl _ _ | apply below_drewN | refine Below.alloc ?_ (by simp; try omega) _))
set_option maxHeartbeats 4000000 in
theorem refMayS_t3 (f k ep x y z : Int) (w : World) (h1 : withinB f 3 = true) :
    Calls Tryz.prog 44 #[.agg #[.int .i64 f, .int .i64 3, .int .i64 k, .int .i64 ep, .int .i64 x, .int .i64 y, .int .i64 z]] w fun e w' => e = .returned (.bool (mayS ⟨f, 3, k, ep, x, y, z⟩)) ∧ Below w.heap.size w w' := by
  have h2 : withinB 3 3 = true := by decide
  go_enter Tryz.func44, Tryz.ntmps44
  go_wp2_with (go_at_call 70; refine (refDepth_any _ _).mono ?_; rintro e w' ⟨rfl, rfl⟩)
  repeat any_goals (first
    | (refine wp_loop_rounds 4 ?_; rw [rounds_succ]; go_wp2)
    | (rw [rounds_succ]; go_wp2)
    | (go_quiet ((go_at_call 70; refine (refDepth_any _ _).mono ?_; rintro e w' ⟨rfl, rfl⟩; exact ⟨rfl, _, rfl⟩)); go_wp2))
  all_goals go_ret
  all_goals refine ⟨ret_bool ?_, ?_⟩
  all_goals first | (rw [mayS_iff]; simp [within_iff] at *; omega) | (repeat (first | exact Below.refl _ _ | apply below_drewN | refine Below.alloc ?_ (by simp; try omega) _))
theorem refMayS_any (s : Sm) (w : World) :
    Calls Tryz.prog 44 #[.agg #[.int .i64 s.f, .int .i64 s.t, .int .i64 s.k, .int .i64 s.ep, .int .i64 s.x, .int .i64 s.y, .int .i64 s.z]] w fun e w' => e = .returned (.bool (mayS s)) ∧ Below w.heap.size w w' := by
  obtain ⟨f, t, k, ep, x, y, z⟩ := s
  dsimp only
  cases h1 : withinB f 3
  · simpa only [mayS_split, h1, Bool.false_and] using refMayS_0 f t k ep x y z w h1
  cases h2 : withinB t 3
  · simpa only [mayS_split, h1, h2, Bool.and_false, Bool.false_and] using refMayS_1 f t k ep x y z w h1 h2
  have := (within_iff t 3).1 h2
  have : t = 0 ∨ t = 1 ∨ t = 2 ∨ t = 3 := by omega
  rcases this with rfl | rfl | rfl | rfl
  · exact refMayS_t0 f k ep x y z w h1
  · exact refMayS_t1 f k ep x y z w h1
  · exact refMayS_t2 f k ep x y z w h1
  · exact refMayS_t3 f k ep x y z w h1

end Go.Proofs.YtehianjfpmbfpaaGreat
