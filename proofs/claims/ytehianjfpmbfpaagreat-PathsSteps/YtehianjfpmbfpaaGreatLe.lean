/-
  What ts.LessEq and the document's own LessEq do to the world: for every two times each returns its plain answer, and what was there stays as it was.
-/
import Derived.Test.YtehianjfpmbfpaaGreatBase
namespace Go.Proofs.YtehianjfpmbfpaaGreat
open Go.RowKit

set_option maxHeartbeats 400000 in
theorem lessEq_any (a b : Tm) (w : World) :
    Calls Tryz.prog 88 #[.agg #[.int .i64 a.e, .int .i64 a.d, .int .i64 a.x, .int .i64 a.y, .int .i64 a.z], .agg #[.int .i64 b.e, .int .i64 b.d, .int .i64 b.x, .int .i64 b.y, .int .i64 b.z]] w fun e w' => e = .returned (.bool (leB a b)) ∧ Below w.heap.size w w' := by
  obtain ⟨ae, ad, ax, ay, az⟩ := a
  obtain ⟨be, bd, bx, bY, bz⟩ := b
  dsimp only
  by_cases hd : ad = bd
  · subst hd
    by_cases hr : 0 ≤ ad ∧ ad ≤ 3
    · have : ad = 0 ∨ ad = 1 ∨ ad = 2 ∨ ad = 3 := by omega
      clear hr
      rcases this with rfl | rfl | rfl | rfl
      all_goals
        go_enter Tryz.func88, Tryz.ntmps88
        go_wp2
        repeat any_goals (first | (refine wp_loop_rounds 4 ?_; rw [rounds_succ]; go_wp2) | (rw [rounds_succ]; go_wp2) | (go_quiet (fail); go_wp2))
        all_goals go_ret
        all_goals refine ⟨ret_bool ?_, ?_⟩
        all_goals first | (simp [leB, likeB, depthB]; done) | (simp [leB, likeB, depthB]; omega) | (repeat (first | exact Below.refl _ _ | apply below_drewN | refine Below.alloc ?_ (by simp; try omega) _))
    · by_cases h0 : 0 ≤ ad
      all_goals
        go_enter Tryz.func88, Tryz.ntmps88
        go_wp2
        all_goals go_ret
        all_goals refine ⟨ret_bool ?_, ?_⟩
        all_goals first | (simp [leB, likeB, depthB]; done) | (simp [leB, likeB, depthB]; omega) | (repeat (first | exact Below.refl _ _ | apply below_drewN | refine Below.alloc ?_ (by simp; try omega) _))
  · go_enter Tryz.func88, Tryz.ntmps88
    go_wp2
    all_goals go_ret
    all_goals refine ⟨ret_bool ?_, ?_⟩
    all_goals first | (simp [leB, likeB, depthB]; done) | (simp [leB, likeB, depthB]; omega) | (repeat (first | exact Below.refl _ _ | apply below_drewN | refine Below.alloc ?_ (by simp; try omega) _))
set_option maxHeartbeats 400000 in
theorem refLessEq_any (a b : Tm) (w : World) :
    Calls Tryz.prog 24 #[.agg #[.int .i64 a.e, .int .i64 a.d, .int .i64 a.x, .int .i64 a.y, .int .i64 a.z], .agg #[.int .i64 b.e, .int .i64 b.d, .int .i64 b.x, .int .i64 b.y, .int .i64 b.z]] w fun e w' => e = .returned (.bool (leB a b)) ∧ Below w.heap.size w w' := by
  obtain ⟨ae, ad, ax, ay, az⟩ := a
  obtain ⟨be, bd, bx, bY, bz⟩ := b
  dsimp only
  by_cases hd : ad = bd
  · subst hd
    by_cases hr : 0 ≤ ad ∧ ad ≤ 3
    · have : ad = 0 ∨ ad = 1 ∨ ad = 2 ∨ ad = 3 := by omega
      clear hr
      rcases this with rfl | rfl | rfl | rfl
      all_goals
        go_enter Tryz.func24, Tryz.ntmps24
        go_wp2
        repeat any_goals (first | (refine wp_loop_rounds 4 ?_; rw [rounds_succ]; go_wp2) | (rw [rounds_succ]; go_wp2) | (go_quiet (fail); go_wp2))
        all_goals go_ret
        all_goals refine ⟨ret_bool ?_, ?_⟩
        all_goals first | (simp [leB, likeB, depthB]; done) | (simp [leB, likeB, depthB]; omega) | (repeat (first | exact Below.refl _ _ | apply below_drewN | refine Below.alloc ?_ (by simp; try omega) _))
    · by_cases h0 : 0 ≤ ad
      all_goals
        go_enter Tryz.func24, Tryz.ntmps24
        go_wp2
        all_goals go_ret
        all_goals refine ⟨ret_bool ?_, ?_⟩
        all_goals first | (simp [leB, likeB, depthB]; done) | (simp [leB, likeB, depthB]; omega) | (repeat (first | exact Below.refl _ _ | apply below_drewN | refine Below.alloc ?_ (by simp; try omega) _))
  · go_enter Tryz.func24, Tryz.ntmps24
    go_wp2
    all_goals go_ret
    all_goals refine ⟨ret_bool ?_, ?_⟩
    all_goals first | (simp [leB, likeB, depthB]; done) | (simp [leB, likeB, depthB]; omega) | (repeat (first | exact Below.refl _ _ | apply below_drewN | refine Below.alloc ?_ (by simp; try omega) _))

end Go.Proofs.YtehianjfpmbfpaaGreat
