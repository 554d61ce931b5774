/-
  What ts.Order and the document's own Order do to the world: for every two times each returns its plain answer, and what was there stays as it was.
-/
import Derived.Test.YtehianjfpmbfpaaGreatBase
namespace Go.Proofs.YtehianjfpmbfpaaGreat
open Go.RowKit

set_option maxHeartbeats 400000 in
theorem compare_any (a b : Int) (w : World) :
    Calls Tryz.prog 111 #[.int .i64 a, .int .i64 b] w fun e w' => e = .returned (.int .i64 (cmpI a b)) ∧ w' = w := by
  go_enter Tryz.func111, Tryz.ntmps111
  go_wp2
  all_goals go_ret
  all_goals exact ⟨ret_int (by unfold cmpI; repeat (first | rfl | (rw [if_pos (by omega)]) | (rw [if_neg (by omega)]))), rfl⟩

set_option maxHeartbeats 1000000 in
theorem order_any (a b : Tm) (w : World) :
    Calls Tryz.prog 89 #[.agg #[.int .i64 a.e, .int .i64 a.d, .int .i64 a.x, .int .i64 a.y, .int .i64 a.z], .agg #[.int .i64 b.e, .int .i64 b.d, .int .i64 b.x, .int .i64 b.y, .int .i64 b.z]] w fun e w' => e = .returned (.int .i64 (orderI a b)) ∧ Below w.heap.size w w' := by
  obtain ⟨ae, ad, ax, ay, az⟩ := a
  obtain ⟨be, bd, bx, bY, bz⟩ := b
  dsimp only
  go_enter Tryz.func89, Tryz.ntmps89
  go_wp2_with (go_at_call 111; refine (compare_any _ _ _).mono ?_; rintro e w' ⟨rfl, rfl⟩)
  repeat any_goals (first | (refine wp_loop_rounds 4 ?_; rw [rounds_succ]; go_wp2) | (rw [rounds_succ]; go_wp2) | (go_quiet ((go_at_call 111; refine (compare_any _ _ _).mono ?_; rintro e w' ⟨rfl, rfl⟩; exact ⟨rfl, _, rfl⟩)); go_wp2))
  all_goals go_ret
  all_goals refine ⟨ret_int ?_, ?_⟩
  all_goals simp at *
  all_goals first | (simp [orderI, *]; done) | (repeat (first | exact Below.refl _ _ | apply below_drewN | refine Below.alloc ?_ (by simp; try omega) _))

set_option maxHeartbeats 1000000 in
theorem refOrder_any (a b : Tm) (w : World) :
    Calls Tryz.prog 71 #[.agg #[.int .i64 a.e, .int .i64 a.d, .int .i64 a.x, .int .i64 a.y, .int .i64 a.z], .agg #[.int .i64 b.e, .int .i64 b.d, .int .i64 b.x, .int .i64 b.y, .int .i64 b.z]] w fun e w' => e = .returned (.int .i64 (orderI a b)) ∧ Below w.heap.size w w' := by
  obtain ⟨ae, ad, ax, ay, az⟩ := a
  obtain ⟨be, bd, bx, bY, bz⟩ := b
  dsimp only
  go_enter Tryz.func71, Tryz.ntmps71
  go_wp2
  repeat any_goals (first | (refine wp_loop_rounds 6 ?_; rw [rounds_succ]; go_wp2) | (rw [rounds_succ]; go_wp2) | (go_quiet (fail); go_wp2))
  all_goals go_ret
  all_goals refine ⟨ret_int ?_, ?_⟩
  all_goals first | (simp [orderI, cmpI]; omega) | (repeat (first | exact Below.refl _ _ | apply below_drewN | refine Below.alloc ?_ (by simp; try omega) _))

end Go.Proofs.YtehianjfpmbfpaaGreat
