/-
  What the document's own Order of summaries does to the world: for every two the answer; what was there stays as it was.
-/
import Derived.Test.YtehianjfpmbfpaaGreatSOd
namespace Go.Proofs.YtehianjfpmbfpaaGreat
open Go.RowKit
set_option linter.unusedVariables false

set_option maxHeartbeats 2000000 in
theorem refOrderS_any (s r : Sm) (w : World) :
    Calls Tryz.prog 107 #[.agg #[.int .i64 s.f, .int .i64 s.t, .int .i64 s.k, .int .i64 s.ep, .int .i64 s.x, .int .i64 s.y, .int .i64 s.z], .agg #[.int .i64 r.f, .int .i64 r.t, .int .i64 r.k, .int .i64 r.ep, .int .i64 r.x, .int .i64 r.y, .int .i64 r.z]] w fun e w' => e = .returned (.int .i64 (orderS s r)) ∧ Below w.heap.size w w' := by
  obtain ⟨sf, st, sk, sp, sx, sy, sz⟩ := s
  obtain ⟨rf, rt, rk, rp, rx, ry, rz⟩ := r
  dsimp only
  go_enter Tryz.func107, Tryz.ntmps107
  go_wp2
  repeat any_goals (first | (refine wp_loop_rounds 8 ?_; rw [rounds_succ]; go_wp2) | (rw [rounds_succ]; go_wp2) | (go_quiet (fail); go_wp2))
  all_goals go_ret
  all_goals refine ⟨ret_int ?_, ?_⟩
  all_goals first | (simp [orderS, cmpI]; omega) | (repeat (first | exact Below.refl _ _ | apply below_drewN | refine Below.alloc ?_ (by simp; try omega) _))

end Go.Proofs.YtehianjfpmbfpaaGreat
