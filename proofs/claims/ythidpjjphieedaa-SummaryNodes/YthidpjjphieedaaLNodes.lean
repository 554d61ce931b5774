/-
  What the law SummaryNodes does: for every depth and every summary it returns true, and what was there stays as it was.
-/
import Derived.Test.YthidpjjphieedaaSShown
import Derived.Test.YthidpjjphieedaaSRMy
namespace Go.Proofs.Ythidpjjphieedaa
open Go.RowKit Go.Sort
attribute [local go_sem ↓] eqSm
set_option linter.unusedVariables false

theorem eqS_self (s : Sm) : eqS s s = true := by simp [eqS]
set_option maxHeartbeats 2000000 in
theorem SummaryNodes_any (d : Int) (s : Sm) (w : World) :
    Calls Try.prog 3 #[.int .i64 d, .agg #[.int .i64 s.f, .int .i64 s.t, .int .i64 s.k, .int .i64 s.ep, .int .i64 s.x, .int .i64 s.y, .int .i64 s.z]] w fun e w' => e = .returned (.bool true) ∧ Below w.heap.size w w' := by
  have e1 := eqS_self
  go_enter Try.func3, Try.ntmps3
  have KS : SBox (w.alloc (.cells #[.int .i64 s.f, .int .i64 s.t, .int .i64 s.k, .int .i64 s.ep, .int .i64 s.x, .int .i64 s.y, .int .i64 s.z] 24)) w.heap.size s := SBox.new w s
  have G : Hid (Grow w (w.alloc (.cells #[.int .i64 s.f, .int .i64 s.t, .int .i64 s.k, .int .i64 s.ep, .int .i64 s.x, .int .i64 s.y, .int .i64 s.z] 24))) := hide (Grow.alloc' _ _)
  have HS := hide KS
  obtain ⟨s_0, s_1, s_2, s_3, s_4, s_5, s_6⟩ := KS
  go_wp2_with fail
  refine (shown_any _).mono ?_
  rintro e w1 ⟨rfl, hb⟩
  clear s_0 s_1 s_2 s_3 s_4 s_5 s_6
  have KS : SBox w1 w.heap.size (s) := HS.out.later hb
  have G : Hid (Grow w w1) := hide (Grow.trans' G.out hb)
  clear hb HS
  obtain ⟨s0, s1, s2, s3, s4, s5, s6⟩ := KS
  have c0 := cell_regrown s0; have c1 := cell_regrown s1; have c2 := cell_regrown s2; have c3 := cell_regrown s3; have c4 := cell_regrown s4; have c5 := cell_regrown s5; have c6 := cell_regrown s6
  have q1 := hide (fun dd os => Calls.regrown_of (same_any d (grow (redrawn w1 dd) os)))
  have q2 := hide (fun dd os => Calls.regrown_of (refSame_any d (grow (redrawn w1 dd) os)))
  have q3 := hide (fun dd os => Calls.regrown_of (enter_any d (grow (redrawn w1 dd) os)))
  have q4 := hide (fun dd os => Calls.regrown_of (refEnter_any d (grow (redrawn w1 dd) os)))
  have q5 := hide (fun dd os => Calls.regrown_of (leave_any d (grow (redrawn w1 dd) os)))
  have q6 := hide (fun dd os => Calls.regrown_of (refLeave_any d (grow (redrawn w1 dd) os)))
  have q7 := hide (fun dd os => Calls.regrown_of (feed_any d (grow (redrawn w1 dd) os)))
  have q8 := hide (fun dd os => Calls.regrown_of (refFeed_any d (grow (redrawn w1 dd) os)))
  have q9 := hide (fun dd os => Calls.regrown_of (sMay_any s (grow (redrawn w1 dd) os)))
  have q10 := hide (fun dd os => Calls.regrown_of (refMayS_any s (grow (redrawn w1 dd) os)))
  clear s0 s1 s2 s3 s4 s5 s6
  go_wp2_with fail
  refine wp_region_quiet_below (by kernel_rfl) (by kernel_rfl) ?_
  repeat (go_big_quiet_step (first | (go_at_call 10; exact q1.out _ _) | (go_at_call 11; exact q2.out _ _) | (go_at_call 12; exact q3.out _ _) | (go_at_call 13; exact q4.out _ _) | (go_at_call 14; exact q5.out _ _) | (go_at_call 15; exact q6.out _ _) | (go_at_call 16; exact q7.out _ _) | (go_at_call 17; exact q8.out _ _) | (go_at_call 18; exact q9.out _ _) | (go_at_call 19; exact q10.out _ _)))
  refine wpQuiet_nil ?_
  intro _ hw'
  obtain ⟨⟨dq, osq⟩, hw''⟩ := hw'
  subst hw''
  have GB := hide (Grow.trans' G.out (below_regrown w1 dq osq))
  clear c0 c1 c2 c3 c4 c5 c6 q1 q2 q3 q4 q5 q6 q7 q8 q9 q10 G
  generalize grow (redrawn w1 dq) osq = wc at *
  go_wp2
  go_ret
  exact ⟨rfl, GB.out⟩

end Go.Proofs.Ythidpjjphieedaa
