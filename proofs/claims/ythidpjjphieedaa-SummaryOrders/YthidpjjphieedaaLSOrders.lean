/-
  What the law SummaryOrders does: for every two summaries it returns true, and what was there stays as it was.
-/
import Derived.Test.YthidpjjphieedaaSShown
import Derived.Test.YthidpjjphieedaaSLe
import Derived.Test.YthidpjjphieedaaSROd
namespace Go.Proofs.Ythidpjjphieedaa
open Go.RowKit Go.Sort
attribute [local go_sem ↓] eqSm eqTm
set_option linter.unusedVariables false

set_option maxHeartbeats 2000000 in
theorem SummaryOrders_any (s r : Sm) (w : World) :
    Calls Try.prog 5 #[.agg #[.int .i64 s.f, .int .i64 s.t, .int .i64 s.k, .int .i64 s.ep, .int .i64 s.x, .int .i64 s.y, .int .i64 s.z], .agg #[.int .i64 r.f, .int .i64 r.t, .int .i64 r.k, .int .i64 r.ep, .int .i64 r.x, .int .i64 r.y, .int .i64 r.z]] w fun e w' => e = .returned (.bool true) ∧ Below w.heap.size w w' := by
  go_enter Try.func5, Try.ntmps5
  have KS : SBox ((w.alloc (.cells #[.int .i64 s.f, .int .i64 s.t, .int .i64 s.k, .int .i64 s.ep, .int .i64 s.x, .int .i64 s.y, .int .i64 s.z] 24)).alloc (.cells #[.int .i64 r.f, .int .i64 r.t, .int .i64 r.k, .int .i64 r.ep, .int .i64 r.x, .int .i64 r.y, .int .i64 r.z] 24)) (w.heap.size) s := by simp [SBox, go_sem]
  have KR : SBox ((w.alloc (.cells #[.int .i64 s.f, .int .i64 s.t, .int .i64 s.k, .int .i64 s.ep, .int .i64 s.x, .int .i64 s.y, .int .i64 s.z] 24)).alloc (.cells #[.int .i64 r.f, .int .i64 r.t, .int .i64 r.k, .int .i64 r.ep, .int .i64 r.x, .int .i64 r.y, .int .i64 r.z] 24)) (w.heap.size + 1) r := by simp [SBox, go_sem]
  have G : Hid (Grow w ((w.alloc (.cells #[.int .i64 s.f, .int .i64 s.t, .int .i64 s.k, .int .i64 s.ep, .int .i64 s.x, .int .i64 s.y, .int .i64 s.z] 24)).alloc (.cells #[.int .i64 r.f, .int .i64 r.t, .int .i64 r.k, .int .i64 r.ep, .int .i64 r.x, .int .i64 r.y, .int .i64 r.z] 24))) := hide (Grow.trans' (Grow.alloc' _ _) (Grow.alloc' _ _))
  have HS := hide KS
  have HR := hide KR
  obtain ⟨s_0, s_1, s_2, s_3, s_4, s_5, s_6⟩ := KS
  obtain ⟨r_0, r_1, r_2, r_3, r_4, r_5, r_6⟩ := KR
  go_wp2_with fail
  refine (shown_any _).mono ?_
  rintro e w1 ⟨rfl, hb⟩
  clear s_0 s_1 s_2 s_3 s_4 s_5 s_6 r_0 r_1 r_2 r_3 r_4 r_5 r_6
  have KS : SBox w1 w.heap.size (s) := HS.out.later hb
  have KR : SBox w1 (w.heap.size + 1) (r) := HR.out.later hb
  have G : Hid (Grow w w1) := hide (Grow.trans' G.out hb)
  clear hb HS HR
  obtain ⟨s0, s1, s2, s3, s4, s5, s6⟩ := KS
  obtain ⟨r0, r1, r2, r3, r4, r5, r6⟩ := KR
  have c0 := cell_regrown s0; have c1 := cell_regrown s1; have c2 := cell_regrown s2; have c3 := cell_regrown s3; have c4 := cell_regrown s4; have c5 := cell_regrown s5; have c6 := cell_regrown s6
  have d0 := cell_regrown r0; have d1 := cell_regrown r1; have d2 := cell_regrown r2; have d3 := cell_regrown r3; have d4 := cell_regrown r4; have d5 := cell_regrown r5; have d6 := cell_regrown r6
  have q1 := hide (fun dd os => Calls.regrown_of (sLe_any s r (grow (redrawn w1 dd) os)))
  have q2 := hide (fun dd os => Calls.regrown_of (refLeS_any s r (grow (redrawn w1 dd) os)))
  have q3 := hide (fun dd os => Calls.regrown_of (orderS_any s r (grow (redrawn w1 dd) os)))
  have q4 := hide (fun dd os => Calls.regrown_of (refOrderS_any s r (grow (redrawn w1 dd) os)))
  clear s0 s1 s2 s3 s4 s5 s6 r0 r1 r2 r3 r4 r5 r6
  go_wp2_with fail
  refine wp_region_quiet_below (by kernel_rfl) (by kernel_rfl) ?_
  repeat (go_big_quiet_step (first | (go_at_call 24; exact q1.out _ _) | (go_at_call 25; exact q2.out _ _) | (go_at_call 26; exact q3.out _ _) | (go_at_call 27; exact q4.out _ _)))
  refine wpQuiet_nil ?_
  intro _ hw'
  obtain ⟨⟨dq, osq⟩, hw''⟩ := hw'
  subst hw''
  have GB := hide (Grow.trans' G.out (below_regrown w1 dq osq))
  clear c0 c1 c2 c3 c4 c5 c6 d0 d1 d2 d3 d4 d5 d6 q1 q2 q3 q4 G
  generalize grow (redrawn w1 dq) osq = wc at *
  go_wp2
  go_ret
  exact ⟨rfl, GB.out⟩

end Go.Proofs.Ythidpjjphieedaa
