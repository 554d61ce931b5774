/-
  What the law SummaryTotal does: for every three summaries it returns true, and what was there stays as it was.
-/
import Derived.Test.YthidpjjphieedabSShown
import Derived.Test.YthidpjjphieedabSFacts2
import Derived.Test.YthidpjjphieedabSLe
import Derived.Test.YthidpjjphieedabSOd
namespace Go.Proofs.Ythidpjjphieedab
open Go.RowKit Go.Sort
attribute [local go_sem ↓] eqSm eqTm
set_option linter.unusedVariables false

theorem orderC (a b : Sm) (o : Int) (h : orderS a b = o) (w : World) : Calls Try.prog 7 #[.agg #[.int .i64 a.f, .int .i64 a.t, .int .i64 a.k, .int .i64 a.ep, .int .i64 a.x, .int .i64 a.y, .int .i64 a.z], .agg #[.int .i64 b.f, .int .i64 b.t, .int .i64 b.k, .int .i64 b.ep, .int .i64 b.x, .int .i64 b.y, .int .i64 b.z]] w fun e w' => e = .returned (.int .i64 o) ∧ Below w.heap.size w w' := by
  rw [← h]; exact orderS_any a b w
theorem sLeC (a b : Sm) (p : Bool) (h : leS a b = p) (w : World) : Calls Try.prog 8 #[.agg #[.int .i64 a.f, .int .i64 a.t, .int .i64 a.k, .int .i64 a.ep, .int .i64 a.x, .int .i64 a.y, .int .i64 a.z], .agg #[.int .i64 b.f, .int .i64 b.t, .int .i64 b.k, .int .i64 b.ep, .int .i64 b.x, .int .i64 b.y, .int .i64 b.z]] w fun e w' => e = .returned (.bool p) ∧ Below w.heap.size w w' := by
  rw [← h]; exact sLe_any a b w
set_option maxHeartbeats 1000000 in
theorem SummaryTotal_0m (a b c : Sm) (w : World) (hAB : Hid (orderS a b = (-1))) (hBA : Hid (orderS b a = 1)) (hq : eqS a b = false) (hl : Hid (leS a b = false)) :
    Calls Try.prog 4 #[.agg #[.int .i64 a.f, .int .i64 a.t, .int .i64 a.k, .int .i64 a.ep, .int .i64 a.x, .int .i64 a.y, .int .i64 a.z], .agg #[.int .i64 b.f, .int .i64 b.t, .int .i64 b.k, .int .i64 b.ep, .int .i64 b.x, .int .i64 b.y, .int .i64 b.z], .agg #[.int .i64 c.f, .int .i64 c.t, .int .i64 c.k, .int .i64 c.ep, .int .i64 c.x, .int .i64 c.y, .int .i64 c.z]] w fun e w' => e = .returned (.bool true) ∧ Below w.heap.size w w' := by
  have n1 : IntKind.i64.wrap (-1) = -1 := by decide
  have n2 : IntKind.i64.wrap 1 = 1 := by decide
  go_enter Try.func4, Try.ntmps4
  have KA : SBox (((w.alloc (.cells #[.int .i64 a.f, .int .i64 a.t, .int .i64 a.k, .int .i64 a.ep, .int .i64 a.x, .int .i64 a.y, .int .i64 a.z] 24)).alloc (.cells #[.int .i64 b.f, .int .i64 b.t, .int .i64 b.k, .int .i64 b.ep, .int .i64 b.x, .int .i64 b.y, .int .i64 b.z] 24)).alloc (.cells #[.int .i64 c.f, .int .i64 c.t, .int .i64 c.k, .int .i64 c.ep, .int .i64 c.x, .int .i64 c.y, .int .i64 c.z] 24)) (w.heap.size) a := by simp [SBox, go_sem]
  have KB : SBox (((w.alloc (.cells #[.int .i64 a.f, .int .i64 a.t, .int .i64 a.k, .int .i64 a.ep, .int .i64 a.x, .int .i64 a.y, .int .i64 a.z] 24)).alloc (.cells #[.int .i64 b.f, .int .i64 b.t, .int .i64 b.k, .int .i64 b.ep, .int .i64 b.x, .int .i64 b.y, .int .i64 b.z] 24)).alloc (.cells #[.int .i64 c.f, .int .i64 c.t, .int .i64 c.k, .int .i64 c.ep, .int .i64 c.x, .int .i64 c.y, .int .i64 c.z] 24)) (w.heap.size + 1) b := by simp [SBox, go_sem]
  have KC : SBox (((w.alloc (.cells #[.int .i64 a.f, .int .i64 a.t, .int .i64 a.k, .int .i64 a.ep, .int .i64 a.x, .int .i64 a.y, .int .i64 a.z] 24)).alloc (.cells #[.int .i64 b.f, .int .i64 b.t, .int .i64 b.k, .int .i64 b.ep, .int .i64 b.x, .int .i64 b.y, .int .i64 b.z] 24)).alloc (.cells #[.int .i64 c.f, .int .i64 c.t, .int .i64 c.k, .int .i64 c.ep, .int .i64 c.x, .int .i64 c.y, .int .i64 c.z] 24)) (w.heap.size + 1 + 1) c := by simp [SBox, go_sem]
  have G : Hid (Grow w (((w.alloc (.cells #[.int .i64 a.f, .int .i64 a.t, .int .i64 a.k, .int .i64 a.ep, .int .i64 a.x, .int .i64 a.y, .int .i64 a.z] 24)).alloc (.cells #[.int .i64 b.f, .int .i64 b.t, .int .i64 b.k, .int .i64 b.ep, .int .i64 b.x, .int .i64 b.y, .int .i64 b.z] 24)).alloc (.cells #[.int .i64 c.f, .int .i64 c.t, .int .i64 c.k, .int .i64 c.ep, .int .i64 c.x, .int .i64 c.y, .int .i64 c.z] 24))) := hide (Grow.trans' (Grow.trans' (Grow.alloc' _ _) (Grow.alloc' _ _)) (Grow.alloc' _ _))
  have HA := hide KA
  have HB := hide KB
  have HC := hide KC
  obtain ⟨a_0, a_1, a_2, a_3, a_4, a_5, a_6⟩ := KA
  obtain ⟨b_0, b_1, b_2, b_3, b_4, b_5, b_6⟩ := KB
  obtain ⟨c_0, c_1, c_2, c_3, c_4, c_5, c_6⟩ := KC
  go_wp2_with fail
  refine (shown_any _).mono ?_
  rintro e w1 ⟨rfl, hb⟩
  clear a_0 a_1 a_2 a_3 a_4 a_5 a_6 b_0 b_1 b_2 b_3 b_4 b_5 b_6 c_0 c_1 c_2 c_3 c_4 c_5 c_6
  have KA : SBox w1 w.heap.size (a) := HA.out.later hb
  have KB : SBox w1 (w.heap.size + 1) (b) := HB.out.later hb
  have KC : SBox w1 (w.heap.size + 1 + 1) (c) := HC.out.later hb
  have G : Hid (Grow w w1) := hide (Grow.trans' G.out hb)
  clear hb HA HB HC
  have HA := hide KA
  have HB := hide KB
  have HC := hide KC
  obtain ⟨s0, s1, s2, s3, s4, s5, s6⟩ := KA
  obtain ⟨r0, r1, r2, r3, r4, r5, r6⟩ := KB
  have c0 := cell_regrown s0; have c1 := cell_regrown s1; have c2 := cell_regrown s2; have c3 := cell_regrown s3; have c4 := cell_regrown s4; have c5 := cell_regrown s5; have c6 := cell_regrown s6
  have d0 := cell_regrown r0; have d1 := cell_regrown r1; have d2 := cell_regrown r2; have d3 := cell_regrown r3; have d4 := cell_regrown r4; have d5 := cell_regrown r5; have d6 := cell_regrown r6
  have q1 := hide (fun dd os => Calls.regrown_of (orderC a b _ hAB.out (grow (redrawn w1 dd) os)))
  have q2 := hide (fun dd os => Calls.regrown_of (orderC b a _ hBA.out (grow (redrawn w1 dd) os)))
  clear s0 s1 s2 s3 s4 s5 s6 r0 r1 r2 r3 r4 r5 r6 KC
  go_wp2_with fail
  refine wp_region_quiet_below (by kernel_rfl) (by kernel_rfl) ?_
  repeat (go_big_quiet_step (first | (go_at_call 7; with_reducible exact q1.out _ _) | (go_at_call 7; with_reducible exact q2.out _ _)))
  refine wpQuiet_nil ?_
  intro _ hw'
  obtain ⟨⟨dq, osq⟩, hw''⟩ := hw'
  subst hw''
  have gb := below_regrown w1 dq osq
  clear c0 c1 c2 c3 c4 c5 c6 d0 d1 d2 d3 d4 d5 d6 q1 q2
  generalize grow (redrawn w1 dq) osq = w2 at *
  have KA := HA.out.later gb
  have KB := HB.out.later gb
  have KC := HC.out.later gb
  have G := hide (Grow.trans' G.out gb)
  clear HA HB HC gb
  have HA := hide KA
  have HB := hide KB
  have HC := hide KC
  obtain ⟨a_0, a_1, a_2, a_3, a_4, a_5, a_6⟩ := KA
  obtain ⟨b_0, b_1, b_2, b_3, b_4, b_5, b_6⟩ := KB
  obtain ⟨c_0, c_1, c_2, c_3, c_4, c_5, c_6⟩ := KC
  go_wp2_with fail
  refine (sLeC a b false hl.out _).mono ?_
  rintro e w3 ⟨rfl, hb⟩
  clear a_0 a_1 a_2 a_3 a_4 a_5 a_6 b_0 b_1 b_2 b_3 b_4 b_5 b_6 c_0 c_1 c_2 c_3 c_4 c_5 c_6
  have KA : SBox w3 w.heap.size (a) := HA.out.later hb
  have KB : SBox w3 (w.heap.size + 1) (b) := HB.out.later hb
  have KC : SBox w3 (w.heap.size + 1 + 1) (c) := HC.out.later hb
  have G : Hid (Grow w w3) := hide (Grow.trans' G.out hb)
  clear hb HA HB HC
  clear KA KB KC
  go_wp2
  go_ret
  exact ⟨rfl, G.out⟩
set_option maxHeartbeats 1000000 in
theorem SummaryTotal_0z (a b c : Sm) (w : World) (hAB : Hid (orderS a b = 0)) (hBA : Hid (orderS b a = 0)) (hq : eqS a b = true) (hl : Hid (leS a b = false)) :
    Calls Try.prog 4 #[.agg #[.int .i64 a.f, .int .i64 a.t, .int .i64 a.k, .int .i64 a.ep, .int .i64 a.x, .int .i64 a.y, .int .i64 a.z], .agg #[.int .i64 b.f, .int .i64 b.t, .int .i64 b.k, .int .i64 b.ep, .int .i64 b.x, .int .i64 b.y, .int .i64 b.z], .agg #[.int .i64 c.f, .int .i64 c.t, .int .i64 c.k, .int .i64 c.ep, .int .i64 c.x, .int .i64 c.y, .int .i64 c.z]] w fun e w' => e = .returned (.bool true) ∧ Below w.heap.size w w' := by
  have n1 : IntKind.i64.wrap (-1) = -1 := by decide
  have n2 : IntKind.i64.wrap 1 = 1 := by decide
  go_enter Try.func4, Try.ntmps4
  have KA : SBox (((w.alloc (.cells #[.int .i64 a.f, .int .i64 a.t, .int .i64 a.k, .int .i64 a.ep, .int .i64 a.x, .int .i64 a.y, .int .i64 a.z] 24)).alloc (.cells #[.int .i64 b.f, .int .i64 b.t, .int .i64 b.k, .int .i64 b.ep, .int .i64 b.x, .int .i64 b.y, .int .i64 b.z] 24)).alloc (.cells #[.int .i64 c.f, .int .i64 c.t, .int .i64 c.k, .int .i64 c.ep, .int .i64 c.x, .int .i64 c.y, .int .i64 c.z] 24)) (w.heap.size) a := by simp [SBox, go_sem]
  have KB : SBox (((w.alloc (.cells #[.int .i64 a.f, .int .i64 a.t, .int .i64 a.k, .int .i64 a.ep, .int .i64 a.x, .int .i64 a.y, .int .i64 a.z] 24)).alloc (.cells #[.int .i64 b.f, .int .i64 b.t, .int .i64 b.k, .int .i64 b.ep, .int .i64 b.x, .int .i64 b.y, .int .i64 b.z] 24)).alloc (.cells #[.int .i64 c.f, .int .i64 c.t, .int .i64 c.k, .int .i64 c.ep, .int .i64 c.x, .int .i64 c.y, .int .i64 c.z] 24)) (w.heap.size + 1) b := by simp [SBox, go_sem]
  have KC : SBox (((w.alloc (.cells #[.int .i64 a.f, .int .i64 a.t, .int .i64 a.k, .int .i64 a.ep, .int .i64 a.x, .int .i64 a.y, .int .i64 a.z] 24)).alloc (.cells #[.int .i64 b.f, .int .i64 b.t, .int .i64 b.k, .int .i64 b.ep, .int .i64 b.x, .int .i64 b.y, .int .i64 b.z] 24)).alloc (.cells #[.int .i64 c.f, .int .i64 c.t, .int .i64 c.k, .int .i64 c.ep, .int .i64 c.x, .int .i64 c.y, .int .i64 c.z] 24)) (w.heap.size + 1 + 1) c := by simp [SBox, go_sem]
  have G : Hid (Grow w (((w.alloc (.cells #[.int .i64 a.f, .int .i64 a.t, .int .i64 a.k, .int .i64 a.ep, .int .i64 a.x, .int .i64 a.y, .int .i64 a.z] 24)).alloc (.cells #[.int .i64 b.f, .int .i64 b.t, .int .i64 b.k, .int .i64 b.ep, .int .i64 b.x, .int .i64 b.y, .int .i64 b.z] 24)).alloc (.cells #[.int .i64 c.f, .int .i64 c.t, .int .i64 c.k, .int .i64 c.ep, .int .i64 c.x, .int .i64 c.y, .int .i64 c.z] 24))) := hide (Grow.trans' (Grow.trans' (Grow.alloc' _ _) (Grow.alloc' _ _)) (Grow.alloc' _ _))
  have HA := hide KA
  have HB := hide KB
  have HC := hide KC
  obtain ⟨a_0, a_1, a_2, a_3, a_4, a_5, a_6⟩ := KA
  obtain ⟨b_0, b_1, b_2, b_3, b_4, b_5, b_6⟩ := KB
  obtain ⟨c_0, c_1, c_2, c_3, c_4, c_5, c_6⟩ := KC
  go_wp2_with fail
  refine (shown_any _).mono ?_
  rintro e w1 ⟨rfl, hb⟩
  clear a_0 a_1 a_2 a_3 a_4 a_5 a_6 b_0 b_1 b_2 b_3 b_4 b_5 b_6 c_0 c_1 c_2 c_3 c_4 c_5 c_6
  have KA : SBox w1 w.heap.size (a) := HA.out.later hb
  have KB : SBox w1 (w.heap.size + 1) (b) := HB.out.later hb
  have KC : SBox w1 (w.heap.size + 1 + 1) (c) := HC.out.later hb
  have G : Hid (Grow w w1) := hide (Grow.trans' G.out hb)
  clear hb HA HB HC
  have HA := hide KA
  have HB := hide KB
  have HC := hide KC
  obtain ⟨s0, s1, s2, s3, s4, s5, s6⟩ := KA
  obtain ⟨r0, r1, r2, r3, r4, r5, r6⟩ := KB
  have c0 := cell_regrown s0; have c1 := cell_regrown s1; have c2 := cell_regrown s2; have c3 := cell_regrown s3; have c4 := cell_regrown s4; have c5 := cell_regrown s5; have c6 := cell_regrown s6
  have d0 := cell_regrown r0; have d1 := cell_regrown r1; have d2 := cell_regrown r2; have d3 := cell_regrown r3; have d4 := cell_regrown r4; have d5 := cell_regrown r5; have d6 := cell_regrown r6
  have q1 := hide (fun dd os => Calls.regrown_of (orderC a b _ hAB.out (grow (redrawn w1 dd) os)))
  have q2 := hide (fun dd os => Calls.regrown_of (orderC b a _ hBA.out (grow (redrawn w1 dd) os)))
  clear s0 s1 s2 s3 s4 s5 s6 r0 r1 r2 r3 r4 r5 r6 KC
  go_wp2_with fail
  refine wp_region_quiet_below (by kernel_rfl) (by kernel_rfl) ?_
  repeat (go_big_quiet_step (first | (go_at_call 7; with_reducible exact q1.out _ _) | (go_at_call 7; with_reducible exact q2.out _ _)))
  refine wpQuiet_nil ?_
  intro _ hw'
  obtain ⟨⟨dq, osq⟩, hw''⟩ := hw'
  subst hw''
  have gb := below_regrown w1 dq osq
  clear c0 c1 c2 c3 c4 c5 c6 d0 d1 d2 d3 d4 d5 d6 q1 q2
  generalize grow (redrawn w1 dq) osq = w2 at *
  have KA := HA.out.later gb
  have KB := HB.out.later gb
  have KC := HC.out.later gb
  have G := hide (Grow.trans' G.out gb)
  clear HA HB HC gb
  have HA := hide KA
  have HB := hide KB
  have HC := hide KC
  obtain ⟨a_0, a_1, a_2, a_3, a_4, a_5, a_6⟩ := KA
  obtain ⟨b_0, b_1, b_2, b_3, b_4, b_5, b_6⟩ := KB
  obtain ⟨c_0, c_1, c_2, c_3, c_4, c_5, c_6⟩ := KC
  go_wp2_with fail
  refine (sLeC a b false hl.out _).mono ?_
  rintro e w3 ⟨rfl, hb⟩
  clear a_0 a_1 a_2 a_3 a_4 a_5 a_6 b_0 b_1 b_2 b_3 b_4 b_5 b_6 c_0 c_1 c_2 c_3 c_4 c_5 c_6
  have KA : SBox w3 w.heap.size (a) := HA.out.later hb
  have KB : SBox w3 (w.heap.size + 1) (b) := HB.out.later hb
  have KC : SBox w3 (w.heap.size + 1 + 1) (c) := HC.out.later hb
  have G : Hid (Grow w w3) := hide (Grow.trans' G.out hb)
  clear hb HA HB HC
  clear KA KB KC
  go_wp2
  go_ret
  exact ⟨rfl, G.out⟩
set_option maxHeartbeats 1000000 in
theorem SummaryTotal_0p (a b c : Sm) (w : World) (hAB : Hid (orderS a b = 1)) (hBA : Hid (orderS b a = (-1))) (hq : eqS a b = false) (hl : Hid (leS a b = false)) :
    Calls Try.prog 4 #[.agg #[.int .i64 a.f, .int .i64 a.t, .int .i64 a.k, .int .i64 a.ep, .int .i64 a.x, .int .i64 a.y, .int .i64 a.z], .agg #[.int .i64 b.f, .int .i64 b.t, .int .i64 b.k, .int .i64 b.ep, .int .i64 b.x, .int .i64 b.y, .int .i64 b.z], .agg #[.int .i64 c.f, .int .i64 c.t, .int .i64 c.k, .int .i64 c.ep, .int .i64 c.x, .int .i64 c.y, .int .i64 c.z]] w fun e w' => e = .returned (.bool true) ∧ Below w.heap.size w w' := by
  have n1 : IntKind.i64.wrap (-1) = -1 := by decide
  have n2 : IntKind.i64.wrap 1 = 1 := by decide
  go_enter Try.func4, Try.ntmps4
  have KA : SBox (((w.alloc (.cells #[.int .i64 a.f, .int .i64 a.t, .int .i64 a.k, .int .i64 a.ep, .int .i64 a.x, .int .i64 a.y, .int .i64 a.z] 24)).alloc (.cells #[.int .i64 b.f, .int .i64 b.t, .int .i64 b.k, .int .i64 b.ep, .int .i64 b.x, .int .i64 b.y, .int .i64 b.z] 24)).alloc (.cells #[.int .i64 c.f, .int .i64 c.t, .int .i64 c.k, .int .i64 c.ep, .int .i64 c.x, .int .i64 c.y, .int .i64 c.z] 24)) (w.heap.size) a := by simp [SBox, go_sem]
  have KB : SBox (((w.alloc (.cells #[.int .i64 a.f, .int .i64 a.t, .int .i64 a.k, .int .i64 a.ep, .int .i64 a.x, .int .i64 a.y, .int .i64 a.z] 24)).alloc (.cells #[.int .i64 b.f, .int .i64 b.t, .int .i64 b.k, .int .i64 b.ep, .int .i64 b.x, .int .i64 b.y, .int .i64 b.z] 24)).alloc (.cells #[.int .i64 c.f, .int .i64 c.t, .int .i64 c.k, .int .i64 c.ep, .int .i64 c.x, .int .i64 c.y, .int .i64 c.z] 24)) (w.heap.size + 1) b := by simp [SBox, go_sem]
  have KC : SBox (((w.alloc (.cells #[.int .i64 a.f, .int .i64 a.t, .int .i64 a.k, .int .i64 a.ep, .int .i64 a.x, .int .i64 a.y, .int .i64 a.z] 24)).alloc (.cells #[.int .i64 b.f, .int .i64 b.t, .int .i64 b.k, .int .i64 b.ep, .int .i64 b.x, .int .i64 b.y, .int .i64 b.z] 24)).alloc (.cells #[.int .i64 c.f, .int .i64 c.t, .int .i64 c.k, .int .i64 c.ep, .int .i64 c.x, .int .i64 c.y, .int .i64 c.z] 24)) (w.heap.size + 1 + 1) c := by simp [SBox, go_sem]
  have G : Hid (Grow w (((w.alloc (.cells #[.int .i64 a.f, .int .i64 a.t, .int .i64 a.k, .int .i64 a.ep, .int .i64 a.x, .int .i64 a.y, .int .i64 a.z] 24)).alloc (.cells #[.int .i64 b.f, .int .i64 b.t, .int .i64 b.k, .int .i64 b.ep, .int .i64 b.x, .int .i64 b.y, .int .i64 b.z] 24)).alloc (.cells #[.int .i64 c.f, .int .i64 c.t, .int .i64 c.k, .int .i64 c.ep, .int .i64 c.x, .int .i64 c.y, .int .i64 c.z] 24))) := hide (Grow.trans' (Grow.trans' (Grow.alloc' _ _) (Grow.alloc' _ _)) (Grow.alloc' _ _))
  have HA := hide KA
  have HB := hide KB
  have HC := hide KC
  obtain ⟨a_0, a_1, a_2, a_3, a_4, a_5, a_6⟩ := KA
  obtain ⟨b_0, b_1, b_2, b_3, b_4, b_5, b_6⟩ := KB
  obtain ⟨c_0, c_1, c_2, c_3, c_4, c_5, c_6⟩ := KC
  go_wp2_with fail
  refine (shown_any _).mono ?_
  rintro e w1 ⟨rfl, hb⟩
  clear a_0 a_1 a_2 a_3 a_4 a_5 a_6 b_0 b_1 b_2 b_3 b_4 b_5 b_6 c_0 c_1 c_2 c_3 c_4 c_5 c_6
  have KA : SBox w1 w.heap.size (a) := HA.out.later hb
  have KB : SBox w1 (w.heap.size + 1) (b) := HB.out.later hb
  have KC : SBox w1 (w.heap.size + 1 + 1) (c) := HC.out.later hb
  have G : Hid (Grow w w1) := hide (Grow.trans' G.out hb)
  clear hb HA HB HC
  have HA := hide KA
  have HB := hide KB
  have HC := hide KC
  obtain ⟨s0, s1, s2, s3, s4, s5, s6⟩ := KA
  obtain ⟨r0, r1, r2, r3, r4, r5, r6⟩ := KB
  have c0 := cell_regrown s0; have c1 := cell_regrown s1; have c2 := cell_regrown s2; have c3 := cell_regrown s3; have c4 := cell_regrown s4; have c5 := cell_regrown s5; have c6 := cell_regrown s6
  have d0 := cell_regrown r0; have d1 := cell_regrown r1; have d2 := cell_regrown r2; have d3 := cell_regrown r3; have d4 := cell_regrown r4; have d5 := cell_regrown r5; have d6 := cell_regrown r6
  have q1 := hide (fun dd os => Calls.regrown_of (orderC a b _ hAB.out (grow (redrawn w1 dd) os)))
  have q2 := hide (fun dd os => Calls.regrown_of (orderC b a _ hBA.out (grow (redrawn w1 dd) os)))
  clear s0 s1 s2 s3 s4 s5 s6 r0 r1 r2 r3 r4 r5 r6 KC
  go_wp2_with fail
  refine wp_region_quiet_below (by kernel_rfl) (by kernel_rfl) ?_
  repeat (go_big_quiet_step (first | (go_at_call 7; with_reducible exact q1.out _ _) | (go_at_call 7; with_reducible exact q2.out _ _)))
  refine wpQuiet_nil ?_
  intro _ hw'
  obtain ⟨⟨dq, osq⟩, hw''⟩ := hw'
  subst hw''
  have gb := below_regrown w1 dq osq
  clear c0 c1 c2 c3 c4 c5 c6 d0 d1 d2 d3 d4 d5 d6 q1 q2
  generalize grow (redrawn w1 dq) osq = w2 at *
  have KA := HA.out.later gb
  have KB := HB.out.later gb
  have KC := HC.out.later gb
  have G := hide (Grow.trans' G.out gb)
  clear HA HB HC gb
  have HA := hide KA
  have HB := hide KB
  have HC := hide KC
  obtain ⟨a_0, a_1, a_2, a_3, a_4, a_5, a_6⟩ := KA
  obtain ⟨b_0, b_1, b_2, b_3, b_4, b_5, b_6⟩ := KB
  obtain ⟨c_0, c_1, c_2, c_3, c_4, c_5, c_6⟩ := KC
  go_wp2_with fail
  refine (sLeC a b false hl.out _).mono ?_
  rintro e w3 ⟨rfl, hb⟩
  clear a_0 a_1 a_2 a_3 a_4 a_5 a_6 b_0 b_1 b_2 b_3 b_4 b_5 b_6 c_0 c_1 c_2 c_3 c_4 c_5 c_6
  have KA : SBox w3 w.heap.size (a) := HA.out.later hb
  have KB : SBox w3 (w.heap.size + 1) (b) := HB.out.later hb
  have KC : SBox w3 (w.heap.size + 1 + 1) (c) := HC.out.later hb
  have G : Hid (Grow w w3) := hide (Grow.trans' G.out hb)
  clear hb HA HB HC
  clear KA KB KC
  go_wp2
  go_ret
  exact ⟨rfl, G.out⟩
set_option maxHeartbeats 1000000 in
theorem SummaryTotal_1m (a b c X Y : Sm) (E F : Int) (w : World) (hAB : Hid (orderS a b = (-1))) (hBA : Hid (orderS b a = 1)) (hq : eqS a b = false) (hl : Hid (leS a b = true)) (hX : Hid (thenS a c = X)) (hE : Hid (thenE a c = E)) (hY : Hid (thenS b c = Y)) (hF : Hid (thenE b c = F)) (k1 : ¬ E = 0) :
    Calls Try.prog 4 #[.agg #[.int .i64 a.f, .int .i64 a.t, .int .i64 a.k, .int .i64 a.ep, .int .i64 a.x, .int .i64 a.y, .int .i64 a.z], .agg #[.int .i64 b.f, .int .i64 b.t, .int .i64 b.k, .int .i64 b.ep, .int .i64 b.x, .int .i64 b.y, .int .i64 b.z], .agg #[.int .i64 c.f, .int .i64 c.t, .int .i64 c.k, .int .i64 c.ep, .int .i64 c.x, .int .i64 c.y, .int .i64 c.z]] w fun e w' => e = .returned (.bool true) ∧ Below w.heap.size w w' := by
  have n1 : IntKind.i64.wrap (-1) = -1 := by decide
  have n2 : IntKind.i64.wrap 1 = 1 := by decide
  go_enter Try.func4, Try.ntmps4
  have KA : SBox (((w.alloc (.cells #[.int .i64 a.f, .int .i64 a.t, .int .i64 a.k, .int .i64 a.ep, .int .i64 a.x, .int .i64 a.y, .int .i64 a.z] 24)).alloc (.cells #[.int .i64 b.f, .int .i64 b.t, .int .i64 b.k, .int .i64 b.ep, .int .i64 b.x, .int .i64 b.y, .int .i64 b.z] 24)).alloc (.cells #[.int .i64 c.f, .int .i64 c.t, .int .i64 c.k, .int .i64 c.ep, .int .i64 c.x, .int .i64 c.y, .int .i64 c.z] 24)) (w.heap.size) a := by simp [SBox, go_sem]
  have KB : SBox (((w.alloc (.cells #[.int .i64 a.f, .int .i64 a.t, .int .i64 a.k, .int .i64 a.ep, .int .i64 a.x, .int .i64 a.y, .int .i64 a.z] 24)).alloc (.cells #[.int .i64 b.f, .int .i64 b.t, .int .i64 b.k, .int .i64 b.ep, .int .i64 b.x, .int .i64 b.y, .int .i64 b.z] 24)).alloc (.cells #[.int .i64 c.f, .int .i64 c.t, .int .i64 c.k, .int .i64 c.ep, .int .i64 c.x, .int .i64 c.y, .int .i64 c.z] 24)) (w.heap.size + 1) b := by simp [SBox, go_sem]
  have KC : SBox (((w.alloc (.cells #[.int .i64 a.f, .int .i64 a.t, .int .i64 a.k, .int .i64 a.ep, .int .i64 a.x, .int .i64 a.y, .int .i64 a.z] 24)).alloc (.cells #[.int .i64 b.f, .int .i64 b.t, .int .i64 b.k, .int .i64 b.ep, .int .i64 b.x, .int .i64 b.y, .int .i64 b.z] 24)).alloc (.cells #[.int .i64 c.f, .int .i64 c.t, .int .i64 c.k, .int .i64 c.ep, .int .i64 c.x, .int .i64 c.y, .int .i64 c.z] 24)) (w.heap.size + 1 + 1) c := by simp [SBox, go_sem]
  have G : Hid (Grow w (((w.alloc (.cells #[.int .i64 a.f, .int .i64 a.t, .int .i64 a.k, .int .i64 a.ep, .int .i64 a.x, .int .i64 a.y, .int .i64 a.z] 24)).alloc (.cells #[.int .i64 b.f, .int .i64 b.t, .int .i64 b.k, .int .i64 b.ep, .int .i64 b.x, .int .i64 b.y, .int .i64 b.z] 24)).alloc (.cells #[.int .i64 c.f, .int .i64 c.t, .int .i64 c.k, .int .i64 c.ep, .int .i64 c.x, .int .i64 c.y, .int .i64 c.z] 24))) := hide (Grow.trans' (Grow.trans' (Grow.alloc' _ _) (Grow.alloc' _ _)) (Grow.alloc' _ _))
  have HA := hide KA
  have HB := hide KB
  have HC := hide KC
  obtain ⟨a_0, a_1, a_2, a_3, a_4, a_5, a_6⟩ := KA
  obtain ⟨b_0, b_1, b_2, b_3, b_4, b_5, b_6⟩ := KB
  obtain ⟨c_0, c_1, c_2, c_3, c_4, c_5, c_6⟩ := KC
  go_wp2_with fail
  refine (shown_any _).mono ?_
  rintro e w1 ⟨rfl, hb⟩
  clear a_0 a_1 a_2 a_3 a_4 a_5 a_6 b_0 b_1 b_2 b_3 b_4 b_5 b_6 c_0 c_1 c_2 c_3 c_4 c_5 c_6
  have KA : SBox w1 w.heap.size (a) := HA.out.later hb
  have KB : SBox w1 (w.heap.size + 1) (b) := HB.out.later hb
  have KC : SBox w1 (w.heap.size + 1 + 1) (c) := HC.out.later hb
  have G : Hid (Grow w w1) := hide (Grow.trans' G.out hb)
  clear hb HA HB HC
  have HA := hide KA
  have HB := hide KB
  have HC := hide KC
  obtain ⟨s0, s1, s2, s3, s4, s5, s6⟩ := KA
  obtain ⟨r0, r1, r2, r3, r4, r5, r6⟩ := KB
  have c0 := cell_regrown s0; have c1 := cell_regrown s1; have c2 := cell_regrown s2; have c3 := cell_regrown s3; have c4 := cell_regrown s4; have c5 := cell_regrown s5; have c6 := cell_regrown s6
  have d0 := cell_regrown r0; have d1 := cell_regrown r1; have d2 := cell_regrown r2; have d3 := cell_regrown r3; have d4 := cell_regrown r4; have d5 := cell_regrown r5; have d6 := cell_regrown r6
  have q1 := hide (fun dd os => Calls.regrown_of (orderC a b _ hAB.out (grow (redrawn w1 dd) os)))
  have q2 := hide (fun dd os => Calls.regrown_of (orderC b a _ hBA.out (grow (redrawn w1 dd) os)))
  clear s0 s1 s2 s3 s4 s5 s6 r0 r1 r2 r3 r4 r5 r6 KC
  go_wp2_with fail
  refine wp_region_quiet_below (by kernel_rfl) (by kernel_rfl) ?_
  repeat (go_big_quiet_step (first | (go_at_call 7; with_reducible exact q1.out _ _) | (go_at_call 7; with_reducible exact q2.out _ _)))
  refine wpQuiet_nil ?_
  intro _ hw'
  obtain ⟨⟨dq, osq⟩, hw''⟩ := hw'
  subst hw''
  have gb := below_regrown w1 dq osq
  clear c0 c1 c2 c3 c4 c5 c6 d0 d1 d2 d3 d4 d5 d6 q1 q2
  generalize grow (redrawn w1 dq) osq = w2 at *
  have KA := HA.out.later gb
  have KB := HB.out.later gb
  have KC := HC.out.later gb
  have G := hide (Grow.trans' G.out gb)
  clear HA HB HC gb
  have HA := hide KA
  have HB := hide KB
  have HC := hide KC
  obtain ⟨a_0, a_1, a_2, a_3, a_4, a_5, a_6⟩ := KA
  obtain ⟨b_0, b_1, b_2, b_3, b_4, b_5, b_6⟩ := KB
  obtain ⟨c_0, c_1, c_2, c_3, c_4, c_5, c_6⟩ := KC
  go_wp2_with fail
  refine (sLeC a b true hl.out _).mono ?_
  rintro e w3 ⟨rfl, hb⟩
  clear a_0 a_1 a_2 a_3 a_4 a_5 a_6 b_0 b_1 b_2 b_3 b_4 b_5 b_6 c_0 c_1 c_2 c_3 c_4 c_5 c_6
  have KA : SBox w3 w.heap.size (a) := HA.out.later hb
  have KB : SBox w3 (w.heap.size + 1) (b) := HB.out.later hb
  have KC : SBox w3 (w.heap.size + 1 + 1) (c) := HC.out.later hb
  have G : Hid (Grow w w3) := hide (Grow.trans' G.out hb)
  clear hb HA HB HC
  have HA := hide KA
  have HB := hide KB
  have HC := hide KC
  obtain ⟨a_0, a_1, a_2, a_3, a_4, a_5, a_6⟩ := KA
  obtain ⟨b_0, b_1, b_2, b_3, b_4, b_5, b_6⟩ := KB
  obtain ⟨c_0, c_1, c_2, c_3, c_4, c_5, c_6⟩ := KC
  go_wp2_with fail
  refine (then_at a c X E hX.out hE.out _).mono ?_
  rintro e w4 ⟨rfl, hb⟩
  clear a_0 a_1 a_2 a_3 a_4 a_5 a_6 b_0 b_1 b_2 b_3 b_4 b_5 b_6 c_0 c_1 c_2 c_3 c_4 c_5 c_6
  have KA : SBox (w4.alloc (.cells #[.int .i64 (X).f, .int .i64 (X).t, .int .i64 (X).k, .int .i64 (X).ep, .int .i64 (X).x, .int .i64 (X).y, .int .i64 (X).z] 24)) w.heap.size (a) := (HA.out.later hb).later (Grow.alloc' _ _)
  have KB : SBox (w4.alloc (.cells #[.int .i64 (X).f, .int .i64 (X).t, .int .i64 (X).k, .int .i64 (X).ep, .int .i64 (X).x, .int .i64 (X).y, .int .i64 (X).z] 24)) (w.heap.size + 1) (b) := (HB.out.later hb).later (Grow.alloc' _ _)
  have KC : SBox (w4.alloc (.cells #[.int .i64 (X).f, .int .i64 (X).t, .int .i64 (X).k, .int .i64 (X).ep, .int .i64 (X).x, .int .i64 (X).y, .int .i64 (X).z] 24)) (w.heap.size + 1 + 1) (c) := (HC.out.later hb).later (Grow.alloc' _ _)
  have KX : SBox (w4.alloc (.cells #[.int .i64 (X).f, .int .i64 (X).t, .int .i64 (X).k, .int .i64 (X).ep, .int .i64 (X).x, .int .i64 (X).y, .int .i64 (X).z] 24)) w4.heap.size (X) := SBox.new _ _
  have G : Hid (Grow w (w4.alloc (.cells #[.int .i64 (X).f, .int .i64 (X).t, .int .i64 (X).k, .int .i64 (X).ep, .int .i64 (X).x, .int .i64 (X).y, .int .i64 (X).z] 24))) := hide (Grow.trans' (Grow.trans' G.out hb) (Grow.alloc' _ _))
  clear hb HA HB HC
  have HA := hide KA
  have HB := hide KB
  have HC := hide KC
  have HX := hide KX
  obtain ⟨a_0, a_1, a_2, a_3, a_4, a_5, a_6⟩ := KA
  obtain ⟨b_0, b_1, b_2, b_3, b_4, b_5, b_6⟩ := KB
  obtain ⟨c_0, c_1, c_2, c_3, c_4, c_5, c_6⟩ := KC
  obtain ⟨x_0, x_1, x_2, x_3, x_4, x_5, x_6⟩ := KX
  go_wp2_with fail
  refine (then_at b c Y F hY.out hF.out _).mono ?_
  rintro e w5 ⟨rfl, hb⟩
  clear a_0 a_1 a_2 a_3 a_4 a_5 a_6 b_0 b_1 b_2 b_3 b_4 b_5 b_6 c_0 c_1 c_2 c_3 c_4 c_5 c_6 x_0 x_1 x_2 x_3 x_4 x_5 x_6
  have KA : SBox (w5.alloc (.cells #[.int .i64 (Y).f, .int .i64 (Y).t, .int .i64 (Y).k, .int .i64 (Y).ep, .int .i64 (Y).x, .int .i64 (Y).y, .int .i64 (Y).z] 24)) w.heap.size (a) := (HA.out.later hb).later (Grow.alloc' _ _)
  have KB : SBox (w5.alloc (.cells #[.int .i64 (Y).f, .int .i64 (Y).t, .int .i64 (Y).k, .int .i64 (Y).ep, .int .i64 (Y).x, .int .i64 (Y).y, .int .i64 (Y).z] 24)) (w.heap.size + 1) (b) := (HB.out.later hb).later (Grow.alloc' _ _)
  have KC : SBox (w5.alloc (.cells #[.int .i64 (Y).f, .int .i64 (Y).t, .int .i64 (Y).k, .int .i64 (Y).ep, .int .i64 (Y).x, .int .i64 (Y).y, .int .i64 (Y).z] 24)) (w.heap.size + 1 + 1) (c) := (HC.out.later hb).later (Grow.alloc' _ _)
  have KX : SBox (w5.alloc (.cells #[.int .i64 (Y).f, .int .i64 (Y).t, .int .i64 (Y).k, .int .i64 (Y).ep, .int .i64 (Y).x, .int .i64 (Y).y, .int .i64 (Y).z] 24)) w4.heap.size (X) := (HX.out.later hb).later (Grow.alloc' _ _)
  have KY : SBox (w5.alloc (.cells #[.int .i64 (Y).f, .int .i64 (Y).t, .int .i64 (Y).k, .int .i64 (Y).ep, .int .i64 (Y).x, .int .i64 (Y).y, .int .i64 (Y).z] 24)) w5.heap.size (Y) := SBox.new _ _
  have G : Hid (Grow w (w5.alloc (.cells #[.int .i64 (Y).f, .int .i64 (Y).t, .int .i64 (Y).k, .int .i64 (Y).ep, .int .i64 (Y).x, .int .i64 (Y).y, .int .i64 (Y).z] 24))) := hide (Grow.trans' (Grow.trans' G.out hb) (Grow.alloc' _ _))
  clear hb HA HB HC HX
  have HA := hide KA
  have HB := hide KB
  have HC := hide KC
  have HX := hide KX
  have HY := hide KY
  obtain ⟨a_0, a_1, a_2, a_3, a_4, a_5, a_6⟩ := KA
  obtain ⟨b_0, b_1, b_2, b_3, b_4, b_5, b_6⟩ := KB
  obtain ⟨c_0, c_1, c_2, c_3, c_4, c_5, c_6⟩ := KC
  obtain ⟨x_0, x_1, x_2, x_3, x_4, x_5, x_6⟩ := KX
  obtain ⟨y_0, y_1, y_2, y_3, y_4, y_5, y_6⟩ := KY
  go_wp2_with fail
  refine (orderC a b _ hAB.out _).mono ?_
  rintro e w6 ⟨rfl, hb⟩
  clear a_0 a_1 a_2 a_3 a_4 a_5 a_6 b_0 b_1 b_2 b_3 b_4 b_5 b_6 c_0 c_1 c_2 c_3 c_4 c_5 c_6 x_0 x_1 x_2 x_3 x_4 x_5 x_6 y_0 y_1 y_2 y_3 y_4 y_5 y_6
  have KA : SBox w6 w.heap.size (a) := HA.out.later hb
  have KB : SBox w6 (w.heap.size + 1) (b) := HB.out.later hb
  have KC : SBox w6 (w.heap.size + 1 + 1) (c) := HC.out.later hb
  have KX : SBox w6 w4.heap.size (X) := HX.out.later hb
  have KY : SBox w6 w5.heap.size (Y) := HY.out.later hb
  have G : Hid (Grow w w6) := hide (Grow.trans' G.out hb)
  clear hb HA HB HC HX HY
  
  clear KA KB KC KX KY
  go_wp2
  go_ret
  exact ⟨rfl, G.out⟩
set_option maxHeartbeats 1000000 in
theorem SummaryTotal_2m (a b c X Y : Sm) (E F : Int) (w : World) (hAB : Hid (orderS a b = (-1))) (hBA : Hid (orderS b a = 1)) (hq : eqS a b = false) (hl : Hid (leS a b = true)) (hX : Hid (thenS a c = X)) (hE : Hid (thenE a c = 0)) (hY : Hid (thenS b c = Y)) (hF : Hid (thenE b c = F)) (k1 : ¬ F = 0) :
    Calls Try.prog 4 #[.agg #[.int .i64 a.f, .int .i64 a.t, .int .i64 a.k, .int .i64 a.ep, .int .i64 a.x, .int .i64 a.y, .int .i64 a.z], .agg #[.int .i64 b.f, .int .i64 b.t, .int .i64 b.k, .int .i64 b.ep, .int .i64 b.x, .int .i64 b.y, .int .i64 b.z], .agg #[.int .i64 c.f, .int .i64 c.t, .int .i64 c.k, .int .i64 c.ep, .int .i64 c.x, .int .i64 c.y, .int .i64 c.z]] w fun e w' => e = .returned (.bool true) ∧ Below w.heap.size w w' := by
  have n1 : IntKind.i64.wrap (-1) = -1 := by decide
  have n2 : IntKind.i64.wrap 1 = 1 := by decide
  go_enter Try.func4, Try.ntmps4
  have KA : SBox (((w.alloc (.cells #[.int .i64 a.f, .int .i64 a.t, .int .i64 a.k, .int .i64 a.ep, .int .i64 a.x, .int .i64 a.y, .int .i64 a.z] 24)).alloc (.cells #[.int .i64 b.f, .int .i64 b.t, .int .i64 b.k, .int .i64 b.ep, .int .i64 b.x, .int .i64 b.y, .int .i64 b.z] 24)).alloc (.cells #[.int .i64 c.f, .int .i64 c.t, .int .i64 c.k, .int .i64 c.ep, .int .i64 c.x, .int .i64 c.y, .int .i64 c.z] 24)) (w.heap.size) a := by simp [SBox, go_sem]
  have KB : SBox (((w.alloc (.cells #[.int .i64 a.f, .int .i64 a.t, .int .i64 a.k, .int .i64 a.ep, .int .i64 a.x, .int .i64 a.y, .int .i64 a.z] 24)).alloc (.cells #[.int .i64 b.f, .int .i64 b.t, .int .i64 b.k, .int .i64 b.ep, .int .i64 b.x, .int .i64 b.y, .int .i64 b.z] 24)).alloc (.cells #[.int .i64 c.f, .int .i64 c.t, .int .i64 c.k, .int .i64 c.ep, .int .i64 c.x, .int .i64 c.y, .int .i64 c.z] 24)) (w.heap.size + 1) b := by simp [SBox, go_sem]
  have KC : SBox (((w.alloc (.cells #[.int .i64 a.f, .int .i64 a.t, .int .i64 a.k, .int .i64 a.ep, .int .i64 a.x, .int .i64 a.y, .int .i64 a.z] 24)).alloc (.cells #[.int .i64 b.f, .int .i64 b.t, .int .i64 b.k, .int .i64 b.ep, .int .i64 b.x, .int .i64 b.y, .int .i64 b.z] 24)).alloc (.cells #[.int .i64 c.f, .int .i64 c.t, .int .i64 c.k, .int .i64 c.ep, .int .i64 c.x, .int .i64 c.y, .int .i64 c.z] 24)) (w.heap.size + 1 + 1) c := by simp [SBox, go_sem]
  have G : Hid (Grow w (((w.alloc (.cells #[.int .i64 a.f, .int .i64 a.t, .int .i64 a.k, .int .i64 a.ep, .int .i64 a.x, .int .i64 a.y, .int .i64 a.z] 24)).alloc (.cells #[.int .i64 b.f, .int .i64 b.t, .int .i64 b.k, .int .i64 b.ep, .int .i64 b.x, .int .i64 b.y, .int .i64 b.z] 24)).alloc (.cells #[.int .i64 c.f, .int .i64 c.t, .int .i64 c.k, .int .i64 c.ep, .int .i64 c.x, .int .i64 c.y, .int .i64 c.z] 24))) := hide (Grow.trans' (Grow.trans' (Grow.alloc' _ _) (Grow.alloc' _ _)) (Grow.alloc' _ _))
  have HA := hide KA
  have HB := hide KB
  have HC := hide KC
  obtain ⟨a_0, a_1, a_2, a_3, a_4, a_5, a_6⟩ := KA
  obtain ⟨b_0, b_1, b_2, b_3, b_4, b_5, b_6⟩ := KB
  obtain ⟨c_0, c_1, c_2, c_3, c_4, c_5, c_6⟩ := KC
  go_wp2_with fail
  refine (shown_any _).mono ?_
  rintro e w1 ⟨rfl, hb⟩
  clear a_0 a_1 a_2 a_3 a_4 a_5 a_6 b_0 b_1 b_2 b_3 b_4 b_5 b_6 c_0 c_1 c_2 c_3 c_4 c_5 c_6
  have KA : SBox w1 w.heap.size (a) := HA.out.later hb
  have KB : SBox w1 (w.heap.size + 1) (b) := HB.out.later hb
  have KC : SBox w1 (w.heap.size + 1 + 1) (c) := HC.out.later hb
  have G : Hid (Grow w w1) := hide (Grow.trans' G.out hb)
  clear hb HA HB HC
  have HA := hide KA
  have HB := hide KB
  have HC := hide KC
  obtain ⟨s0, s1, s2, s3, s4, s5, s6⟩ := KA
  obtain ⟨r0, r1, r2, r3, r4, r5, r6⟩ := KB
  have c0 := cell_regrown s0; have c1 := cell_regrown s1; have c2 := cell_regrown s2; have c3 := cell_regrown s3; have c4 := cell_regrown s4; have c5 := cell_regrown s5; have c6 := cell_regrown s6
  have d0 := cell_regrown r0; have d1 := cell_regrown r1; have d2 := cell_regrown r2; have d3 := cell_regrown r3; have d4 := cell_regrown r4; have d5 := cell_regrown r5; have d6 := cell_regrown r6
  have q1 := hide (fun dd os => Calls.regrown_of (orderC a b _ hAB.out (grow (redrawn w1 dd) os)))
  have q2 := hide (fun dd os => Calls.regrown_of (orderC b a _ hBA.out (grow (redrawn w1 dd) os)))
  clear s0 s1 s2 s3 s4 s5 s6 r0 r1 r2 r3 r4 r5 r6 KC
  go_wp2_with fail
  refine wp_region_quiet_below (by kernel_rfl) (by kernel_rfl) ?_
  repeat (go_big_quiet_step (first | (go_at_call 7; with_reducible exact q1.out _ _) | (go_at_call 7; with_reducible exact q2.out _ _)))
  refine wpQuiet_nil ?_
  intro _ hw'
  obtain ⟨⟨dq, osq⟩, hw''⟩ := hw'
  subst hw''
  have gb := below_regrown w1 dq osq
  clear c0 c1 c2 c3 c4 c5 c6 d0 d1 d2 d3 d4 d5 d6 q1 q2
  generalize grow (redrawn w1 dq) osq = w2 at *
  have KA := HA.out.later gb
  have KB := HB.out.later gb
  have KC := HC.out.later gb
  have G := hide (Grow.trans' G.out gb)
  clear HA HB HC gb
  have HA := hide KA
  have HB := hide KB
  have HC := hide KC
  obtain ⟨a_0, a_1, a_2, a_3, a_4, a_5, a_6⟩ := KA
  obtain ⟨b_0, b_1, b_2, b_3, b_4, b_5, b_6⟩ := KB
  obtain ⟨c_0, c_1, c_2, c_3, c_4, c_5, c_6⟩ := KC
  go_wp2_with fail
  refine (sLeC a b true hl.out _).mono ?_
  rintro e w3 ⟨rfl, hb⟩
  clear a_0 a_1 a_2 a_3 a_4 a_5 a_6 b_0 b_1 b_2 b_3 b_4 b_5 b_6 c_0 c_1 c_2 c_3 c_4 c_5 c_6
  have KA : SBox w3 w.heap.size (a) := HA.out.later hb
  have KB : SBox w3 (w.heap.size + 1) (b) := HB.out.later hb
  have KC : SBox w3 (w.heap.size + 1 + 1) (c) := HC.out.later hb
  have G : Hid (Grow w w3) := hide (Grow.trans' G.out hb)
  clear hb HA HB HC
  have HA := hide KA
  have HB := hide KB
  have HC := hide KC
  obtain ⟨a_0, a_1, a_2, a_3, a_4, a_5, a_6⟩ := KA
  obtain ⟨b_0, b_1, b_2, b_3, b_4, b_5, b_6⟩ := KB
  obtain ⟨c_0, c_1, c_2, c_3, c_4, c_5, c_6⟩ := KC
  go_wp2_with fail
  refine (then_at a c X 0 hX.out hE.out _).mono ?_
  rintro e w4 ⟨rfl, hb⟩
  clear a_0 a_1 a_2 a_3 a_4 a_5 a_6 b_0 b_1 b_2 b_3 b_4 b_5 b_6 c_0 c_1 c_2 c_3 c_4 c_5 c_6
  have KA : SBox (w4.alloc (.cells #[.int .i64 (X).f, .int .i64 (X).t, .int .i64 (X).k, .int .i64 (X).ep, .int .i64 (X).x, .int .i64 (X).y, .int .i64 (X).z] 24)) w.heap.size (a) := (HA.out.later hb).later (Grow.alloc' _ _)
  have KB : SBox (w4.alloc (.cells #[.int .i64 (X).f, .int .i64 (X).t, .int .i64 (X).k, .int .i64 (X).ep, .int .i64 (X).x, .int .i64 (X).y, .int .i64 (X).z] 24)) (w.heap.size + 1) (b) := (HB.out.later hb).later (Grow.alloc' _ _)
  have KC : SBox (w4.alloc (.cells #[.int .i64 (X).f, .int .i64 (X).t, .int .i64 (X).k, .int .i64 (X).ep, .int .i64 (X).x, .int .i64 (X).y, .int .i64 (X).z] 24)) (w.heap.size + 1 + 1) (c) := (HC.out.later hb).later (Grow.alloc' _ _)
  have KX : SBox (w4.alloc (.cells #[.int .i64 (X).f, .int .i64 (X).t, .int .i64 (X).k, .int .i64 (X).ep, .int .i64 (X).x, .int .i64 (X).y, .int .i64 (X).z] 24)) w4.heap.size (X) := SBox.new _ _
  have G : Hid (Grow w (w4.alloc (.cells #[.int .i64 (X).f, .int .i64 (X).t, .int .i64 (X).k, .int .i64 (X).ep, .int .i64 (X).x, .int .i64 (X).y, .int .i64 (X).z] 24))) := hide (Grow.trans' (Grow.trans' G.out hb) (Grow.alloc' _ _))
  clear hb HA HB HC
  have HA := hide KA
  have HB := hide KB
  have HC := hide KC
  have HX := hide KX
  obtain ⟨a_0, a_1, a_2, a_3, a_4, a_5, a_6⟩ := KA
  obtain ⟨b_0, b_1, b_2, b_3, b_4, b_5, b_6⟩ := KB
  obtain ⟨c_0, c_1, c_2, c_3, c_4, c_5, c_6⟩ := KC
  obtain ⟨x_0, x_1, x_2, x_3, x_4, x_5, x_6⟩ := KX
  go_wp2_with fail
  refine (then_at b c Y F hY.out hF.out _).mono ?_
  rintro e w5 ⟨rfl, hb⟩
  clear a_0 a_1 a_2 a_3 a_4 a_5 a_6 b_0 b_1 b_2 b_3 b_4 b_5 b_6 c_0 c_1 c_2 c_3 c_4 c_5 c_6 x_0 x_1 x_2 x_3 x_4 x_5 x_6
  have KA : SBox (w5.alloc (.cells #[.int .i64 (Y).f, .int .i64 (Y).t, .int .i64 (Y).k, .int .i64 (Y).ep, .int .i64 (Y).x, .int .i64 (Y).y, .int .i64 (Y).z] 24)) w.heap.size (a) := (HA.out.later hb).later (Grow.alloc' _ _)
  have KB : SBox (w5.alloc (.cells #[.int .i64 (Y).f, .int .i64 (Y).t, .int .i64 (Y).k, .int .i64 (Y).ep, .int .i64 (Y).x, .int .i64 (Y).y, .int .i64 (Y).z] 24)) (w.heap.size + 1) (b) := (HB.out.later hb).later (Grow.alloc' _ _)
  have KC : SBox (w5.alloc (.cells #[.int .i64 (Y).f, .int .i64 (Y).t, .int .i64 (Y).k, .int .i64 (Y).ep, .int .i64 (Y).x, .int .i64 (Y).y, .int .i64 (Y).z] 24)) (w.heap.size + 1 + 1) (c) := (HC.out.later hb).later (Grow.alloc' _ _)
  have KX : SBox (w5.alloc (.cells #[.int .i64 (Y).f, .int .i64 (Y).t, .int .i64 (Y).k, .int .i64 (Y).ep, .int .i64 (Y).x, .int .i64 (Y).y, .int .i64 (Y).z] 24)) w4.heap.size (X) := (HX.out.later hb).later (Grow.alloc' _ _)
  have KY : SBox (w5.alloc (.cells #[.int .i64 (Y).f, .int .i64 (Y).t, .int .i64 (Y).k, .int .i64 (Y).ep, .int .i64 (Y).x, .int .i64 (Y).y, .int .i64 (Y).z] 24)) w5.heap.size (Y) := SBox.new _ _
  have G : Hid (Grow w (w5.alloc (.cells #[.int .i64 (Y).f, .int .i64 (Y).t, .int .i64 (Y).k, .int .i64 (Y).ep, .int .i64 (Y).x, .int .i64 (Y).y, .int .i64 (Y).z] 24))) := hide (Grow.trans' (Grow.trans' G.out hb) (Grow.alloc' _ _))
  clear hb HA HB HC HX
  have HA := hide KA
  have HB := hide KB
  have HC := hide KC
  have HX := hide KX
  have HY := hide KY
  obtain ⟨a_0, a_1, a_2, a_3, a_4, a_5, a_6⟩ := KA
  obtain ⟨b_0, b_1, b_2, b_3, b_4, b_5, b_6⟩ := KB
  obtain ⟨c_0, c_1, c_2, c_3, c_4, c_5, c_6⟩ := KC
  obtain ⟨x_0, x_1, x_2, x_3, x_4, x_5, x_6⟩ := KX
  obtain ⟨y_0, y_1, y_2, y_3, y_4, y_5, y_6⟩ := KY
  go_wp2_with fail
  refine (orderC a b _ hAB.out _).mono ?_
  rintro e w6 ⟨rfl, hb⟩
  clear a_0 a_1 a_2 a_3 a_4 a_5 a_6 b_0 b_1 b_2 b_3 b_4 b_5 b_6 c_0 c_1 c_2 c_3 c_4 c_5 c_6 x_0 x_1 x_2 x_3 x_4 x_5 x_6 y_0 y_1 y_2 y_3 y_4 y_5 y_6
  have KA : SBox w6 w.heap.size (a) := HA.out.later hb
  have KB : SBox w6 (w.heap.size + 1) (b) := HB.out.later hb
  have KC : SBox w6 (w.heap.size + 1 + 1) (c) := HC.out.later hb
  have KX : SBox w6 w4.heap.size (X) := HX.out.later hb
  have KY : SBox w6 w5.heap.size (Y) := HY.out.later hb
  have G : Hid (Grow w w6) := hide (Grow.trans' G.out hb)
  clear hb HA HB HC HX HY
  
  clear KA KB KC KX KY
  go_wp2
  go_ret
  exact ⟨rfl, G.out⟩
set_option maxHeartbeats 1000000 in
theorem SummaryTotal_3m (a b c X Y : Sm) (E F : Int) (w : World) (hAB : Hid (orderS a b = (-1))) (hBA : Hid (orderS b a = 1)) (hq : eqS a b = false) (hl : Hid (leS a b = true)) (hX : Hid (thenS a c = X)) (hE : Hid (thenE a c = 0)) (hY : Hid (thenS b c = Y)) (hF : Hid (thenE b c = 0)) (k1 : Hid (leS X Y = true)) :
    Calls Try.prog 4 #[.agg #[.int .i64 a.f, .int .i64 a.t, .int .i64 a.k, .int .i64 a.ep, .int .i64 a.x, .int .i64 a.y, .int .i64 a.z], .agg #[.int .i64 b.f, .int .i64 b.t, .int .i64 b.k, .int .i64 b.ep, .int .i64 b.x, .int .i64 b.y, .int .i64 b.z], .agg #[.int .i64 c.f, .int .i64 c.t, .int .i64 c.k, .int .i64 c.ep, .int .i64 c.x, .int .i64 c.y, .int .i64 c.z]] w fun e w' => e = .returned (.bool true) ∧ Below w.heap.size w w' := by
  have n1 : IntKind.i64.wrap (-1) = -1 := by decide
  have n2 : IntKind.i64.wrap 1 = 1 := by decide
  go_enter Try.func4, Try.ntmps4
  have KA : SBox (((w.alloc (.cells #[.int .i64 a.f, .int .i64 a.t, .int .i64 a.k, .int .i64 a.ep, .int .i64 a.x, .int .i64 a.y, .int .i64 a.z] 24)).alloc (.cells #[.int .i64 b.f, .int .i64 b.t, .int .i64 b.k, .int .i64 b.ep, .int .i64 b.x, .int .i64 b.y, .int .i64 b.z] 24)).alloc (.cells #[.int .i64 c.f, .int .i64 c.t, .int .i64 c.k, .int .i64 c.ep, .int .i64 c.x, .int .i64 c.y, .int .i64 c.z] 24)) (w.heap.size) a := by simp [SBox, go_sem]
  have KB : SBox (((w.alloc (.cells #[.int .i64 a.f, .int .i64 a.t, .int .i64 a.k, .int .i64 a.ep, .int .i64 a.x, .int .i64 a.y, .int .i64 a.z] 24)).alloc (.cells #[.int .i64 b.f, .int .i64 b.t, .int .i64 b.k, .int .i64 b.ep, .int .i64 b.x, .int .i64 b.y, .int .i64 b.z] 24)).alloc (.cells #[.int .i64 c.f, .int .i64 c.t, .int .i64 c.k, .int .i64 c.ep, .int .i64 c.x, .int .i64 c.y, .int .i64 c.z] 24)) (w.heap.size + 1) b := by simp [SBox, go_sem]
  have KC : SBox (((w.alloc (.cells #[.int .i64 a.f, .int .i64 a.t, .int .i64 a.k, .int .i64 a.ep, .int .i64 a.x, .int .i64 a.y, .int .i64 a.z] 24)).alloc (.cells #[.int .i64 b.f, .int .i64 b.t, .int .i64 b.k, .int .i64 b.ep, .int .i64 b.x, .int .i64 b.y, .int .i64 b.z] 24)).alloc (.cells #[.int .i64 c.f, .int .i64 c.t, .int .i64 c.k, .int .i64 c.ep, .int .i64 c.x, .int .i64 c.y, .int .i64 c.z] 24)) (w.heap.size + 1 + 1) c := by simp [SBox, go_sem]
  have G : Hid (Grow w (((w.alloc (.cells #[.int .i64 a.f, .int .i64 a.t, .int .i64 a.k, .int .i64 a.ep, .int .i64 a.x, .int .i64 a.y, .int .i64 a.z] 24)).alloc (.cells #[.int .i64 b.f, .int .i64 b.t, .int .i64 b.k, .int .i64 b.ep, .int .i64 b.x, .int .i64 b.y, .int .i64 b.z] 24)).alloc (.cells #[.int .i64 c.f, .int .i64 c.t, .int .i64 c.k, .int .i64 c.ep, .int .i64 c.x, .int .i64 c.y, .int .i64 c.z] 24))) := hide (Grow.trans' (Grow.trans' (Grow.alloc' _ _) (Grow.alloc' _ _)) (Grow.alloc' _ _))
  have HA := hide KA
  have HB := hide KB
  have HC := hide KC
  obtain ⟨a_0, a_1, a_2, a_3, a_4, a_5, a_6⟩ := KA
  obtain ⟨b_0, b_1, b_2, b_3, b_4, b_5, b_6⟩ := KB
  obtain ⟨c_0, c_1, c_2, c_3, c_4, c_5, c_6⟩ := KC
  go_wp2_with fail
  refine (shown_any _).mono ?_
  rintro e w1 ⟨rfl, hb⟩
  clear a_0 a_1 a_2 a_3 a_4 a_5 a_6 b_0 b_1 b_2 b_3 b_4 b_5 b_6 c_0 c_1 c_2 c_3 c_4 c_5 c_6
  have KA : SBox w1 w.heap.size (a) := HA.out.later hb
  have KB : SBox w1 (w.heap.size + 1) (b) := HB.out.later hb
  have KC : SBox w1 (w.heap.size + 1 + 1) (c) := HC.out.later hb
  have G : Hid (Grow w w1) := hide (Grow.trans' G.out hb)
  clear hb HA HB HC
  have HA := hide KA
  have HB := hide KB
  have HC := hide KC
  obtain ⟨s0, s1, s2, s3, s4, s5, s6⟩ := KA
  obtain ⟨r0, r1, r2, r3, r4, r5, r6⟩ := KB
  have c0 := cell_regrown s0; have c1 := cell_regrown s1; have c2 := cell_regrown s2; have c3 := cell_regrown s3; have c4 := cell_regrown s4; have c5 := cell_regrown s5; have c6 := cell_regrown s6
  have d0 := cell_regrown r0; have d1 := cell_regrown r1; have d2 := cell_regrown r2; have d3 := cell_regrown r3; have d4 := cell_regrown r4; have d5 := cell_regrown r5; have d6 := cell_regrown r6
  have q1 := hide (fun dd os => Calls.regrown_of (orderC a b _ hAB.out (grow (redrawn w1 dd) os)))
  have q2 := hide (fun dd os => Calls.regrown_of (orderC b a _ hBA.out (grow (redrawn w1 dd) os)))
  clear s0 s1 s2 s3 s4 s5 s6 r0 r1 r2 r3 r4 r5 r6 KC
  go_wp2_with fail
  refine wp_region_quiet_below (by kernel_rfl) (by kernel_rfl) ?_
  repeat (go_big_quiet_step (first | (go_at_call 7; with_reducible exact q1.out _ _) | (go_at_call 7; with_reducible exact q2.out _ _)))
  refine wpQuiet_nil ?_
  intro _ hw'
  obtain ⟨⟨dq, osq⟩, hw''⟩ := hw'
  subst hw''
  have gb := below_regrown w1 dq osq
  clear c0 c1 c2 c3 c4 c5 c6 d0 d1 d2 d3 d4 d5 d6 q1 q2
  generalize grow (redrawn w1 dq) osq = w2 at *
  have KA := HA.out.later gb
  have KB := HB.out.later gb
  have KC := HC.out.later gb
  have G := hide (Grow.trans' G.out gb)
  clear HA HB HC gb
  have HA := hide KA
  have HB := hide KB
  have HC := hide KC
  obtain ⟨a_0, a_1, a_2, a_3, a_4, a_5, a_6⟩ := KA
  obtain ⟨b_0, b_1, b_2, b_3, b_4, b_5, b_6⟩ := KB
  obtain ⟨c_0, c_1, c_2, c_3, c_4, c_5, c_6⟩ := KC
  go_wp2_with fail
  refine (sLeC a b true hl.out _).mono ?_
  rintro e w3 ⟨rfl, hb⟩
  clear a_0 a_1 a_2 a_3 a_4 a_5 a_6 b_0 b_1 b_2 b_3 b_4 b_5 b_6 c_0 c_1 c_2 c_3 c_4 c_5 c_6
  have KA : SBox w3 w.heap.size (a) := HA.out.later hb
  have KB : SBox w3 (w.heap.size + 1) (b) := HB.out.later hb
  have KC : SBox w3 (w.heap.size + 1 + 1) (c) := HC.out.later hb
  have G : Hid (Grow w w3) := hide (Grow.trans' G.out hb)
  clear hb HA HB HC
  have HA := hide KA
  have HB := hide KB
  have HC := hide KC
  obtain ⟨a_0, a_1, a_2, a_3, a_4, a_5, a_6⟩ := KA
  obtain ⟨b_0, b_1, b_2, b_3, b_4, b_5, b_6⟩ := KB
  obtain ⟨c_0, c_1, c_2, c_3, c_4, c_5, c_6⟩ := KC
  go_wp2_with fail
  refine (then_at a c X 0 hX.out hE.out _).mono ?_
  rintro e w4 ⟨rfl, hb⟩
  clear a_0 a_1 a_2 a_3 a_4 a_5 a_6 b_0 b_1 b_2 b_3 b_4 b_5 b_6 c_0 c_1 c_2 c_3 c_4 c_5 c_6
  have KA : SBox (w4.alloc (.cells #[.int .i64 (X).f, .int .i64 (X).t, .int .i64 (X).k, .int .i64 (X).ep, .int .i64 (X).x, .int .i64 (X).y, .int .i64 (X).z] 24)) w.heap.size (a) := (HA.out.later hb).later (Grow.alloc' _ _)
  have KB : SBox (w4.alloc (.cells #[.int .i64 (X).f, .int .i64 (X).t, .int .i64 (X).k, .int .i64 (X).ep, .int .i64 (X).x, .int .i64 (X).y, .int .i64 (X).z] 24)) (w.heap.size + 1) (b) := (HB.out.later hb).later (Grow.alloc' _ _)
  have KC : SBox (w4.alloc (.cells #[.int .i64 (X).f, .int .i64 (X).t, .int .i64 (X).k, .int .i64 (X).ep, .int .i64 (X).x, .int .i64 (X).y, .int .i64 (X).z] 24)) (w.heap.size + 1 + 1) (c) := (HC.out.later hb).later (Grow.alloc' _ _)
  have KX : SBox (w4.alloc (.cells #[.int .i64 (X).f, .int .i64 (X).t, .int .i64 (X).k, .int .i64 (X).ep, .int .i64 (X).x, .int .i64 (X).y, .int .i64 (X).z] 24)) w4.heap.size (X) := SBox.new _ _
  have G : Hid (Grow w (w4.alloc (.cells #[.int .i64 (X).f, .int .i64 (X).t, .int .i64 (X).k, .int .i64 (X).ep, .int .i64 (X).x, .int .i64 (X).y, .int .i64 (X).z] 24))) := hide (Grow.trans' (Grow.trans' G.out hb) (Grow.alloc' _ _))
  clear hb HA HB HC
  have HA := hide KA
  have HB := hide KB
  have HC := hide KC
  have HX := hide KX
  obtain ⟨a_0, a_1, a_2, a_3, a_4, a_5, a_6⟩ := KA
  obtain ⟨b_0, b_1, b_2, b_3, b_4, b_5, b_6⟩ := KB
  obtain ⟨c_0, c_1, c_2, c_3, c_4, c_5, c_6⟩ := KC
  obtain ⟨x_0, x_1, x_2, x_3, x_4, x_5, x_6⟩ := KX
  go_wp2_with fail
  refine (then_at b c Y 0 hY.out hF.out _).mono ?_
  rintro e w5 ⟨rfl, hb⟩
  clear a_0 a_1 a_2 a_3 a_4 a_5 a_6 b_0 b_1 b_2 b_3 b_4 b_5 b_6 c_0 c_1 c_2 c_3 c_4 c_5 c_6 x_0 x_1 x_2 x_3 x_4 x_5 x_6
  have KA : SBox (w5.alloc (.cells #[.int .i64 (Y).f, .int .i64 (Y).t, .int .i64 (Y).k, .int .i64 (Y).ep, .int .i64 (Y).x, .int .i64 (Y).y, .int .i64 (Y).z] 24)) w.heap.size (a) := (HA.out.later hb).later (Grow.alloc' _ _)
  have KB : SBox (w5.alloc (.cells #[.int .i64 (Y).f, .int .i64 (Y).t, .int .i64 (Y).k, .int .i64 (Y).ep, .int .i64 (Y).x, .int .i64 (Y).y, .int .i64 (Y).z] 24)) (w.heap.size + 1) (b) := (HB.out.later hb).later (Grow.alloc' _ _)
  have KC : SBox (w5.alloc (.cells #[.int .i64 (Y).f, .int .i64 (Y).t, .int .i64 (Y).k, .int .i64 (Y).ep, .int .i64 (Y).x, .int .i64 (Y).y, .int .i64 (Y).z] 24)) (w.heap.size + 1 + 1) (c) := (HC.out.later hb).later (Grow.alloc' _ _)
  have KX : SBox (w5.alloc (.cells #[.int .i64 (Y).f, .int .i64 (Y).t, .int .i64 (Y).k, .int .i64 (Y).ep, .int .i64 (Y).x, .int .i64 (Y).y, .int .i64 (Y).z] 24)) w4.heap.size (X) := (HX.out.later hb).later (Grow.alloc' _ _)
  have KY : SBox (w5.alloc (.cells #[.int .i64 (Y).f, .int .i64 (Y).t, .int .i64 (Y).k, .int .i64 (Y).ep, .int .i64 (Y).x, .int .i64 (Y).y, .int .i64 (Y).z] 24)) w5.heap.size (Y) := SBox.new _ _
  have G : Hid (Grow w (w5.alloc (.cells #[.int .i64 (Y).f, .int .i64 (Y).t, .int .i64 (Y).k, .int .i64 (Y).ep, .int .i64 (Y).x, .int .i64 (Y).y, .int .i64 (Y).z] 24))) := hide (Grow.trans' (Grow.trans' G.out hb) (Grow.alloc' _ _))
  clear hb HA HB HC HX
  have HA := hide KA
  have HB := hide KB
  have HC := hide KC
  have HX := hide KX
  have HY := hide KY
  obtain ⟨a_0, a_1, a_2, a_3, a_4, a_5, a_6⟩ := KA
  obtain ⟨b_0, b_1, b_2, b_3, b_4, b_5, b_6⟩ := KB
  obtain ⟨c_0, c_1, c_2, c_3, c_4, c_5, c_6⟩ := KC
  obtain ⟨x_0, x_1, x_2, x_3, x_4, x_5, x_6⟩ := KX
  obtain ⟨y_0, y_1, y_2, y_3, y_4, y_5, y_6⟩ := KY
  go_wp2_with fail
  refine (orderC a b _ hAB.out _).mono ?_
  rintro e w6 ⟨rfl, hb⟩
  clear a_0 a_1 a_2 a_3 a_4 a_5 a_6 b_0 b_1 b_2 b_3 b_4 b_5 b_6 c_0 c_1 c_2 c_3 c_4 c_5 c_6 x_0 x_1 x_2 x_3 x_4 x_5 x_6 y_0 y_1 y_2 y_3 y_4 y_5 y_6
  have KA : SBox w6 w.heap.size (a) := HA.out.later hb
  have KB : SBox w6 (w.heap.size + 1) (b) := HB.out.later hb
  have KC : SBox w6 (w.heap.size + 1 + 1) (c) := HC.out.later hb
  have KX : SBox w6 w4.heap.size (X) := HX.out.later hb
  have KY : SBox w6 w5.heap.size (Y) := HY.out.later hb
  have G : Hid (Grow w w6) := hide (Grow.trans' G.out hb)
  clear hb HA HB HC HX HY
  have HA := hide KA
  have HB := hide KB
  have HC := hide KC
  have HX := hide KX
  have HY := hide KY
  obtain ⟨a_0, a_1, a_2, a_3, a_4, a_5, a_6⟩ := KA
  obtain ⟨b_0, b_1, b_2, b_3, b_4, b_5, b_6⟩ := KB
  obtain ⟨c_0, c_1, c_2, c_3, c_4, c_5, c_6⟩ := KC
  obtain ⟨x_0, x_1, x_2, x_3, x_4, x_5, x_6⟩ := KX
  obtain ⟨y_0, y_1, y_2, y_3, y_4, y_5, y_6⟩ := KY
  go_wp2_with fail
  refine (sLeC X Y true k1.out _).mono ?_
  rintro e w7 ⟨rfl, hb⟩
  clear a_0 a_1 a_2 a_3 a_4 a_5 a_6 b_0 b_1 b_2 b_3 b_4 b_5 b_6 c_0 c_1 c_2 c_3 c_4 c_5 c_6 x_0 x_1 x_2 x_3 x_4 x_5 x_6 y_0 y_1 y_2 y_3 y_4 y_5 y_6
  have KA : SBox w7 w.heap.size (a) := HA.out.later hb
  have KB : SBox w7 (w.heap.size + 1) (b) := HB.out.later hb
  have KC : SBox w7 (w.heap.size + 1 + 1) (c) := HC.out.later hb
  have KX : SBox w7 w4.heap.size (X) := HX.out.later hb
  have KY : SBox w7 w5.heap.size (Y) := HY.out.later hb
  have G : Hid (Grow w w7) := hide (Grow.trans' G.out hb)
  clear hb HA HB HC HX HY
  clear KA KB KC KX KY
  go_wp2
  go_ret
  exact ⟨rfl, G.out⟩
set_option maxHeartbeats 1000000 in
theorem SummaryTotal_1z (a b c X Y : Sm) (E F : Int) (w : World) (hAB : Hid (orderS a b = 0)) (hBA : Hid (orderS b a = 0)) (hq : eqS a b = true) (hl : Hid (leS a b = true)) (hX : Hid (thenS a c = X)) (hE : Hid (thenE a c = E)) (hY : Hid (thenS b c = Y)) (hF : Hid (thenE b c = F)) (k1 : ¬ E = 0) :
    Calls Try.prog 4 #[.agg #[.int .i64 a.f, .int .i64 a.t, .int .i64 a.k, .int .i64 a.ep, .int .i64 a.x, .int .i64 a.y, .int .i64 a.z], .agg #[.int .i64 b.f, .int .i64 b.t, .int .i64 b.k, .int .i64 b.ep, .int .i64 b.x, .int .i64 b.y, .int .i64 b.z], .agg #[.int .i64 c.f, .int .i64 c.t, .int .i64 c.k, .int .i64 c.ep, .int .i64 c.x, .int .i64 c.y, .int .i64 c.z]] w fun e w' => e = .returned (.bool true) ∧ Below w.heap.size w w' := by
  have n1 : IntKind.i64.wrap (-1) = -1 := by decide
  have n2 : IntKind.i64.wrap 1 = 1 := by decide
  go_enter Try.func4, Try.ntmps4
  have KA : SBox (((w.alloc (.cells #[.int .i64 a.f, .int .i64 a.t, .int .i64 a.k, .int .i64 a.ep, .int .i64 a.x, .int .i64 a.y, .int .i64 a.z] 24)).alloc (.cells #[.int .i64 b.f, .int .i64 b.t, .int .i64 b.k, .int .i64 b.ep, .int .i64 b.x, .int .i64 b.y, .int .i64 b.z] 24)).alloc (.cells #[.int .i64 c.f, .int .i64 c.t, .int .i64 c.k, .int .i64 c.ep, .int .i64 c.x, .int .i64 c.y, .int .i64 c.z] 24)) (w.heap.size) a := by simp [SBox, go_sem]
  have KB : SBox (((w.alloc (.cells #[.int .i64 a.f, .int .i64 a.t, .int .i64 a.k, .int .i64 a.ep, .int .i64 a.x, .int .i64 a.y, .int .i64 a.z] 24)).alloc (.cells #[.int .i64 b.f, .int .i64 b.t, .int .i64 b.k, .int .i64 b.ep, .int .i64 b.x, .int .i64 b.y, .int .i64 b.z] 24)).alloc (.cells #[.int .i64 c.f, .int .i64 c.t, .int .i64 c.k, .int .i64 c.ep, .int .i64 c.x, .int .i64 c.y, .int .i64 c.z] 24)) (w.heap.size + 1) b := by simp [SBox, go_sem]
  have KC : SBox (((w.alloc (.cells #[.int .i64 a.f, .int .i64 a.t, .int .i64 a.k, .int .i64 a.ep, .int .i64 a.x, .int .i64 a.y, .int .i64 a.z] 24)).alloc (.cells #[.int .i64 b.f, .int .i64 b.t, .int .i64 b.k, .int .i64 b.ep, .int .i64 b.x, .int .i64 b.y, .int .i64 b.z] 24)).alloc (.cells #[.int .i64 c.f, .int .i64 c.t, .int .i64 c.k, .int .i64 c.ep, .int .i64 c.x, .int .i64 c.y, .int .i64 c.z] 24)) (w.heap.size + 1 + 1) c := by simp [SBox, go_sem]
  have G : Hid (Grow w (((w.alloc (.cells #[.int .i64 a.f, .int .i64 a.t, .int .i64 a.k, .int .i64 a.ep, .int .i64 a.x, .int .i64 a.y, .int .i64 a.z] 24)).alloc (.cells #[.int .i64 b.f, .int .i64 b.t, .int .i64 b.k, .int .i64 b.ep, .int .i64 b.x, .int .i64 b.y, .int .i64 b.z] 24)).alloc (.cells #[.int .i64 c.f, .int .i64 c.t, .int .i64 c.k, .int .i64 c.ep, .int .i64 c.x, .int .i64 c.y, .int .i64 c.z] 24))) := hide (Grow.trans' (Grow.trans' (Grow.alloc' _ _) (Grow.alloc' _ _)) (Grow.alloc' _ _))
  have HA := hide KA
  have HB := hide KB
  have HC := hide KC
  obtain ⟨a_0, a_1, a_2, a_3, a_4, a_5, a_6⟩ := KA
  obtain ⟨b_0, b_1, b_2, b_3, b_4, b_5, b_6⟩ := KB
  obtain ⟨c_0, c_1, c_2, c_3, c_4, c_5, c_6⟩ := KC
  go_wp2_with fail
  refine (shown_any _).mono ?_
  rintro e w1 ⟨rfl, hb⟩
  clear a_0 a_1 a_2 a_3 a_4 a_5 a_6 b_0 b_1 b_2 b_3 b_4 b_5 b_6 c_0 c_1 c_2 c_3 c_4 c_5 c_6
  have KA : SBox w1 w.heap.size (a) := HA.out.later hb
  have KB : SBox w1 (w.heap.size + 1) (b) := HB.out.later hb
  have KC : SBox w1 (w.heap.size + 1 + 1) (c) := HC.out.later hb
  have G : Hid (Grow w w1) := hide (Grow.trans' G.out hb)
  clear hb HA HB HC
  have HA := hide KA
  have HB := hide KB
  have HC := hide KC
  obtain ⟨s0, s1, s2, s3, s4, s5, s6⟩ := KA
  obtain ⟨r0, r1, r2, r3, r4, r5, r6⟩ := KB
  have c0 := cell_regrown s0; have c1 := cell_regrown s1; have c2 := cell_regrown s2; have c3 := cell_regrown s3; have c4 := cell_regrown s4; have c5 := cell_regrown s5; have c6 := cell_regrown s6
  have d0 := cell_regrown r0; have d1 := cell_regrown r1; have d2 := cell_regrown r2; have d3 := cell_regrown r3; have d4 := cell_regrown r4; have d5 := cell_regrown r5; have d6 := cell_regrown r6
  have q1 := hide (fun dd os => Calls.regrown_of (orderC a b _ hAB.out (grow (redrawn w1 dd) os)))
  have q2 := hide (fun dd os => Calls.regrown_of (orderC b a _ hBA.out (grow (redrawn w1 dd) os)))
  clear s0 s1 s2 s3 s4 s5 s6 r0 r1 r2 r3 r4 r5 r6 KC
  go_wp2_with fail
  refine wp_region_quiet_below (by kernel_rfl) (by kernel_rfl) ?_
  repeat (go_big_quiet_step (first | (go_at_call 7; with_reducible exact q1.out _ _) | (go_at_call 7; with_reducible exact q2.out _ _)))
  refine wpQuiet_nil ?_
  intro _ hw'
  obtain ⟨⟨dq, osq⟩, hw''⟩ := hw'
  subst hw''
  have gb := below_regrown w1 dq osq
  clear c0 c1 c2 c3 c4 c5 c6 d0 d1 d2 d3 d4 d5 d6 q1 q2
  generalize grow (redrawn w1 dq) osq = w2 at *
  have KA := HA.out.later gb
  have KB := HB.out.later gb
  have KC := HC.out.later gb
  have G := hide (Grow.trans' G.out gb)
  clear HA HB HC gb
  have HA := hide KA
  have HB := hide KB
  have HC := hide KC
  obtain ⟨a_0, a_1, a_2, a_3, a_4, a_5, a_6⟩ := KA
  obtain ⟨b_0, b_1, b_2, b_3, b_4, b_5, b_6⟩ := KB
  obtain ⟨c_0, c_1, c_2, c_3, c_4, c_5, c_6⟩ := KC
  go_wp2_with fail
  refine (sLeC a b true hl.out _).mono ?_
  rintro e w3 ⟨rfl, hb⟩
  clear a_0 a_1 a_2 a_3 a_4 a_5 a_6 b_0 b_1 b_2 b_3 b_4 b_5 b_6 c_0 c_1 c_2 c_3 c_4 c_5 c_6
  have KA : SBox w3 w.heap.size (a) := HA.out.later hb
  have KB : SBox w3 (w.heap.size + 1) (b) := HB.out.later hb
  have KC : SBox w3 (w.heap.size + 1 + 1) (c) := HC.out.later hb
  have G : Hid (Grow w w3) := hide (Grow.trans' G.out hb)
  clear hb HA HB HC
  have HA := hide KA
  have HB := hide KB
  have HC := hide KC
  obtain ⟨a_0, a_1, a_2, a_3, a_4, a_5, a_6⟩ := KA
  obtain ⟨b_0, b_1, b_2, b_3, b_4, b_5, b_6⟩ := KB
  obtain ⟨c_0, c_1, c_2, c_3, c_4, c_5, c_6⟩ := KC
  go_wp2_with fail
  refine (then_at a c X E hX.out hE.out _).mono ?_
  rintro e w4 ⟨rfl, hb⟩
  clear a_0 a_1 a_2 a_3 a_4 a_5 a_6 b_0 b_1 b_2 b_3 b_4 b_5 b_6 c_0 c_1 c_2 c_3 c_4 c_5 c_6
  have KA : SBox (w4.alloc (.cells #[.int .i64 (X).f, .int .i64 (X).t, .int .i64 (X).k, .int .i64 (X).ep, .int .i64 (X).x, .int .i64 (X).y, .int .i64 (X).z] 24)) w.heap.size (a) := (HA.out.later hb).later (Grow.alloc' _ _)
  have KB : SBox (w4.alloc (.cells #[.int .i64 (X).f, .int .i64 (X).t, .int .i64 (X).k, .int .i64 (X).ep, .int .i64 (X).x, .int .i64 (X).y, .int .i64 (X).z] 24)) (w.heap.size + 1) (b) := (HB.out.later hb).later (Grow.alloc' _ _)
  have KC : SBox (w4.alloc (.cells #[.int .i64 (X).f, .int .i64 (X).t, .int .i64 (X).k, .int .i64 (X).ep, .int .i64 (X).x, .int .i64 (X).y, .int .i64 (X).z] 24)) (w.heap.size + 1 + 1) (c) := (HC.out.later hb).later (Grow.alloc' _ _)
  have KX : SBox (w4.alloc (.cells #[.int .i64 (X).f, .int .i64 (X).t, .int .i64 (X).k, .int .i64 (X).ep, .int .i64 (X).x, .int .i64 (X).y, .int .i64 (X).z] 24)) w4.heap.size (X) := SBox.new _ _
  have G : Hid (Grow w (w4.alloc (.cells #[.int .i64 (X).f, .int .i64 (X).t, .int .i64 (X).k, .int .i64 (X).ep, .int .i64 (X).x, .int .i64 (X).y, .int .i64 (X).z] 24))) := hide (Grow.trans' (Grow.trans' G.out hb) (Grow.alloc' _ _))
  clear hb HA HB HC
  have HA := hide KA
  have HB := hide KB
  have HC := hide KC
  have HX := hide KX
  obtain ⟨a_0, a_1, a_2, a_3, a_4, a_5, a_6⟩ := KA
  obtain ⟨b_0, b_1, b_2, b_3, b_4, b_5, b_6⟩ := KB
  obtain ⟨c_0, c_1, c_2, c_3, c_4, c_5, c_6⟩ := KC
  obtain ⟨x_0, x_1, x_2, x_3, x_4, x_5, x_6⟩ := KX
  go_wp2_with fail
  refine (then_at b c Y F hY.out hF.out _).mono ?_
  rintro e w5 ⟨rfl, hb⟩
  clear a_0 a_1 a_2 a_3 a_4 a_5 a_6 b_0 b_1 b_2 b_3 b_4 b_5 b_6 c_0 c_1 c_2 c_3 c_4 c_5 c_6 x_0 x_1 x_2 x_3 x_4 x_5 x_6
  have KA : SBox (w5.alloc (.cells #[.int .i64 (Y).f, .int .i64 (Y).t, .int .i64 (Y).k, .int .i64 (Y).ep, .int .i64 (Y).x, .int .i64 (Y).y, .int .i64 (Y).z] 24)) w.heap.size (a) := (HA.out.later hb).later (Grow.alloc' _ _)
  have KB : SBox (w5.alloc (.cells #[.int .i64 (Y).f, .int .i64 (Y).t, .int .i64 (Y).k, .int .i64 (Y).ep, .int .i64 (Y).x, .int .i64 (Y).y, .int .i64 (Y).z] 24)) (w.heap.size + 1) (b) := (HB.out.later hb).later (Grow.alloc' _ _)
  have KC : SBox (w5.alloc (.cells #[.int .i64 (Y).f, .int .i64 (Y).t, .int .i64 (Y).k, .int .i64 (Y).ep, .int .i64 (Y).x, .int .i64 (Y).y, .int .i64 (Y).z] 24)) (w.heap.size + 1 + 1) (c) := (HC.out.later hb).later (Grow.alloc' _ _)
  have KX : SBox (w5.alloc (.cells #[.int .i64 (Y).f, .int .i64 (Y).t, .int .i64 (Y).k, .int .i64 (Y).ep, .int .i64 (Y).x, .int .i64 (Y).y, .int .i64 (Y).z] 24)) w4.heap.size (X) := (HX.out.later hb).later (Grow.alloc' _ _)
  have KY : SBox (w5.alloc (.cells #[.int .i64 (Y).f, .int .i64 (Y).t, .int .i64 (Y).k, .int .i64 (Y).ep, .int .i64 (Y).x, .int .i64 (Y).y, .int .i64 (Y).z] 24)) w5.heap.size (Y) := SBox.new _ _
  have G : Hid (Grow w (w5.alloc (.cells #[.int .i64 (Y).f, .int .i64 (Y).t, .int .i64 (Y).k, .int .i64 (Y).ep, .int .i64 (Y).x, .int .i64 (Y).y, .int .i64 (Y).z] 24))) := hide (Grow.trans' (Grow.trans' G.out hb) (Grow.alloc' _ _))
  clear hb HA HB HC HX
  have HA := hide KA
  have HB := hide KB
  have HC := hide KC
  have HX := hide KX
  have HY := hide KY
  obtain ⟨a_0, a_1, a_2, a_3, a_4, a_5, a_6⟩ := KA
  obtain ⟨b_0, b_1, b_2, b_3, b_4, b_5, b_6⟩ := KB
  obtain ⟨c_0, c_1, c_2, c_3, c_4, c_5, c_6⟩ := KC
  obtain ⟨x_0, x_1, x_2, x_3, x_4, x_5, x_6⟩ := KX
  obtain ⟨y_0, y_1, y_2, y_3, y_4, y_5, y_6⟩ := KY
  go_wp2_with fail
  refine (orderC a b _ hAB.out _).mono ?_
  rintro e w6 ⟨rfl, hb⟩
  clear a_0 a_1 a_2 a_3 a_4 a_5 a_6 b_0 b_1 b_2 b_3 b_4 b_5 b_6 c_0 c_1 c_2 c_3 c_4 c_5 c_6 x_0 x_1 x_2 x_3 x_4 x_5 x_6 y_0 y_1 y_2 y_3 y_4 y_5 y_6
  have KA : SBox w6 w.heap.size (a) := HA.out.later hb
  have KB : SBox w6 (w.heap.size + 1) (b) := HB.out.later hb
  have KC : SBox w6 (w.heap.size + 1 + 1) (c) := HC.out.later hb
  have KX : SBox w6 w4.heap.size (X) := HX.out.later hb
  have KY : SBox w6 w5.heap.size (Y) := HY.out.later hb
  have G : Hid (Grow w w6) := hide (Grow.trans' G.out hb)
  clear hb HA HB HC HX HY
  
  clear KA KB KC KX KY
  go_wp2
  go_ret
  exact ⟨rfl, G.out⟩
set_option maxHeartbeats 1000000 in
theorem SummaryTotal_2z (a b c X Y : Sm) (E F : Int) (w : World) (hAB : Hid (orderS a b = 0)) (hBA : Hid (orderS b a = 0)) (hq : eqS a b = true) (hl : Hid (leS a b = true)) (hX : Hid (thenS a c = X)) (hE : Hid (thenE a c = 0)) (hY : Hid (thenS b c = Y)) (hF : Hid (thenE b c = F)) (k1 : ¬ F = 0) :
    Calls Try.prog 4 #[.agg #[.int .i64 a.f, .int .i64 a.t, .int .i64 a.k, .int .i64 a.ep, .int .i64 a.x, .int .i64 a.y, .int .i64 a.z], .agg #[.int .i64 b.f, .int .i64 b.t, .int .i64 b.k, .int .i64 b.ep, .int .i64 b.x, .int .i64 b.y, .int .i64 b.z], .agg #[.int .i64 c.f, .int .i64 c.t, .int .i64 c.k, .int .i64 c.ep, .int .i64 c.x, .int .i64 c.y, .int .i64 c.z]] w fun e w' => e = .returned (.bool true) ∧ Below w.heap.size w w' := by
  have n1 : IntKind.i64.wrap (-1) = -1 := by decide
  have n2 : IntKind.i64.wrap 1 = 1 := by decide
  go_enter Try.func4, Try.ntmps4
  have KA : SBox (((w.alloc (.cells #[.int .i64 a.f, .int .i64 a.t, .int .i64 a.k, .int .i64 a.ep, .int .i64 a.x, .int .i64 a.y, .int .i64 a.z] 24)).alloc (.cells #[.int .i64 b.f, .int .i64 b.t, .int .i64 b.k, .int .i64 b.ep, .int .i64 b.x, .int .i64 b.y, .int .i64 b.z] 24)).alloc (.cells #[.int .i64 c.f, .int .i64 c.t, .int .i64 c.k, .int .i64 c.ep, .int .i64 c.x, .int .i64 c.y, .int .i64 c.z] 24)) (w.heap.size) a := by simp [SBox, go_sem]
  have KB : SBox (((w.alloc (.cells #[.int .i64 a.f, .int .i64 a.t, .int .i64 a.k, .int .i64 a.ep, .int .i64 a.x, .int .i64 a.y, .int .i64 a.z] 24)).alloc (.cells #[.int .i64 b.f, .int .i64 b.t, .int .i64 b.k, .int .i64 b.ep, .int .i64 b.x, .int .i64 b.y, .int .i64 b.z] 24)).alloc (.cells #[.int .i64 c.f, .int .i64 c.t, .int .i64 c.k, .int .i64 c.ep, .int .i64 c.x, .int .i64 c.y, .int .i64 c.z] 24)) (w.heap.size + 1) b := by simp [SBox, go_sem]
  have KC : SBox (((w.alloc (.cells #[.int .i64 a.f, .int .i64 a.t, .int .i64 a.k, .int .i64 a.ep, .int .i64 a.x, .int .i64 a.y, .int .i64 a.z] 24)).alloc (.cells #[.int .i64 b.f, .int .i64 b.t, .int .i64 b.k, .int .i64 b.ep, .int .i64 b.x, .int .i64 b.y, .int .i64 b.z] 24)).alloc (.cells #[.int .i64 c.f, .int .i64 c.t, .int .i64 c.k, .int .i64 c.ep, .int .i64 c.x, .int .i64 c.y, .int .i64 c.z] 24)) (w.heap.size + 1 + 1) c := by simp [SBox, go_sem]
  have G : Hid (Grow w (((w.alloc (.cells #[.int .i64 a.f, .int .i64 a.t, .int .i64 a.k, .int .i64 a.ep, .int .i64 a.x, .int .i64 a.y, .int .i64 a.z] 24)).alloc (.cells #[.int .i64 b.f, .int .i64 b.t, .int .i64 b.k, .int .i64 b.ep, .int .i64 b.x, .int .i64 b.y, .int .i64 b.z] 24)).alloc (.cells #[.int .i64 c.f, .int .i64 c.t, .int .i64 c.k, .int .i64 c.ep, .int .i64 c.x, .int .i64 c.y, .int .i64 c.z] 24))) := hide (Grow.trans' (Grow.trans' (Grow.alloc' _ _) (Grow.alloc' _ _)) (Grow.alloc' _ _))
  have HA := hide KA
  have HB := hide KB
  have HC := hide KC
  obtain ⟨a_0, a_1, a_2, a_3, a_4, a_5, a_6⟩ := KA
  obtain ⟨b_0, b_1, b_2, b_3, b_4, b_5, b_6⟩ := KB
  obtain ⟨c_0, c_1, c_2, c_3, c_4, c_5, c_6⟩ := KC
  go_wp2_with fail
  refine (shown_any _).mono ?_
  rintro e w1 ⟨rfl, hb⟩
  clear a_0 a_1 a_2 a_3 a_4 a_5 a_6 b_0 b_1 b_2 b_3 b_4 b_5 b_6 c_0 c_1 c_2 c_3 c_4 c_5 c_6
  have KA : SBox w1 w.heap.size (a) := HA.out.later hb
  have KB : SBox w1 (w.heap.size + 1) (b) := HB.out.later hb
  have KC : SBox w1 (w.heap.size + 1 + 1) (c) := HC.out.later hb
  have G : Hid (Grow w w1) := hide (Grow.trans' G.out hb)
  clear hb HA HB HC
  have HA := hide KA
  have HB := hide KB
  have HC := hide KC
  obtain ⟨s0, s1, s2, s3, s4, s5, s6⟩ := KA
  obtain ⟨r0, r1, r2, r3, r4, r5, r6⟩ := KB
  have c0 := cell_regrown s0; have c1 := cell_regrown s1; have c2 := cell_regrown s2; have c3 := cell_regrown s3; have c4 := cell_regrown s4; have c5 := cell_regrown s5; have c6 := cell_regrown s6
  have d0 := cell_regrown r0; have d1 := cell_regrown r1; have d2 := cell_regrown r2; have d3 := cell_regrown r3; have d4 := cell_regrown r4; have d5 := cell_regrown r5; have d6 := cell_regrown r6
  have q1 := hide (fun dd os => Calls.regrown_of (orderC a b _ hAB.out (grow (redrawn w1 dd) os)))
  have q2 := hide (fun dd os => Calls.regrown_of (orderC b a _ hBA.out (grow (redrawn w1 dd) os)))
  clear s0 s1 s2 s3 s4 s5 s6 r0 r1 r2 r3 r4 r5 r6 KC
  go_wp2_with fail
  refine wp_region_quiet_below (by kernel_rfl) (by kernel_rfl) ?_
  repeat (go_big_quiet_step (first | (go_at_call 7; with_reducible exact q1.out _ _) | (go_at_call 7; with_reducible exact q2.out _ _)))
  refine wpQuiet_nil ?_
  intro _ hw'
  obtain ⟨⟨dq, osq⟩, hw''⟩ := hw'
  subst hw''
  have gb := below_regrown w1 dq osq
  clear c0 c1 c2 c3 c4 c5 c6 d0 d1 d2 d3 d4 d5 d6 q1 q2
  generalize grow (redrawn w1 dq) osq = w2 at *
  have KA := HA.out.later gb
  have KB := HB.out.later gb
  have KC := HC.out.later gb
  have G := hide (Grow.trans' G.out gb)
  clear HA HB HC gb
  have HA := hide KA
  have HB := hide KB
  have HC := hide KC
  obtain ⟨a_0, a_1, a_2, a_3, a_4, a_5, a_6⟩ := KA
  obtain ⟨b_0, b_1, b_2, b_3, b_4, b_5, b_6⟩ := KB
  obtain ⟨c_0, c_1, c_2, c_3, c_4, c_5, c_6⟩ := KC
  go_wp2_with fail
  refine (sLeC a b true hl.out _).mono ?_
  rintro e w3 ⟨rfl, hb⟩
  clear a_0 a_1 a_2 a_3 a_4 a_5 a_6 b_0 b_1 b_2 b_3 b_4 b_5 b_6 c_0 c_1 c_2 c_3 c_4 c_5 c_6
  have KA : SBox w3 w.heap.size (a) := HA.out.later hb
  have KB : SBox w3 (w.heap.size + 1) (b) := HB.out.later hb
  have KC : SBox w3 (w.heap.size + 1 + 1) (c) := HC.out.later hb
  have G : Hid (Grow w w3) := hide (Grow.trans' G.out hb)
  clear hb HA HB HC
  have HA := hide KA
  have HB := hide KB
  have HC := hide KC
  obtain ⟨a_0, a_1, a_2, a_3, a_4, a_5, a_6⟩ := KA
  obtain ⟨b_0, b_1, b_2, b_3, b_4, b_5, b_6⟩ := KB
  obtain ⟨c_0, c_1, c_2, c_3, c_4, c_5, c_6⟩ := KC
  go_wp2_with fail
  refine (then_at a c X 0 hX.out hE.out _).mono ?_
  rintro e w4 ⟨rfl, hb⟩
  clear a_0 a_1 a_2 a_3 a_4 a_5 a_6 b_0 b_1 b_2 b_3 b_4 b_5 b_6 c_0 c_1 c_2 c_3 c_4 c_5 c_6
  have KA : SBox (w4.alloc (.cells #[.int .i64 (X).f, .int .i64 (X).t, .int .i64 (X).k, .int .i64 (X).ep, .int .i64 (X).x, .int .i64 (X).y, .int .i64 (X).z] 24)) w.heap.size (a) := (HA.out.later hb).later (Grow.alloc' _ _)
  have KB : SBox (w4.alloc (.cells #[.int .i64 (X).f, .int .i64 (X).t, .int .i64 (X).k, .int .i64 (X).ep, .int .i64 (X).x, .int .i64 (X).y, .int .i64 (X).z] 24)) (w.heap.size + 1) (b) := (HB.out.later hb).later (Grow.alloc' _ _)
  have KC : SBox (w4.alloc (.cells #[.int .i64 (X).f, .int .i64 (X).t, .int .i64 (X).k, .int .i64 (X).ep, .int .i64 (X).x, .int .i64 (X).y, .int .i64 (X).z] 24)) (w.heap.size + 1 + 1) (c) := (HC.out.later hb).later (Grow.alloc' _ _)
  have KX : SBox (w4.alloc (.cells #[.int .i64 (X).f, .int .i64 (X).t, .int .i64 (X).k, .int .i64 (X).ep, .int .i64 (X).x, .int .i64 (X).y, .int .i64 (X).z] 24)) w4.heap.size (X) := SBox.new _ _
  have G : Hid (Grow w (w4.alloc (.cells #[.int .i64 (X).f, .int .i64 (X).t, .int .i64 (X).k, .int .i64 (X).ep, .int .i64 (X).x, .int .i64 (X).y, .int .i64 (X).z] 24))) := hide (Grow.trans' (Grow.trans' G.out hb) (Grow.alloc' _ _))
  clear hb HA HB HC
  have HA := hide KA
  have HB := hide KB
  have HC := hide KC
  have HX := hide KX
  obtain ⟨a_0, a_1, a_2, a_3, a_4, a_5, a_6⟩ := KA
  obtain ⟨b_0, b_1, b_2, b_3, b_4, b_5, b_6⟩ := KB
  obtain ⟨c_0, c_1, c_2, c_3, c_4, c_5, c_6⟩ := KC
  obtain ⟨x_0, x_1, x_2, x_3, x_4, x_5, x_6⟩ := KX
  go_wp2_with fail
  refine (then_at b c Y F hY.out hF.out _).mono ?_
  rintro e w5 ⟨rfl, hb⟩
  clear a_0 a_1 a_2 a_3 a_4 a_5 a_6 b_0 b_1 b_2 b_3 b_4 b_5 b_6 c_0 c_1 c_2 c_3 c_4 c_5 c_6 x_0 x_1 x_2 x_3 x_4 x_5 x_6
  have KA : SBox (w5.alloc (.cells #[.int .i64 (Y).f, .int .i64 (Y).t, .int .i64 (Y).k, .int .i64 (Y).ep, .int .i64 (Y).x, .int .i64 (Y).y, .int .i64 (Y).z] 24)) w.heap.size (a) := (HA.out.later hb).later (Grow.alloc' _ _)
  have KB : SBox (w5.alloc (.cells #[.int .i64 (Y).f, .int .i64 (Y).t, .int .i64 (Y).k, .int .i64 (Y).ep, .int .i64 (Y).x, .int .i64 (Y).y, .int .i64 (Y).z] 24)) (w.heap.size + 1) (b) := (HB.out.later hb).later (Grow.alloc' _ _)
  have KC : SBox (w5.alloc (.cells #[.int .i64 (Y).f, .int .i64 (Y).t, .int .i64 (Y).k, .int .i64 (Y).ep, .int .i64 (Y).x, .int .i64 (Y).y, .int .i64 (Y).z] 24)) (w.heap.size + 1 + 1) (c) := (HC.out.later hb).later (Grow.alloc' _ _)
  have KX : SBox (w5.alloc (.cells #[.int .i64 (Y).f, .int .i64 (Y).t, .int .i64 (Y).k, .int .i64 (Y).ep, .int .i64 (Y).x, .int .i64 (Y).y, .int .i64 (Y).z] 24)) w4.heap.size (X) := (HX.out.later hb).later (Grow.alloc' _ _)
  have KY : SBox (w5.alloc (.cells #[.int .i64 (Y).f, .int .i64 (Y).t, .int .i64 (Y).k, .int .i64 (Y).ep, .int .i64 (Y).x, .int .i64 (Y).y, .int .i64 (Y).z] 24)) w5.heap.size (Y) := SBox.new _ _
  have G : Hid (Grow w (w5.alloc (.cells #[.int .i64 (Y).f, .int .i64 (Y).t, .int .i64 (Y).k, .int .i64 (Y).ep, .int .i64 (Y).x, .int .i64 (Y).y, .int .i64 (Y).z] 24))) := hide (Grow.trans' (Grow.trans' G.out hb) (Grow.alloc' _ _))
  clear hb HA HB HC HX
  have HA := hide KA
  have HB := hide KB
  have HC := hide KC
  have HX := hide KX
  have HY := hide KY
  obtain ⟨a_0, a_1, a_2, a_3, a_4, a_5, a_6⟩ := KA
  obtain ⟨b_0, b_1, b_2, b_3, b_4, b_5, b_6⟩ := KB
  obtain ⟨c_0, c_1, c_2, c_3, c_4, c_5, c_6⟩ := KC
  obtain ⟨x_0, x_1, x_2, x_3, x_4, x_5, x_6⟩ := KX
  obtain ⟨y_0, y_1, y_2, y_3, y_4, y_5, y_6⟩ := KY
  go_wp2_with fail
  refine (orderC a b _ hAB.out _).mono ?_
  rintro e w6 ⟨rfl, hb⟩
  clear a_0 a_1 a_2 a_3 a_4 a_5 a_6 b_0 b_1 b_2 b_3 b_4 b_5 b_6 c_0 c_1 c_2 c_3 c_4 c_5 c_6 x_0 x_1 x_2 x_3 x_4 x_5 x_6 y_0 y_1 y_2 y_3 y_4 y_5 y_6
  have KA : SBox w6 w.heap.size (a) := HA.out.later hb
  have KB : SBox w6 (w.heap.size + 1) (b) := HB.out.later hb
  have KC : SBox w6 (w.heap.size + 1 + 1) (c) := HC.out.later hb
  have KX : SBox w6 w4.heap.size (X) := HX.out.later hb
  have KY : SBox w6 w5.heap.size (Y) := HY.out.later hb
  have G : Hid (Grow w w6) := hide (Grow.trans' G.out hb)
  clear hb HA HB HC HX HY
  
  clear KA KB KC KX KY
  go_wp2
  go_ret
  exact ⟨rfl, G.out⟩
set_option maxHeartbeats 1000000 in
theorem SummaryTotal_3z (a b c X Y : Sm) (E F : Int) (w : World) (hAB : Hid (orderS a b = 0)) (hBA : Hid (orderS b a = 0)) (hq : eqS a b = true) (hl : Hid (leS a b = true)) (hX : Hid (thenS a c = X)) (hE : Hid (thenE a c = 0)) (hY : Hid (thenS b c = Y)) (hF : Hid (thenE b c = 0)) (k1 : Hid (leS X Y = true)) :
    Calls Try.prog 4 #[.agg #[.int .i64 a.f, .int .i64 a.t, .int .i64 a.k, .int .i64 a.ep, .int .i64 a.x, .int .i64 a.y, .int .i64 a.z], .agg #[.int .i64 b.f, .int .i64 b.t, .int .i64 b.k, .int .i64 b.ep, .int .i64 b.x, .int .i64 b.y, .int .i64 b.z], .agg #[.int .i64 c.f, .int .i64 c.t, .int .i64 c.k, .int .i64 c.ep, .int .i64 c.x, .int .i64 c.y, .int .i64 c.z]] w fun e w' => e = .returned (.bool true) ∧ Below w.heap.size w w' := by
  have n1 : IntKind.i64.wrap (-1) = -1 := by decide
  have n2 : IntKind.i64.wrap 1 = 1 := by decide
  go_enter Try.func4, Try.ntmps4
  have KA : SBox (((w.alloc (.cells #[.int .i64 a.f, .int .i64 a.t, .int .i64 a.k, .int .i64 a.ep, .int .i64 a.x, .int .i64 a.y, .int .i64 a.z] 24)).alloc (.cells #[.int .i64 b.f, .int .i64 b.t, .int .i64 b.k, .int .i64 b.ep, .int .i64 b.x, .int .i64 b.y, .int .i64 b.z] 24)).alloc (.cells #[.int .i64 c.f, .int .i64 c.t, .int .i64 c.k, .int .i64 c.ep, .int .i64 c.x, .int .i64 c.y, .int .i64 c.z] 24)) (w.heap.size) a := by simp [SBox, go_sem]
  have KB : SBox (((w.alloc (.cells #[.int .i64 a.f, .int .i64 a.t, .int .i64 a.k, .int .i64 a.ep, .int .i64 a.x, .int .i64 a.y, .int .i64 a.z] 24)).alloc (.cells #[.int .i64 b.f, .int .i64 b.t, .int .i64 b.k, .int .i64 b.ep, .int .i64 b.x, .int .i64 b.y, .int .i64 b.z] 24)).alloc (.cells #[.int .i64 c.f, .int .i64 c.t, .int .i64 c.k, .int .i64 c.ep, .int .i64 c.x, .int .i64 c.y, .int .i64 c.z] 24)) (w.heap.size + 1) b := by simp [SBox, go_sem]
  have KC : SBox (((w.alloc (.cells #[.int .i64 a.f, .int .i64 a.t, .int .i64 a.k, .int .i64 a.ep, .int .i64 a.x, .int .i64 a.y, .int .i64 a.z] 24)).alloc (.cells #[.int .i64 b.f, .int .i64 b.t, .int .i64 b.k, .int .i64 b.ep, .int .i64 b.x, .int .i64 b.y, .int .i64 b.z] 24)).alloc (.cells #[.int .i64 c.f, .int .i64 c.t, .int .i64 c.k, .int .i64 c.ep, .int .i64 c.x, .int .i64 c.y, .int .i64 c.z] 24)) (w.heap.size + 1 + 1) c := by simp [SBox, go_sem]
  have G : Hid (Grow w (((w.alloc (.cells #[.int .i64 a.f, .int .i64 a.t, .int .i64 a.k, .int .i64 a.ep, .int .i64 a.x, .int .i64 a.y, .int .i64 a.z] 24)).alloc (.cells #[.int .i64 b.f, .int .i64 b.t, .int .i64 b.k, .int .i64 b.ep, .int .i64 b.x, .int .i64 b.y, .int .i64 b.z] 24)).alloc (.cells #[.int .i64 c.f, .int .i64 c.t, .int .i64 c.k, .int .i64 c.ep, .int .i64 c.x, .int .i64 c.y, .int .i64 c.z] 24))) := hide (Grow.trans' (Grow.trans' (Grow.alloc' _ _) (Grow.alloc' _ _)) (Grow.alloc' _ _))
  have HA := hide KA
  have HB := hide KB
  have HC := hide KC
  obtain ⟨a_0, a_1, a_2, a_3, a_4, a_5, a_6⟩ := KA
  obtain ⟨b_0, b_1, b_2, b_3, b_4, b_5, b_6⟩ := KB
  obtain ⟨c_0, c_1, c_2, c_3, c_4, c_5, c_6⟩ := KC
  go_wp2_with fail
  refine (shown_any _).mono ?_
  rintro e w1 ⟨rfl, hb⟩
  clear a_0 a_1 a_2 a_3 a_4 a_5 a_6 b_0 b_1 b_2 b_3 b_4 b_5 b_6 c_0 c_1 c_2 c_3 c_4 c_5 c_6
  have KA : SBox w1 w.heap.size (a) := HA.out.later hb
  have KB : SBox w1 (w.heap.size + 1) (b) := HB.out.later hb
  have KC : SBox w1 (w.heap.size + 1 + 1) (c) := HC.out.later hb
  have G : Hid (Grow w w1) := hide (Grow.trans' G.out hb)
  clear hb HA HB HC
  have HA := hide KA
  have HB := hide KB
  have HC := hide KC
  obtain ⟨s0, s1, s2, s3, s4, s5, s6⟩ := KA
  obtain ⟨r0, r1, r2, r3, r4, r5, r6⟩ := KB
  have c0 := cell_regrown s0; have c1 := cell_regrown s1; have c2 := cell_regrown s2; have c3 := cell_regrown s3; have c4 := cell_regrown s4; have c5 := cell_regrown s5; have c6 := cell_regrown s6
  have d0 := cell_regrown r0; have d1 := cell_regrown r1; have d2 := cell_regrown r2; have d3 := cell_regrown r3; have d4 := cell_regrown r4; have d5 := cell_regrown r5; have d6 := cell_regrown r6
  have q1 := hide (fun dd os => Calls.regrown_of (orderC a b _ hAB.out (grow (redrawn w1 dd) os)))
  have q2 := hide (fun dd os => Calls.regrown_of (orderC b a _ hBA.out (grow (redrawn w1 dd) os)))
  clear s0 s1 s2 s3 s4 s5 s6 r0 r1 r2 r3 r4 r5 r6 KC
  go_wp2_with fail
  refine wp_region_quiet_below (by kernel_rfl) (by kernel_rfl) ?_
  repeat (go_big_quiet_step (first | (go_at_call 7; with_reducible exact q1.out _ _) | (go_at_call 7; with_reducible exact q2.out _ _)))
  refine wpQuiet_nil ?_
  intro _ hw'
  obtain ⟨⟨dq, osq⟩, hw''⟩ := hw'
  subst hw''
  have gb := below_regrown w1 dq osq
  clear c0 c1 c2 c3 c4 c5 c6 d0 d1 d2 d3 d4 d5 d6 q1 q2
  generalize grow (redrawn w1 dq) osq = w2 at *
  have KA := HA.out.later gb
  have KB := HB.out.later gb
  have KC := HC.out.later gb
  have G := hide (Grow.trans' G.out gb)
  clear HA HB HC gb
  have HA := hide KA
  have HB := hide KB
  have HC := hide KC
  obtain ⟨a_0, a_1, a_2, a_3, a_4, a_5, a_6⟩ := KA
  obtain ⟨b_0, b_1, b_2, b_3, b_4, b_5, b_6⟩ := KB
  obtain ⟨c_0, c_1, c_2, c_3, c_4, c_5, c_6⟩ := KC
  go_wp2_with fail
  refine (sLeC a b true hl.out _).mono ?_
  rintro e w3 ⟨rfl, hb⟩
  clear a_0 a_1 a_2 a_3 a_4 a_5 a_6 b_0 b_1 b_2 b_3 b_4 b_5 b_6 c_0 c_1 c_2 c_3 c_4 c_5 c_6
  have KA : SBox w3 w.heap.size (a) := HA.out.later hb
  have KB : SBox w3 (w.heap.size + 1) (b) := HB.out.later hb
  have KC : SBox w3 (w.heap.size + 1 + 1) (c) := HC.out.later hb
  have G : Hid (Grow w w3) := hide (Grow.trans' G.out hb)
  clear hb HA HB HC
  have HA := hide KA
  have HB := hide KB
  have HC := hide KC
  obtain ⟨a_0, a_1, a_2, a_3, a_4, a_5, a_6⟩ := KA
  obtain ⟨b_0, b_1, b_2, b_3, b_4, b_5, b_6⟩ := KB
  obtain ⟨c_0, c_1, c_2, c_3, c_4, c_5, c_6⟩ := KC
  go_wp2_with fail
  refine (then_at a c X 0 hX.out hE.out _).mono ?_
  rintro e w4 ⟨rfl, hb⟩
  clear a_0 a_1 a_2 a_3 a_4 a_5 a_6 b_0 b_1 b_2 b_3 b_4 b_5 b_6 c_0 c_1 c_2 c_3 c_4 c_5 c_6
  have KA : SBox (w4.alloc (.cells #[.int .i64 (X).f, .int .i64 (X).t, .int .i64 (X).k, .int .i64 (X).ep, .int .i64 (X).x, .int .i64 (X).y, .int .i64 (X).z] 24)) w.heap.size (a) := (HA.out.later hb).later (Grow.alloc' _ _)
  have KB : SBox (w4.alloc (.cells #[.int .i64 (X).f, .int .i64 (X).t, .int .i64 (X).k, .int .i64 (X).ep, .int .i64 (X).x, .int .i64 (X).y, .int .i64 (X).z] 24)) (w.heap.size + 1) (b) := (HB.out.later hb).later (Grow.alloc' _ _)
  have KC : SBox (w4.alloc (.cells #[.int .i64 (X).f, .int .i64 (X).t, .int .i64 (X).k, .int .i64 (X).ep, .int .i64 (X).x, .int .i64 (X).y, .int .i64 (X).z] 24)) (w.heap.size + 1 + 1) (c) := (HC.out.later hb).later (Grow.alloc' _ _)
  have KX : SBox (w4.alloc (.cells #[.int .i64 (X).f, .int .i64 (X).t, .int .i64 (X).k, .int .i64 (X).ep, .int .i64 (X).x, .int .i64 (X).y, .int .i64 (X).z] 24)) w4.heap.size (X) := SBox.new _ _
  have G : Hid (Grow w (w4.alloc (.cells #[.int .i64 (X).f, .int .i64 (X).t, .int .i64 (X).k, .int .i64 (X).ep, .int .i64 (X).x, .int .i64 (X).y, .int .i64 (X).z] 24))) := hide (Grow.trans' (Grow.trans' G.out hb) (Grow.alloc' _ _))
  clear hb HA HB HC
  have HA := hide KA
  have HB := hide KB
  have HC := hide KC
  have HX := hide KX
  obtain ⟨a_0, a_1, a_2, a_3, a_4, a_5, a_6⟩ := KA
  obtain ⟨b_0, b_1, b_2, b_3, b_4, b_5, b_6⟩ := KB
  obtain ⟨c_0, c_1, c_2, c_3, c_4, c_5, c_6⟩ := KC
  obtain ⟨x_0, x_1, x_2, x_3, x_4, x_5, x_6⟩ := KX
  go_wp2_with fail
  refine (then_at b c Y 0 hY.out hF.out _).mono ?_
  rintro e w5 ⟨rfl, hb⟩
  clear a_0 a_1 a_2 a_3 a_4 a_5 a_6 b_0 b_1 b_2 b_3 b_4 b_5 b_6 c_0 c_1 c_2 c_3 c_4 c_5 c_6 x_0 x_1 x_2 x_3 x_4 x_5 x_6
  have KA : SBox (w5.alloc (.cells #[.int .i64 (Y).f, .int .i64 (Y).t, .int .i64 (Y).k, .int .i64 (Y).ep, .int .i64 (Y).x, .int .i64 (Y).y, .int .i64 (Y).z] 24)) w.heap.size (a) := (HA.out.later hb).later (Grow.alloc' _ _)
  have KB : SBox (w5.alloc (.cells #[.int .i64 (Y).f, .int .i64 (Y).t, .int .i64 (Y).k, .int .i64 (Y).ep, .int .i64 (Y).x, .int .i64 (Y).y, .int .i64 (Y).z] 24)) (w.heap.size + 1) (b) := (HB.out.later hb).later (Grow.alloc' _ _)
  have KC : SBox (w5.alloc (.cells #[.int .i64 (Y).f, .int .i64 (Y).t, .int .i64 (Y).k, .int .i64 (Y).ep, .int .i64 (Y).x, .int .i64 (Y).y, .int .i64 (Y).z] 24)) (w.heap.size + 1 + 1) (c) := (HC.out.later hb).later (Grow.alloc' _ _)
  have KX : SBox (w5.alloc (.cells #[.int .i64 (Y).f, .int .i64 (Y).t, .int .i64 (Y).k, .int .i64 (Y).ep, .int .i64 (Y).x, .int .i64 (Y).y, .int .i64 (Y).z] 24)) w4.heap.size (X) := (HX.out.later hb).later (Grow.alloc' _ _)
  have KY : SBox (w5.alloc (.cells #[.int .i64 (Y).f, .int .i64 (Y).t, .int .i64 (Y).k, .int .i64 (Y).ep, .int .i64 (Y).x, .int .i64 (Y).y, .int .i64 (Y).z] 24)) w5.heap.size (Y) := SBox.new _ _
  have G : Hid (Grow w (w5.alloc (.cells #[.int .i64 (Y).f, .int .i64 (Y).t, .int .i64 (Y).k, .int .i64 (Y).ep, .int .i64 (Y).x, .int .i64 (Y).y, .int .i64 (Y).z] 24))) := hide (Grow.trans' (Grow.trans' G.out hb) (Grow.alloc' _ _))
  clear hb HA HB HC HX
  have HA := hide KA
  have HB := hide KB
  have HC := hide KC
  have HX := hide KX
  have HY := hide KY
  obtain ⟨a_0, a_1, a_2, a_3, a_4, a_5, a_6⟩ := KA
  obtain ⟨b_0, b_1, b_2, b_3, b_4, b_5, b_6⟩ := KB
  obtain ⟨c_0, c_1, c_2, c_3, c_4, c_5, c_6⟩ := KC
  obtain ⟨x_0, x_1, x_2, x_3, x_4, x_5, x_6⟩ := KX
  obtain ⟨y_0, y_1, y_2, y_3, y_4, y_5, y_6⟩ := KY
  go_wp2_with fail
  refine (orderC a b _ hAB.out _).mono ?_
  rintro e w6 ⟨rfl, hb⟩
  clear a_0 a_1 a_2 a_3 a_4 a_5 a_6 b_0 b_1 b_2 b_3 b_4 b_5 b_6 c_0 c_1 c_2 c_3 c_4 c_5 c_6 x_0 x_1 x_2 x_3 x_4 x_5 x_6 y_0 y_1 y_2 y_3 y_4 y_5 y_6
  have KA : SBox w6 w.heap.size (a) := HA.out.later hb
  have KB : SBox w6 (w.heap.size + 1) (b) := HB.out.later hb
  have KC : SBox w6 (w.heap.size + 1 + 1) (c) := HC.out.later hb
  have KX : SBox w6 w4.heap.size (X) := HX.out.later hb
  have KY : SBox w6 w5.heap.size (Y) := HY.out.later hb
  have G : Hid (Grow w w6) := hide (Grow.trans' G.out hb)
  clear hb HA HB HC HX HY
  have HA := hide KA
  have HB := hide KB
  have HC := hide KC
  have HX := hide KX
  have HY := hide KY
  obtain ⟨a_0, a_1, a_2, a_3, a_4, a_5, a_6⟩ := KA
  obtain ⟨b_0, b_1, b_2, b_3, b_4, b_5, b_6⟩ := KB
  obtain ⟨c_0, c_1, c_2, c_3, c_4, c_5, c_6⟩ := KC
  obtain ⟨x_0, x_1, x_2, x_3, x_4, x_5, x_6⟩ := KX
  obtain ⟨y_0, y_1, y_2, y_3, y_4, y_5, y_6⟩ := KY
  go_wp2_with fail
  refine (sLeC X Y true k1.out _).mono ?_
  rintro e w7 ⟨rfl, hb⟩
  clear a_0 a_1 a_2 a_3 a_4 a_5 a_6 b_0 b_1 b_2 b_3 b_4 b_5 b_6 c_0 c_1 c_2 c_3 c_4 c_5 c_6 x_0 x_1 x_2 x_3 x_4 x_5 x_6 y_0 y_1 y_2 y_3 y_4 y_5 y_6
  have KA : SBox w7 w.heap.size (a) := HA.out.later hb
  have KB : SBox w7 (w.heap.size + 1) (b) := HB.out.later hb
  have KC : SBox w7 (w.heap.size + 1 + 1) (c) := HC.out.later hb
  have KX : SBox w7 w4.heap.size (X) := HX.out.later hb
  have KY : SBox w7 w5.heap.size (Y) := HY.out.later hb
  have G : Hid (Grow w w7) := hide (Grow.trans' G.out hb)
  clear hb HA HB HC HX HY
  clear KA KB KC KX KY
  go_wp2
  go_ret
  exact ⟨rfl, G.out⟩

theorem SummaryTotal_any (a b c : Sm) (w : World) :
    Calls Try.prog 4 #[.agg #[.int .i64 a.f, .int .i64 a.t, .int .i64 a.k, .int .i64 a.ep, .int .i64 a.x, .int .i64 a.y, .int .i64 a.z], .agg #[.int .i64 b.f, .int .i64 b.t, .int .i64 b.k, .int .i64 b.ep, .int .i64 b.x, .int .i64 b.y, .int .i64 b.z], .agg #[.int .i64 c.f, .int .i64 c.t, .int .i64 c.k, .int .i64 c.ep, .int .i64 c.x, .int .i64 c.y, .int .i64 c.z]] w fun e w' => e = .returned (.bool true) ∧ Below w.heap.size w w' := by
  have hz := orderS_zero a b
  have ha := orderS_anti b a
  cases hl : leS a b
  · rcases orderS_cases a b with ⟨h, -⟩ | ⟨h, -⟩ | ⟨h, -⟩
    · refine SummaryTotal_0m a b c w h (by rw [ha, h]; rfl) ?_ hl
      cases hq : eqS a b
      · rfl
      · have := hz.2 hq; omega
    · exact SummaryTotal_0z a b c w h (by rw [ha, h]; rfl) (hz.1 h) hl
    · refine SummaryTotal_0p a b c w h (by rw [ha, h]; rfl) ?_ hl
      cases hq : eqS a b
      · rfl
      · have := hz.2 hq; omega
  · have hle := le_orderS hl
    rcases orderS_cases a b with ⟨h, -⟩ | ⟨h, -⟩ | ⟨h, -⟩
    · have hq : eqS a b = false := by
        cases hq : eqS a b
        · rfl
        · have := hz.2 hq; omega
      by_cases hE : thenE a c = 0
      rotate_left
      · exact SummaryTotal_1m a b c _ _ _ _ w h (by rw [ha, h]; rfl) hq hl rfl rfl rfl rfl hE
      by_cases hF : thenE b c = 0
      rotate_left
      · exact SummaryTotal_2m a b c _ _ 0 _ w h (by rw [ha, h]; rfl) hq hl rfl hE rfl rfl hF
      exact SummaryTotal_3m a b c _ _ 0 0 w h (by rw [ha, h]; rfl) hq hl rfl hE rfl hF (le_then hl hE hF)
    · have hq : eqS a b = true := hz.1 h
      by_cases hE : thenE a c = 0
      rotate_left
      · exact SummaryTotal_1z a b c _ _ _ _ w h (by rw [ha, h]; rfl) hq hl rfl rfl rfl rfl hE
      by_cases hF : thenE b c = 0
      rotate_left
      · exact SummaryTotal_2z a b c _ _ 0 _ w h (by rw [ha, h]; rfl) hq hl rfl hE rfl rfl hF
      exact SummaryTotal_3z a b c _ _ 0 0 w h (by rw [ha, h]; rfl) hq hl rfl hE rfl hF (le_then hl hE hF)
    · omega

end Go.Proofs.Ythidpjjphieedab
