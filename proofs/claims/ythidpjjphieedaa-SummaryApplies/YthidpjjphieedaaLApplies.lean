/-
  What the law SummaryApplies does: for every two summaries and every time it returns true, and what was there stays as it was.
-/
import Derived.Test.YthidpjjphieedaaSShown
import Derived.Test.YthidpjjphieedaaSRAp
import Derived.Test.YthidpjjphieedaaSRTh
namespace Go.Proofs.Ythidpjjphieedaa
open Go.RowKit Go.Sort
attribute [local go_sem ↓] eqSm eqTm
set_option linter.unusedVariables false

theorem eqS_self (s : Sm) : eqS s s = true := by simp [eqS]
theorem eqB_self (s : Tm) : eqB s s = true := by simp [eqB]
set_option maxHeartbeats 2000000 in
theorem SummaryApplies_any (s r : Sm) (t : Tm) (w : World) :
    Calls Try.prog 4 #[.agg #[.int .i64 s.f, .int .i64 s.t, .int .i64 s.k, .int .i64 s.ep, .int .i64 s.x, .int .i64 s.y, .int .i64 s.z], .agg #[.int .i64 r.f, .int .i64 r.t, .int .i64 r.k, .int .i64 r.ep, .int .i64 r.x, .int .i64 r.y, .int .i64 r.z], .agg #[.int .i64 t.e, .int .i64 t.d, .int .i64 t.x, .int .i64 t.y, .int .i64 t.z]] w fun e w' => e = .returned (.bool true) ∧ Below w.heap.size w w' := by
  have e1 := eqS_self
  have e2 := eqB_self
  go_enter Try.func4, Try.ntmps4
  have KS : SBox (((w.alloc (.cells #[.int .i64 s.f, .int .i64 s.t, .int .i64 s.k, .int .i64 s.ep, .int .i64 s.x, .int .i64 s.y, .int .i64 s.z] 24)).alloc (.cells #[.int .i64 r.f, .int .i64 r.t, .int .i64 r.k, .int .i64 r.ep, .int .i64 r.x, .int .i64 r.y, .int .i64 r.z] 24)).alloc (.cells #[.int .i64 t.e, .int .i64 t.d, .int .i64 t.x, .int .i64 t.y, .int .i64 t.z] 30)) (w.heap.size) s := by simp [SBox, go_sem]
  have KR : SBox (((w.alloc (.cells #[.int .i64 s.f, .int .i64 s.t, .int .i64 s.k, .int .i64 s.ep, .int .i64 s.x, .int .i64 s.y, .int .i64 s.z] 24)).alloc (.cells #[.int .i64 r.f, .int .i64 r.t, .int .i64 r.k, .int .i64 r.ep, .int .i64 r.x, .int .i64 r.y, .int .i64 r.z] 24)).alloc (.cells #[.int .i64 t.e, .int .i64 t.d, .int .i64 t.x, .int .i64 t.y, .int .i64 t.z] 30)) (w.heap.size + 1) r := by simp [SBox, go_sem]
  have KT : Box (((w.alloc (.cells #[.int .i64 s.f, .int .i64 s.t, .int .i64 s.k, .int .i64 s.ep, .int .i64 s.x, .int .i64 s.y, .int .i64 s.z] 24)).alloc (.cells #[.int .i64 r.f, .int .i64 r.t, .int .i64 r.k, .int .i64 r.ep, .int .i64 r.x, .int .i64 r.y, .int .i64 r.z] 24)).alloc (.cells #[.int .i64 t.e, .int .i64 t.d, .int .i64 t.x, .int .i64 t.y, .int .i64 t.z] 30)) (w.heap.size + 1 + 1) t := by simp [Box, go_sem]
  have G : Hid (Grow w (((w.alloc (.cells #[.int .i64 s.f, .int .i64 s.t, .int .i64 s.k, .int .i64 s.ep, .int .i64 s.x, .int .i64 s.y, .int .i64 s.z] 24)).alloc (.cells #[.int .i64 r.f, .int .i64 r.t, .int .i64 r.k, .int .i64 r.ep, .int .i64 r.x, .int .i64 r.y, .int .i64 r.z] 24)).alloc (.cells #[.int .i64 t.e, .int .i64 t.d, .int .i64 t.x, .int .i64 t.y, .int .i64 t.z] 30))) := hide (Grow.trans' (Grow.trans' (Grow.alloc' _ _) (Grow.alloc' _ _)) (Grow.alloc' _ _))
  have HS := hide KS
  have HR := hide KR
  have HT := hide KT
  obtain ⟨s_0, s_1, s_2, s_3, s_4, s_5, s_6⟩ := KS
  obtain ⟨r_0, r_1, r_2, r_3, r_4, r_5, r_6⟩ := KR
  obtain ⟨t_0, t_1, t_2, t_3, t_4⟩ := KT
  go_wp2_with fail
  refine (shown_any _).mono ?_
  rintro e w1 ⟨rfl, hb⟩
  clear s_0 s_1 s_2 s_3 s_4 s_5 s_6 r_0 r_1 r_2 r_3 r_4 r_5 r_6 t_0 t_1 t_2 t_3 t_4
  have KS : SBox w1 w.heap.size (s) := HS.out.later hb
  have KR : SBox w1 (w.heap.size + 1) (r) := HR.out.later hb
  have KT : Box w1 (w.heap.size + 1 + 1) (t) := HT.out.later hb
  have G : Hid (Grow w w1) := hide (Grow.trans' G.out hb)
  clear hb HS HR HT
  have HS := hide KS
  have HR := hide KR
  have HT := hide KT
  obtain ⟨s_0, s_1, s_2, s_3, s_4, s_5, s_6⟩ := KS
  obtain ⟨r_0, r_1, r_2, r_3, r_4, r_5, r_6⟩ := KR
  obtain ⟨t_0, t_1, t_2, t_3, t_4⟩ := KT
  go_wp2_with fail
  refine (apply_any s t _).mono ?_
  rintro e w2 ⟨rfl, hb⟩
  clear s_0 s_1 s_2 s_3 s_4 s_5 s_6 r_0 r_1 r_2 r_3 r_4 r_5 r_6 t_0 t_1 t_2 t_3 t_4
  have KS : SBox (w2.alloc (.cells #[.int .i64 (applyT s t).e, .int .i64 (applyT s t).d, .int .i64 (applyT s t).x, .int .i64 (applyT s t).y, .int .i64 (applyT s t).z] 30)) w.heap.size (s) := (HS.out.later hb).later (Grow.alloc' _ _)
  have KR : SBox (w2.alloc (.cells #[.int .i64 (applyT s t).e, .int .i64 (applyT s t).d, .int .i64 (applyT s t).x, .int .i64 (applyT s t).y, .int .i64 (applyT s t).z] 30)) (w.heap.size + 1) (r) := (HR.out.later hb).later (Grow.alloc' _ _)
  have KT : Box (w2.alloc (.cells #[.int .i64 (applyT s t).e, .int .i64 (applyT s t).d, .int .i64 (applyT s t).x, .int .i64 (applyT s t).y, .int .i64 (applyT s t).z] 30)) (w.heap.size + 1 + 1) (t) := (HT.out.later hb).later (Grow.alloc' _ _)
  have KA : Box (w2.alloc (.cells #[.int .i64 (applyT s t).e, .int .i64 (applyT s t).d, .int .i64 (applyT s t).x, .int .i64 (applyT s t).y, .int .i64 (applyT s t).z] 30)) w2.heap.size (applyT s t) := Box.new _ _
  have G : Hid (Grow w (w2.alloc (.cells #[.int .i64 (applyT s t).e, .int .i64 (applyT s t).d, .int .i64 (applyT s t).x, .int .i64 (applyT s t).y, .int .i64 (applyT s t).z] 30))) := hide (Grow.trans' (Grow.trans' G.out hb) (Grow.alloc' _ _))
  clear hb HS HR HT
  have HS := hide KS
  have HR := hide KR
  have HT := hide KT
  have HA := hide KA
  obtain ⟨s_0, s_1, s_2, s_3, s_4, s_5, s_6⟩ := KS
  obtain ⟨r_0, r_1, r_2, r_3, r_4, r_5, r_6⟩ := KR
  obtain ⟨t_0, t_1, t_2, t_3, t_4⟩ := KT
  obtain ⟨a_0, a_1, a_2, a_3, a_4⟩ := KA
  go_wp2_with fail
  refine (refApply_any s t _).mono ?_
  rintro e w3 ⟨rfl, hb⟩
  clear s_0 s_1 s_2 s_3 s_4 s_5 s_6 r_0 r_1 r_2 r_3 r_4 r_5 r_6 t_0 t_1 t_2 t_3 t_4 a_0 a_1 a_2 a_3 a_4
  have KS : SBox (w3.alloc (.cells #[.int .i64 (applyT s t).e, .int .i64 (applyT s t).d, .int .i64 (applyT s t).x, .int .i64 (applyT s t).y, .int .i64 (applyT s t).z] 30)) w.heap.size (s) := (HS.out.later hb).later (Grow.alloc' _ _)
  have KR : SBox (w3.alloc (.cells #[.int .i64 (applyT s t).e, .int .i64 (applyT s t).d, .int .i64 (applyT s t).x, .int .i64 (applyT s t).y, .int .i64 (applyT s t).z] 30)) (w.heap.size + 1) (r) := (HR.out.later hb).later (Grow.alloc' _ _)
  have KT : Box (w3.alloc (.cells #[.int .i64 (applyT s t).e, .int .i64 (applyT s t).d, .int .i64 (applyT s t).x, .int .i64 (applyT s t).y, .int .i64 (applyT s t).z] 30)) (w.heap.size + 1 + 1) (t) := (HT.out.later hb).later (Grow.alloc' _ _)
  have KA : Box (w3.alloc (.cells #[.int .i64 (applyT s t).e, .int .i64 (applyT s t).d, .int .i64 (applyT s t).x, .int .i64 (applyT s t).y, .int .i64 (applyT s t).z] 30)) w2.heap.size (applyT s t) := (HA.out.later hb).later (Grow.alloc' _ _)
  have KB : Box (w3.alloc (.cells #[.int .i64 (applyT s t).e, .int .i64 (applyT s t).d, .int .i64 (applyT s t).x, .int .i64 (applyT s t).y, .int .i64 (applyT s t).z] 30)) w3.heap.size (applyT s t) := Box.new _ _
  have G : Hid (Grow w (w3.alloc (.cells #[.int .i64 (applyT s t).e, .int .i64 (applyT s t).d, .int .i64 (applyT s t).x, .int .i64 (applyT s t).y, .int .i64 (applyT s t).z] 30))) := hide (Grow.trans' (Grow.trans' G.out hb) (Grow.alloc' _ _))
  clear hb HS HR HT HA
  have HS := hide KS
  have HR := hide KR
  have HT := hide KT
  have HA := hide KA
  have HB := hide KB
  obtain ⟨s_0, s_1, s_2, s_3, s_4, s_5, s_6⟩ := KS
  obtain ⟨r_0, r_1, r_2, r_3, r_4, r_5, r_6⟩ := KR
  obtain ⟨t_0, t_1, t_2, t_3, t_4⟩ := KT
  obtain ⟨a_0, a_1, a_2, a_3, a_4⟩ := KA
  obtain ⟨b_0, b_1, b_2, b_3, b_4⟩ := KB
  go_wp2_with fail
  refine (then_any s r _).mono ?_
  rintro e w4 ⟨rfl, hb⟩
  clear s_0 s_1 s_2 s_3 s_4 s_5 s_6 r_0 r_1 r_2 r_3 r_4 r_5 r_6 t_0 t_1 t_2 t_3 t_4 a_0 a_1 a_2 a_3 a_4 b_0 b_1 b_2 b_3 b_4
  have KS : SBox (w4.alloc (.cells #[.int .i64 (thenS s r).f, .int .i64 (thenS s r).t, .int .i64 (thenS s r).k, .int .i64 (thenS s r).ep, .int .i64 (thenS s r).x, .int .i64 (thenS s r).y, .int .i64 (thenS s r).z] 24)) w.heap.size (s) := (HS.out.later hb).later (Grow.alloc' _ _)
  have KR : SBox (w4.alloc (.cells #[.int .i64 (thenS s r).f, .int .i64 (thenS s r).t, .int .i64 (thenS s r).k, .int .i64 (thenS s r).ep, .int .i64 (thenS s r).x, .int .i64 (thenS s r).y, .int .i64 (thenS s r).z] 24)) (w.heap.size + 1) (r) := (HR.out.later hb).later (Grow.alloc' _ _)
  have KT : Box (w4.alloc (.cells #[.int .i64 (thenS s r).f, .int .i64 (thenS s r).t, .int .i64 (thenS s r).k, .int .i64 (thenS s r).ep, .int .i64 (thenS s r).x, .int .i64 (thenS s r).y, .int .i64 (thenS s r).z] 24)) (w.heap.size + 1 + 1) (t) := (HT.out.later hb).later (Grow.alloc' _ _)
  have KA : Box (w4.alloc (.cells #[.int .i64 (thenS s r).f, .int .i64 (thenS s r).t, .int .i64 (thenS s r).k, .int .i64 (thenS s r).ep, .int .i64 (thenS s r).x, .int .i64 (thenS s r).y, .int .i64 (thenS s r).z] 24)) w2.heap.size (applyT s t) := (HA.out.later hb).later (Grow.alloc' _ _)
  have KB : Box (w4.alloc (.cells #[.int .i64 (thenS s r).f, .int .i64 (thenS s r).t, .int .i64 (thenS s r).k, .int .i64 (thenS s r).ep, .int .i64 (thenS s r).x, .int .i64 (thenS s r).y, .int .i64 (thenS s r).z] 24)) w3.heap.size (applyT s t) := (HB.out.later hb).later (Grow.alloc' _ _)
  have KC : SBox (w4.alloc (.cells #[.int .i64 (thenS s r).f, .int .i64 (thenS s r).t, .int .i64 (thenS s r).k, .int .i64 (thenS s r).ep, .int .i64 (thenS s r).x, .int .i64 (thenS s r).y, .int .i64 (thenS s r).z] 24)) w4.heap.size (thenS s r) := SBox.new _ _
  have G : Hid (Grow w (w4.alloc (.cells #[.int .i64 (thenS s r).f, .int .i64 (thenS s r).t, .int .i64 (thenS s r).k, .int .i64 (thenS s r).ep, .int .i64 (thenS s r).x, .int .i64 (thenS s r).y, .int .i64 (thenS s r).z] 24))) := hide (Grow.trans' (Grow.trans' G.out hb) (Grow.alloc' _ _))
  clear hb HS HR HT HA HB
  have HS := hide KS
  have HR := hide KR
  have HT := hide KT
  have HA := hide KA
  have HB := hide KB
  have HC := hide KC
  obtain ⟨s_0, s_1, s_2, s_3, s_4, s_5, s_6⟩ := KS
  obtain ⟨r_0, r_1, r_2, r_3, r_4, r_5, r_6⟩ := KR
  obtain ⟨t_0, t_1, t_2, t_3, t_4⟩ := KT
  obtain ⟨a_0, a_1, a_2, a_3, a_4⟩ := KA
  obtain ⟨b_0, b_1, b_2, b_3, b_4⟩ := KB
  obtain ⟨c_0, c_1, c_2, c_3, c_4, c_5, c_6⟩ := KC
  go_wp2_with fail
  refine (refThen_any s r _).mono ?_
  rintro e w5 ⟨rfl, hb⟩
  clear s_0 s_1 s_2 s_3 s_4 s_5 s_6 r_0 r_1 r_2 r_3 r_4 r_5 r_6 t_0 t_1 t_2 t_3 t_4 a_0 a_1 a_2 a_3 a_4 b_0 b_1 b_2 b_3 b_4 c_0 c_1 c_2 c_3 c_4 c_5 c_6
  have KS : SBox (w5.alloc (.cells #[.int .i64 (thenS s r).f, .int .i64 (thenS s r).t, .int .i64 (thenS s r).k, .int .i64 (thenS s r).ep, .int .i64 (thenS s r).x, .int .i64 (thenS s r).y, .int .i64 (thenS s r).z] 24)) w.heap.size (s) := (HS.out.later hb).later (Grow.alloc' _ _)
  have KR : SBox (w5.alloc (.cells #[.int .i64 (thenS s r).f, .int .i64 (thenS s r).t, .int .i64 (thenS s r).k, .int .i64 (thenS s r).ep, .int .i64 (thenS s r).x, .int .i64 (thenS s r).y, .int .i64 (thenS s r).z] 24)) (w.heap.size + 1) (r) := (HR.out.later hb).later (Grow.alloc' _ _)
  have KT : Box (w5.alloc (.cells #[.int .i64 (thenS s r).f, .int .i64 (thenS s r).t, .int .i64 (thenS s r).k, .int .i64 (thenS s r).ep, .int .i64 (thenS s r).x, .int .i64 (thenS s r).y, .int .i64 (thenS s r).z] 24)) (w.heap.size + 1 + 1) (t) := (HT.out.later hb).later (Grow.alloc' _ _)
  have KA : Box (w5.alloc (.cells #[.int .i64 (thenS s r).f, .int .i64 (thenS s r).t, .int .i64 (thenS s r).k, .int .i64 (thenS s r).ep, .int .i64 (thenS s r).x, .int .i64 (thenS s r).y, .int .i64 (thenS s r).z] 24)) w2.heap.size (applyT s t) := (HA.out.later hb).later (Grow.alloc' _ _)
  have KB : Box (w5.alloc (.cells #[.int .i64 (thenS s r).f, .int .i64 (thenS s r).t, .int .i64 (thenS s r).k, .int .i64 (thenS s r).ep, .int .i64 (thenS s r).x, .int .i64 (thenS s r).y, .int .i64 (thenS s r).z] 24)) w3.heap.size (applyT s t) := (HB.out.later hb).later (Grow.alloc' _ _)
  have KC : SBox (w5.alloc (.cells #[.int .i64 (thenS s r).f, .int .i64 (thenS s r).t, .int .i64 (thenS s r).k, .int .i64 (thenS s r).ep, .int .i64 (thenS s r).x, .int .i64 (thenS s r).y, .int .i64 (thenS s r).z] 24)) w4.heap.size (thenS s r) := (HC.out.later hb).later (Grow.alloc' _ _)
  have KD : SBox (w5.alloc (.cells #[.int .i64 (thenS s r).f, .int .i64 (thenS s r).t, .int .i64 (thenS s r).k, .int .i64 (thenS s r).ep, .int .i64 (thenS s r).x, .int .i64 (thenS s r).y, .int .i64 (thenS s r).z] 24)) w5.heap.size (thenS s r) := SBox.new _ _
  have G : Hid (Grow w (w5.alloc (.cells #[.int .i64 (thenS s r).f, .int .i64 (thenS s r).t, .int .i64 (thenS s r).k, .int .i64 (thenS s r).ep, .int .i64 (thenS s r).x, .int .i64 (thenS s r).y, .int .i64 (thenS s r).z] 24))) := hide (Grow.trans' (Grow.trans' G.out hb) (Grow.alloc' _ _))
  clear hb HS HR HT HA HB HC
  obtain ⟨a0, a1, a2, a3, a4⟩ := KA
  obtain ⟨b0, b1, b2, b3, b4⟩ := KB
  obtain ⟨c0, c1, c2, c3, c4, c5, c6⟩ := KC
  obtain ⟨d0, d1, d2, d3, d4, d5, d6⟩ := KD
  go_wp2
  go_ret
  exact ⟨rfl, G.out⟩

end Go.Proofs.Ythidpjjphieedaa
