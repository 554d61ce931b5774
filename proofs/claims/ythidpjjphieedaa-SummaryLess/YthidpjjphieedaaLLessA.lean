/-
  The law SummaryLess, where one of the summaries may not be, or they lead elsewhere, or the first is less.
-/
import Derived.Test.YthidpjjphieedaaLLessH
namespace Go.Proofs.Ythidpjjphieedaa
open Go.RowKit Go.Sort
set_option linter.unusedVariables false

set_option maxHeartbeats 400000 in
set_option maxRecDepth 100000 in
theorem SummaryLess_a1 (s r : Sm) (x y : Tm) (w : World) (h1 : Hid (mayS s = false)) (hl : Hid (leS s r = false)) :
    Calls Try.prog 7 #[.agg #[.int .i64 (s).f, .int .i64 (s).t, .int .i64 (s).k, .int .i64 (s).ep, .int .i64 (s).x, .int .i64 (s).y, .int .i64 (s).z], .agg #[.int .i64 (r).f, .int .i64 (r).t, .int .i64 (r).k, .int .i64 (r).ep, .int .i64 (r).x, .int .i64 (r).y, .int .i64 (r).z], .agg #[.int .i64 x.e, .int .i64 x.d, .int .i64 x.x, .int .i64 x.y, .int .i64 x.z, .int .i64 y.e, .int .i64 y.d, .int .i64 y.x, .int .i64 y.y, .int .i64 y.z]] w fun e w' => e = .returned (.bool true) ∧ Below w.heap.size w w' := by
  go_enter Try.func7, Try.ntmps7
  have KS : SBox (((w.alloc (.cells #[.int .i64 (s).f, .int .i64 (s).t, .int .i64 (s).k, .int .i64 (s).ep, .int .i64 (s).x, .int .i64 (s).y, .int .i64 (s).z] 24)).alloc (.cells #[.int .i64 (r).f, .int .i64 (r).t, .int .i64 (r).k, .int .i64 (r).ep, .int .i64 (r).x, .int .i64 (r).y, .int .i64 (r).z] 24)).alloc (.cells #[.int .i64 x.e, .int .i64 x.d, .int .i64 x.x, .int .i64 x.y, .int .i64 x.z, .int .i64 y.e, .int .i64 y.d, .int .i64 y.x, .int .i64 y.y, .int .i64 y.z] 39)) w.heap.size (s) := by simp [SBox, go_sem]
  have KR : SBox (((w.alloc (.cells #[.int .i64 (s).f, .int .i64 (s).t, .int .i64 (s).k, .int .i64 (s).ep, .int .i64 (s).x, .int .i64 (s).y, .int .i64 (s).z] 24)).alloc (.cells #[.int .i64 (r).f, .int .i64 (r).t, .int .i64 (r).k, .int .i64 (r).ep, .int .i64 (r).x, .int .i64 (r).y, .int .i64 (r).z] 24)).alloc (.cells #[.int .i64 x.e, .int .i64 x.d, .int .i64 x.x, .int .i64 x.y, .int .i64 x.z, .int .i64 y.e, .int .i64 y.d, .int .i64 y.x, .int .i64 y.y, .int .i64 y.z] 39)) (w.heap.size + 1) (r) := by simp [SBox, go_sem]
  have KX : Box2 (((w.alloc (.cells #[.int .i64 (s).f, .int .i64 (s).t, .int .i64 (s).k, .int .i64 (s).ep, .int .i64 (s).x, .int .i64 (s).y, .int .i64 (s).z] 24)).alloc (.cells #[.int .i64 (r).f, .int .i64 (r).t, .int .i64 (r).k, .int .i64 (r).ep, .int .i64 (r).x, .int .i64 (r).y, .int .i64 (r).z] 24)).alloc (.cells #[.int .i64 x.e, .int .i64 x.d, .int .i64 x.x, .int .i64 x.y, .int .i64 x.z, .int .i64 y.e, .int .i64 y.d, .int .i64 y.x, .int .i64 y.y, .int .i64 y.z] 39)) (w.heap.size + 1 + 1) (x, y) := by simp [Box2, go_sem]
  have G : Hid (Grow w (((w.alloc (.cells #[.int .i64 (s).f, .int .i64 (s).t, .int .i64 (s).k, .int .i64 (s).ep, .int .i64 (s).x, .int .i64 (s).y, .int .i64 (s).z] 24)).alloc (.cells #[.int .i64 (r).f, .int .i64 (r).t, .int .i64 (r).k, .int .i64 (r).ep, .int .i64 (r).x, .int .i64 (r).y, .int .i64 (r).z] 24)).alloc (.cells #[.int .i64 x.e, .int .i64 x.d, .int .i64 x.x, .int .i64 x.y, .int .i64 x.z, .int .i64 y.e, .int .i64 y.d, .int .i64 y.x, .int .i64 y.y, .int .i64 y.z] 39))) := hide (Grow.trans' (Grow.trans' (Grow.alloc' _ _) (Grow.alloc' _ _)) (Grow.alloc' _ _))
  have HS := hide KS
  have HR := hide KR
  have HX := hide KX
  obtain ⟨s_0, s_1, s_2, s_3, s_4, s_5, s_6⟩ := KS
  obtain ⟨r_0, r_1, r_2, r_3, r_4, r_5, r_6⟩ := KR
  obtain ⟨x_0, x_1, x_2, x_3, x_4, x_5, x_6, x_7, x_8, x_9⟩ := KX
  go_wp2_with fail
  refine (shown_any _).mono ?_
  rintro e w1 ⟨rfl, hb⟩
  clear s_0 s_1 s_2 s_3 s_4 s_5 s_6 r_0 r_1 r_2 r_3 r_4 r_5 r_6 x_0 x_1 x_2 x_3 x_4 x_5 x_6 x_7 x_8 x_9
  have KS : SBox w1 w.heap.size (s) := HS.out.later hb
  have KR : SBox w1 (w.heap.size + 1) (r) := HR.out.later hb
  have KX : Box2 w1 (w.heap.size + 1 + 1) ((x, y)) := HX.out.later hb
  have G : Hid (Grow w w1) := hide (Grow.trans' G.out hb)
  clear hb HS HR HX
  have HS := hide KS
  have HR := hide KR
  have HX := hide KX
  obtain ⟨s_0, s_1, s_2, s_3, s_4, s_5, s_6⟩ := KS
  obtain ⟨r_0, r_1, r_2, r_3, r_4, r_5, r_6⟩ := KR
  obtain ⟨x_0, x_1, x_2, x_3, x_4, x_5, x_6, x_7, x_8, x_9⟩ := KX
  go_wp2_with fail
  refine (sMayC s false h1.out _).mono ?_
  rintro e w2 ⟨rfl, hb⟩
  clear s_0 s_1 s_2 s_3 s_4 s_5 s_6 r_0 r_1 r_2 r_3 r_4 r_5 r_6 x_0 x_1 x_2 x_3 x_4 x_5 x_6 x_7 x_8 x_9
  have KS : SBox w2 w.heap.size (s) := HS.out.later hb
  have KR : SBox w2 (w.heap.size + 1) (r) := HR.out.later hb
  have KX : Box2 w2 (w.heap.size + 1 + 1) ((x, y)) := HX.out.later hb
  have G : Hid (Grow w w2) := hide (Grow.trans' G.out hb)
  clear hb HS HR HX
  have HS := hide KS
  have HR := hide KR
  have HX := hide KX
  obtain ⟨s_0, s_1, s_2, s_3, s_4, s_5, s_6⟩ := KS
  obtain ⟨r_0, r_1, r_2, r_3, r_4, r_5, r_6⟩ := KR
  obtain ⟨x_0, x_1, x_2, x_3, x_4, x_5, x_6, x_7, x_8, x_9⟩ := KX
  go_wp2_with fail
  refine (sLeC s r false hl.out _).mono ?_
  rintro e w3 ⟨rfl, hb⟩
  clear s_0 s_1 s_2 s_3 s_4 s_5 s_6 r_0 r_1 r_2 r_3 r_4 r_5 r_6 x_0 x_1 x_2 x_3 x_4 x_5 x_6 x_7 x_8 x_9
  have KS : SBox w3 w.heap.size (s) := HS.out.later hb
  have KR : SBox w3 (w.heap.size + 1) (r) := HR.out.later hb
  have KX : Box2 w3 (w.heap.size + 1 + 1) ((x, y)) := HX.out.later hb
  have G : Hid (Grow w w3) := hide (Grow.trans' G.out hb)
  clear hb HS HR HX
  go_wp2
  go_ret
  exact ⟨rfl, G.out⟩
set_option maxHeartbeats 400000 in
set_option maxRecDepth 100000 in
theorem SummaryLess_a2 (s r : Sm) (x y : Tm) (w : World) (h1 : Hid (mayS s = true)) (h2 : Hid (mayS r = false)) (hl : Hid (leS s r = false)) :
    Calls Try.prog 7 #[.agg #[.int .i64 (s).f, .int .i64 (s).t, .int .i64 (s).k, .int .i64 (s).ep, .int .i64 (s).x, .int .i64 (s).y, .int .i64 (s).z], .agg #[.int .i64 (r).f, .int .i64 (r).t, .int .i64 (r).k, .int .i64 (r).ep, .int .i64 (r).x, .int .i64 (r).y, .int .i64 (r).z], .agg #[.int .i64 x.e, .int .i64 x.d, .int .i64 x.x, .int .i64 x.y, .int .i64 x.z, .int .i64 y.e, .int .i64 y.d, .int .i64 y.x, .int .i64 y.y, .int .i64 y.z]] w fun e w' => e = .returned (.bool true) ∧ Below w.heap.size w w' := by
  go_enter Try.func7, Try.ntmps7
  have KS : SBox (((w.alloc (.cells #[.int .i64 (s).f, .int .i64 (s).t, .int .i64 (s).k, .int .i64 (s).ep, .int .i64 (s).x, .int .i64 (s).y, .int .i64 (s).z] 24)).alloc (.cells #[.int .i64 (r).f, .int .i64 (r).t, .int .i64 (r).k, .int .i64 (r).ep, .int .i64 (r).x, .int .i64 (r).y, .int .i64 (r).z] 24)).alloc (.cells #[.int .i64 x.e, .int .i64 x.d, .int .i64 x.x, .int .i64 x.y, .int .i64 x.z, .int .i64 y.e, .int .i64 y.d, .int .i64 y.x, .int .i64 y.y, .int .i64 y.z] 39)) w.heap.size (s) := by simp [SBox, go_sem]
  have KR : SBox (((w.alloc (.cells #[.int .i64 (s).f, .int .i64 (s).t, .int .i64 (s).k, .int .i64 (s).ep, .int .i64 (s).x, .int .i64 (s).y, .int .i64 (s).z] 24)).alloc (.cells #[.int .i64 (r).f, .int .i64 (r).t, .int .i64 (r).k, .int .i64 (r).ep, .int .i64 (r).x, .int .i64 (r).y, .int .i64 (r).z] 24)).alloc (.cells #[.int .i64 x.e, .int .i64 x.d, .int .i64 x.x, .int .i64 x.y, .int .i64 x.z, .int .i64 y.e, .int .i64 y.d, .int .i64 y.x, .int .i64 y.y, .int .i64 y.z] 39)) (w.heap.size + 1) (r) := by simp [SBox, go_sem]
  have KX : Box2 (((w.alloc (.cells #[.int .i64 (s).f, .int .i64 (s).t, .int .i64 (s).k, .int .i64 (s).ep, .int .i64 (s).x, .int .i64 (s).y, .int .i64 (s).z] 24)).alloc (.cells #[.int .i64 (r).f, .int .i64 (r).t, .int .i64 (r).k, .int .i64 (r).ep, .int .i64 (r).x, .int .i64 (r).y, .int .i64 (r).z] 24)).alloc (.cells #[.int .i64 x.e, .int .i64 x.d, .int .i64 x.x, .int .i64 x.y, .int .i64 x.z, .int .i64 y.e, .int .i64 y.d, .int .i64 y.x, .int .i64 y.y, .int .i64 y.z] 39)) (w.heap.size + 1 + 1) (x, y) := by simp [Box2, go_sem]
  have G : Hid (Grow w (((w.alloc (.cells #[.int .i64 (s).f, .int .i64 (s).t, .int .i64 (s).k, .int .i64 (s).ep, .int .i64 (s).x, .int .i64 (s).y, .int .i64 (s).z] 24)).alloc (.cells #[.int .i64 (r).f, .int .i64 (r).t, .int .i64 (r).k, .int .i64 (r).ep, .int .i64 (r).x, .int .i64 (r).y, .int .i64 (r).z] 24)).alloc (.cells #[.int .i64 x.e, .int .i64 x.d, .int .i64 x.x, .int .i64 x.y, .int .i64 x.z, .int .i64 y.e, .int .i64 y.d, .int .i64 y.x, .int .i64 y.y, .int .i64 y.z] 39))) := hide (Grow.trans' (Grow.trans' (Grow.alloc' _ _) (Grow.alloc' _ _)) (Grow.alloc' _ _))
  have HS := hide KS
  have HR := hide KR
  have HX := hide KX
  obtain ⟨s_0, s_1, s_2, s_3, s_4, s_5, s_6⟩ := KS
  obtain ⟨r_0, r_1, r_2, r_3, r_4, r_5, r_6⟩ := KR
  obtain ⟨x_0, x_1, x_2, x_3, x_4, x_5, x_6, x_7, x_8, x_9⟩ := KX
  go_wp2_with fail
  refine (shown_any _).mono ?_
  rintro e w1 ⟨rfl, hb⟩
  clear s_0 s_1 s_2 s_3 s_4 s_5 s_6 r_0 r_1 r_2 r_3 r_4 r_5 r_6 x_0 x_1 x_2 x_3 x_4 x_5 x_6 x_7 x_8 x_9
  have KS : SBox w1 w.heap.size (s) := HS.out.later hb
  have KR : SBox w1 (w.heap.size + 1) (r) := HR.out.later hb
  have KX : Box2 w1 (w.heap.size + 1 + 1) ((x, y)) := HX.out.later hb
  have G : Hid (Grow w w1) := hide (Grow.trans' G.out hb)
  clear hb HS HR HX
  have HS := hide KS
  have HR := hide KR
  have HX := hide KX
  obtain ⟨s_0, s_1, s_2, s_3, s_4, s_5, s_6⟩ := KS
  obtain ⟨r_0, r_1, r_2, r_3, r_4, r_5, r_6⟩ := KR
  obtain ⟨x_0, x_1, x_2, x_3, x_4, x_5, x_6, x_7, x_8, x_9⟩ := KX
  go_wp2_with fail
  refine (sMayC s true h1.out _).mono ?_
  rintro e w2 ⟨rfl, hb⟩
  clear s_0 s_1 s_2 s_3 s_4 s_5 s_6 r_0 r_1 r_2 r_3 r_4 r_5 r_6 x_0 x_1 x_2 x_3 x_4 x_5 x_6 x_7 x_8 x_9
  have KS : SBox w2 w.heap.size (s) := HS.out.later hb
  have KR : SBox w2 (w.heap.size + 1) (r) := HR.out.later hb
  have KX : Box2 w2 (w.heap.size + 1 + 1) ((x, y)) := HX.out.later hb
  have G : Hid (Grow w w2) := hide (Grow.trans' G.out hb)
  clear hb HS HR HX
  have HS := hide KS
  have HR := hide KR
  have HX := hide KX
  obtain ⟨s_0, s_1, s_2, s_3, s_4, s_5, s_6⟩ := KS
  obtain ⟨r_0, r_1, r_2, r_3, r_4, r_5, r_6⟩ := KR
  obtain ⟨x_0, x_1, x_2, x_3, x_4, x_5, x_6, x_7, x_8, x_9⟩ := KX
  go_wp2_with fail
  refine (sMayC r false h2.out _).mono ?_
  rintro e w3 ⟨rfl, hb⟩
  clear s_0 s_1 s_2 s_3 s_4 s_5 s_6 r_0 r_1 r_2 r_3 r_4 r_5 r_6 x_0 x_1 x_2 x_3 x_4 x_5 x_6 x_7 x_8 x_9
  have KS : SBox w3 w.heap.size (s) := HS.out.later hb
  have KR : SBox w3 (w.heap.size + 1) (r) := HR.out.later hb
  have KX : Box2 w3 (w.heap.size + 1 + 1) ((x, y)) := HX.out.later hb
  have G : Hid (Grow w w3) := hide (Grow.trans' G.out hb)
  clear hb HS HR HX
  have HS := hide KS
  have HR := hide KR
  have HX := hide KX
  obtain ⟨s_0, s_1, s_2, s_3, s_4, s_5, s_6⟩ := KS
  obtain ⟨r_0, r_1, r_2, r_3, r_4, r_5, r_6⟩ := KR
  obtain ⟨x_0, x_1, x_2, x_3, x_4, x_5, x_6, x_7, x_8, x_9⟩ := KX
  go_wp2_with fail
  refine (sLeC s r false hl.out _).mono ?_
  rintro e w4 ⟨rfl, hb⟩
  clear s_0 s_1 s_2 s_3 s_4 s_5 s_6 r_0 r_1 r_2 r_3 r_4 r_5 r_6 x_0 x_1 x_2 x_3 x_4 x_5 x_6 x_7 x_8 x_9
  have KS : SBox w4 w.heap.size (s) := HS.out.later hb
  have KR : SBox w4 (w.heap.size + 1) (r) := HR.out.later hb
  have KX : Box2 w4 (w.heap.size + 1 + 1) ((x, y)) := HX.out.later hb
  have G : Hid (Grow w w4) := hide (Grow.trans' G.out hb)
  clear hb HS HR HX
  go_wp2
  go_ret
  exact ⟨rfl, G.out⟩
set_option maxHeartbeats 1000000 in
set_option maxRecDepth 100000 in
theorem SummaryLess_cf1 (s r : Sm) (x y : Tm) (A B C : Tm) (E F L : Int) (p m : Bool) (w : World) (h1 : Hid (mayS (s) = true)) (h2 : Hid (mayS (r) = true)) (hA : Hid (applyT (s) x = A)) (hE : Hid (applyE (s) x = E)) (hB : Hid (applyT (r) x = B)) (hF : Hid (applyE (r) x = F)) (hC : Hid (applyT (s) y = C)) (hL : Hid (applyE (s) y = L)) (hp : Hid (leB A B = p)) (hu : Hid (leB x y = false)) (hm : Hid (leB A C = m)) (hl : Hid (leS (s) (r) = false)) (k2 : ¬ s.f = r.f) (hss : Hid (leS s s = true)) :
    Calls Try.prog 7 #[.agg #[.int .i64 (s).f, .int .i64 (s).t, .int .i64 (s).k, .int .i64 (s).ep, .int .i64 (s).x, .int .i64 (s).y, .int .i64 (s).z], .agg #[.int .i64 (r).f, .int .i64 (r).t, .int .i64 (r).k, .int .i64 (r).ep, .int .i64 (r).x, .int .i64 (r).y, .int .i64 (r).z], .agg #[.int .i64 x.e, .int .i64 x.d, .int .i64 x.x, .int .i64 x.y, .int .i64 x.z, .int .i64 y.e, .int .i64 y.d, .int .i64 y.x, .int .i64 y.y, .int .i64 y.z]] w fun e w' => e = .returned (.bool true) ∧ Below w.heap.size w w' := by
  
  
  go_enter Try.func7, Try.ntmps7
  have KS : SBox (((w.alloc (.cells #[.int .i64 (s).f, .int .i64 (s).t, .int .i64 (s).k, .int .i64 (s).ep, .int .i64 (s).x, .int .i64 (s).y, .int .i64 (s).z] 24)).alloc (.cells #[.int .i64 (r).f, .int .i64 (r).t, .int .i64 (r).k, .int .i64 (r).ep, .int .i64 (r).x, .int .i64 (r).y, .int .i64 (r).z] 24)).alloc (.cells #[.int .i64 x.e, .int .i64 x.d, .int .i64 x.x, .int .i64 x.y, .int .i64 x.z, .int .i64 y.e, .int .i64 y.d, .int .i64 y.x, .int .i64 y.y, .int .i64 y.z] 39)) w.heap.size (s) := by simp [SBox, go_sem]
  have KR : SBox (((w.alloc (.cells #[.int .i64 (s).f, .int .i64 (s).t, .int .i64 (s).k, .int .i64 (s).ep, .int .i64 (s).x, .int .i64 (s).y, .int .i64 (s).z] 24)).alloc (.cells #[.int .i64 (r).f, .int .i64 (r).t, .int .i64 (r).k, .int .i64 (r).ep, .int .i64 (r).x, .int .i64 (r).y, .int .i64 (r).z] 24)).alloc (.cells #[.int .i64 x.e, .int .i64 x.d, .int .i64 x.x, .int .i64 x.y, .int .i64 x.z, .int .i64 y.e, .int .i64 y.d, .int .i64 y.x, .int .i64 y.y, .int .i64 y.z] 39)) (w.heap.size + 1) (r) := by simp [SBox, go_sem]
  have KX : Box2 (((w.alloc (.cells #[.int .i64 (s).f, .int .i64 (s).t, .int .i64 (s).k, .int .i64 (s).ep, .int .i64 (s).x, .int .i64 (s).y, .int .i64 (s).z] 24)).alloc (.cells #[.int .i64 (r).f, .int .i64 (r).t, .int .i64 (r).k, .int .i64 (r).ep, .int .i64 (r).x, .int .i64 (r).y, .int .i64 (r).z] 24)).alloc (.cells #[.int .i64 x.e, .int .i64 x.d, .int .i64 x.x, .int .i64 x.y, .int .i64 x.z, .int .i64 y.e, .int .i64 y.d, .int .i64 y.x, .int .i64 y.y, .int .i64 y.z] 39)) (w.heap.size + 1 + 1) (x, y) := by simp [Box2, go_sem]
  have G : Hid (Grow w (((w.alloc (.cells #[.int .i64 (s).f, .int .i64 (s).t, .int .i64 (s).k, .int .i64 (s).ep, .int .i64 (s).x, .int .i64 (s).y, .int .i64 (s).z] 24)).alloc (.cells #[.int .i64 (r).f, .int .i64 (r).t, .int .i64 (r).k, .int .i64 (r).ep, .int .i64 (r).x, .int .i64 (r).y, .int .i64 (r).z] 24)).alloc (.cells #[.int .i64 x.e, .int .i64 x.d, .int .i64 x.x, .int .i64 x.y, .int .i64 x.z, .int .i64 y.e, .int .i64 y.d, .int .i64 y.x, .int .i64 y.y, .int .i64 y.z] 39))) := hide (Grow.trans' (Grow.trans' (Grow.alloc' _ _) (Grow.alloc' _ _)) (Grow.alloc' _ _))
  have HS := hide KS
  have HR := hide KR
  have HX := hide KX
  obtain ⟨s_0, s_1, s_2, s_3, s_4, s_5, s_6⟩ := KS
  obtain ⟨r_0, r_1, r_2, r_3, r_4, r_5, r_6⟩ := KR
  obtain ⟨x_0, x_1, x_2, x_3, x_4, x_5, x_6, x_7, x_8, x_9⟩ := KX
  go_wp2_with fail
  refine (shown_any _).mono ?_
  rintro e w1 ⟨rfl, hb⟩
  clear s_0 s_1 s_2 s_3 s_4 s_5 s_6 r_0 r_1 r_2 r_3 r_4 r_5 r_6 x_0 x_1 x_2 x_3 x_4 x_5 x_6 x_7 x_8 x_9
  have KS : SBox w1 w.heap.size (s) := HS.out.later hb
  have KR : SBox w1 (w.heap.size + 1) (r) := HR.out.later hb
  have KX : Box2 w1 (w.heap.size + 1 + 1) ((x, y)) := HX.out.later hb
  have G : Hid (Grow w w1) := hide (Grow.trans' G.out hb)
  clear hb HS HR HX
  have HS := hide KS
  have HR := hide KR
  have HX := hide KX
  obtain ⟨s_0, s_1, s_2, s_3, s_4, s_5, s_6⟩ := KS
  obtain ⟨r_0, r_1, r_2, r_3, r_4, r_5, r_6⟩ := KR
  obtain ⟨x_0, x_1, x_2, x_3, x_4, x_5, x_6, x_7, x_8, x_9⟩ := KX
  go_wp2_with fail
  refine (sMayC (s) true h1.out _).mono ?_
  rintro e w2 ⟨rfl, hb⟩
  clear s_0 s_1 s_2 s_3 s_4 s_5 s_6 r_0 r_1 r_2 r_3 r_4 r_5 r_6 x_0 x_1 x_2 x_3 x_4 x_5 x_6 x_7 x_8 x_9
  have KS : SBox w2 w.heap.size (s) := HS.out.later hb
  have KR : SBox w2 (w.heap.size + 1) (r) := HR.out.later hb
  have KX : Box2 w2 (w.heap.size + 1 + 1) ((x, y)) := HX.out.later hb
  have G : Hid (Grow w w2) := hide (Grow.trans' G.out hb)
  clear hb HS HR HX
  have HS := hide KS
  have HR := hide KR
  have HX := hide KX
  obtain ⟨s_0, s_1, s_2, s_3, s_4, s_5, s_6⟩ := KS
  obtain ⟨r_0, r_1, r_2, r_3, r_4, r_5, r_6⟩ := KR
  obtain ⟨x_0, x_1, x_2, x_3, x_4, x_5, x_6, x_7, x_8, x_9⟩ := KX
  go_wp2_with fail
  refine (sMayC (r) true h2.out _).mono ?_
  rintro e w3 ⟨rfl, hb⟩
  clear s_0 s_1 s_2 s_3 s_4 s_5 s_6 r_0 r_1 r_2 r_3 r_4 r_5 r_6 x_0 x_1 x_2 x_3 x_4 x_5 x_6 x_7 x_8 x_9
  have KS : SBox w3 w.heap.size (s) := HS.out.later hb
  have KR : SBox w3 (w.heap.size + 1) (r) := HR.out.later hb
  have KX : Box2 w3 (w.heap.size + 1 + 1) ((x, y)) := HX.out.later hb
  have G : Hid (Grow w w3) := hide (Grow.trans' G.out hb)
  clear hb HS HR HX
  have HS := hide KS
  have HR := hide KR
  have HX := hide KX
  obtain ⟨s_0, s_1, s_2, s_3, s_4, s_5, s_6⟩ := KS
  obtain ⟨r_0, r_1, r_2, r_3, r_4, r_5, r_6⟩ := KR
  obtain ⟨x_0, x_1, x_2, x_3, x_4, x_5, x_6, x_7, x_8, x_9⟩ := KX
  go_wp2_with fail
  refine (apply_at (s) x A E hA.out hE.out _).mono ?_
  rintro e w4 ⟨rfl, hb⟩
  clear s_0 s_1 s_2 s_3 s_4 s_5 s_6 r_0 r_1 r_2 r_3 r_4 r_5 r_6 x_0 x_1 x_2 x_3 x_4 x_5 x_6 x_7 x_8 x_9
  have KS : SBox (w4.alloc (.cells #[.int .i64 (A).e, .int .i64 (A).d, .int .i64 (A).x, .int .i64 (A).y, .int .i64 (A).z] 30)) w.heap.size (s) := (HS.out.later hb).later (Grow.alloc' _ _)
  have KR : SBox (w4.alloc (.cells #[.int .i64 (A).e, .int .i64 (A).d, .int .i64 (A).x, .int .i64 (A).y, .int .i64 (A).z] 30)) (w.heap.size + 1) (r) := (HR.out.later hb).later (Grow.alloc' _ _)
  have KX : Box2 (w4.alloc (.cells #[.int .i64 (A).e, .int .i64 (A).d, .int .i64 (A).x, .int .i64 (A).y, .int .i64 (A).z] 30)) (w.heap.size + 1 + 1) ((x, y)) := (HX.out.later hb).later (Grow.alloc' _ _)
  have KA : Box (w4.alloc (.cells #[.int .i64 (A).e, .int .i64 (A).d, .int .i64 (A).x, .int .i64 (A).y, .int .i64 (A).z] 30)) w4.heap.size (A) := Box.new _ _
  have G : Hid (Grow w (w4.alloc (.cells #[.int .i64 (A).e, .int .i64 (A).d, .int .i64 (A).x, .int .i64 (A).y, .int .i64 (A).z] 30))) := hide (Grow.trans' (Grow.trans' G.out hb) (Grow.alloc' _ _))
  clear hb HS HR HX
  have HS := hide KS
  have HR := hide KR
  have HX := hide KX
  have HA := hide KA
  obtain ⟨s_0, s_1, s_2, s_3, s_4, s_5, s_6⟩ := KS
  obtain ⟨r_0, r_1, r_2, r_3, r_4, r_5, r_6⟩ := KR
  obtain ⟨x_0, x_1, x_2, x_3, x_4, x_5, x_6, x_7, x_8, x_9⟩ := KX
  obtain ⟨a_0, a_1, a_2, a_3, a_4⟩ := KA
  go_wp2_with fail
  refine (apply_at (r) x B F hB.out hF.out _).mono ?_
  rintro e w5 ⟨rfl, hb⟩
  clear s_0 s_1 s_2 s_3 s_4 s_5 s_6 r_0 r_1 r_2 r_3 r_4 r_5 r_6 x_0 x_1 x_2 x_3 x_4 x_5 x_6 x_7 x_8 x_9 a_0 a_1 a_2 a_3 a_4
  have KS : SBox (w5.alloc (.cells #[.int .i64 (B).e, .int .i64 (B).d, .int .i64 (B).x, .int .i64 (B).y, .int .i64 (B).z] 30)) w.heap.size (s) := (HS.out.later hb).later (Grow.alloc' _ _)
  have KR : SBox (w5.alloc (.cells #[.int .i64 (B).e, .int .i64 (B).d, .int .i64 (B).x, .int .i64 (B).y, .int .i64 (B).z] 30)) (w.heap.size + 1) (r) := (HR.out.later hb).later (Grow.alloc' _ _)
  have KX : Box2 (w5.alloc (.cells #[.int .i64 (B).e, .int .i64 (B).d, .int .i64 (B).x, .int .i64 (B).y, .int .i64 (B).z] 30)) (w.heap.size + 1 + 1) ((x, y)) := (HX.out.later hb).later (Grow.alloc' _ _)
  have KA : Box (w5.alloc (.cells #[.int .i64 (B).e, .int .i64 (B).d, .int .i64 (B).x, .int .i64 (B).y, .int .i64 (B).z] 30)) w4.heap.size (A) := (HA.out.later hb).later (Grow.alloc' _ _)
  have KB : Box (w5.alloc (.cells #[.int .i64 (B).e, .int .i64 (B).d, .int .i64 (B).x, .int .i64 (B).y, .int .i64 (B).z] 30)) w5.heap.size (B) := Box.new _ _
  have G : Hid (Grow w (w5.alloc (.cells #[.int .i64 (B).e, .int .i64 (B).d, .int .i64 (B).x, .int .i64 (B).y, .int .i64 (B).z] 30))) := hide (Grow.trans' (Grow.trans' G.out hb) (Grow.alloc' _ _))
  clear hb HS HR HX HA
  have HS := hide KS
  have HR := hide KR
  have HX := hide KX
  have HA := hide KA
  have HB := hide KB
  obtain ⟨s_0, s_1, s_2, s_3, s_4, s_5, s_6⟩ := KS
  obtain ⟨r_0, r_1, r_2, r_3, r_4, r_5, r_6⟩ := KR
  obtain ⟨x_0, x_1, x_2, x_3, x_4, x_5, x_6, x_7, x_8, x_9⟩ := KX
  obtain ⟨a_0, a_1, a_2, a_3, a_4⟩ := KA
  obtain ⟨b_0, b_1, b_2, b_3, b_4⟩ := KB
  go_wp2_with fail
  refine (apply_at (s) y C L hC.out hL.out _).mono ?_
  rintro e w6 ⟨rfl, hb⟩
  clear s_0 s_1 s_2 s_3 s_4 s_5 s_6 r_0 r_1 r_2 r_3 r_4 r_5 r_6 x_0 x_1 x_2 x_3 x_4 x_5 x_6 x_7 x_8 x_9 a_0 a_1 a_2 a_3 a_4 b_0 b_1 b_2 b_3 b_4
  have KS : SBox (w6.alloc (.cells #[.int .i64 (C).e, .int .i64 (C).d, .int .i64 (C).x, .int .i64 (C).y, .int .i64 (C).z] 30)) w.heap.size (s) := (HS.out.later hb).later (Grow.alloc' _ _)
  have KR : SBox (w6.alloc (.cells #[.int .i64 (C).e, .int .i64 (C).d, .int .i64 (C).x, .int .i64 (C).y, .int .i64 (C).z] 30)) (w.heap.size + 1) (r) := (HR.out.later hb).later (Grow.alloc' _ _)
  have KX : Box2 (w6.alloc (.cells #[.int .i64 (C).e, .int .i64 (C).d, .int .i64 (C).x, .int .i64 (C).y, .int .i64 (C).z] 30)) (w.heap.size + 1 + 1) ((x, y)) := (HX.out.later hb).later (Grow.alloc' _ _)
  have KA : Box (w6.alloc (.cells #[.int .i64 (C).e, .int .i64 (C).d, .int .i64 (C).x, .int .i64 (C).y, .int .i64 (C).z] 30)) w4.heap.size (A) := (HA.out.later hb).later (Grow.alloc' _ _)
  have KB : Box (w6.alloc (.cells #[.int .i64 (C).e, .int .i64 (C).d, .int .i64 (C).x, .int .i64 (C).y, .int .i64 (C).z] 30)) w5.heap.size (B) := (HB.out.later hb).later (Grow.alloc' _ _)
  have KC : Box (w6.alloc (.cells #[.int .i64 (C).e, .int .i64 (C).d, .int .i64 (C).x, .int .i64 (C).y, .int .i64 (C).z] 30)) w6.heap.size (C) := Box.new _ _
  have G : Hid (Grow w (w6.alloc (.cells #[.int .i64 (C).e, .int .i64 (C).d, .int .i64 (C).x, .int .i64 (C).y, .int .i64 (C).z] 30))) := hide (Grow.trans' (Grow.trans' G.out hb) (Grow.alloc' _ _))
  clear hb HS HR HX HA HB
  have HS := hide KS
  have HR := hide KR
  have HX := hide KX
  have HA := hide KA
  have HB := hide KB
  have HC := hide KC
  obtain ⟨s_0, s_1, s_2, s_3, s_4, s_5, s_6⟩ := KS
  obtain ⟨r_0, r_1, r_2, r_3, r_4, r_5, r_6⟩ := KR
  obtain ⟨x_0, x_1, x_2, x_3, x_4, x_5, x_6, x_7, x_8, x_9⟩ := KX
  obtain ⟨a_0, a_1, a_2, a_3, a_4⟩ := KA
  obtain ⟨b_0, b_1, b_2, b_3, b_4⟩ := KB
  obtain ⟨c_0, c_1, c_2, c_3, c_4⟩ := KC
  go_wp2_with fail
  refine (refLeC A B p hp.out _).mono ?_
  rintro e w7 ⟨rfl, hb⟩
  clear s_0 s_1 s_2 s_3 s_4 s_5 s_6 r_0 r_1 r_2 r_3 r_4 r_5 r_6 x_0 x_1 x_2 x_3 x_4 x_5 x_6 x_7 x_8 x_9 a_0 a_1 a_2 a_3 a_4 b_0 b_1 b_2 b_3 b_4 c_0 c_1 c_2 c_3 c_4
  have KS : SBox w7 w.heap.size (s) := HS.out.later hb
  have KR : SBox w7 (w.heap.size + 1) (r) := HR.out.later hb
  have KX : Box2 w7 (w.heap.size + 1 + 1) ((x, y)) := HX.out.later hb
  have KA : Box w7 w4.heap.size (A) := HA.out.later hb
  have KB : Box w7 w5.heap.size (B) := HB.out.later hb
  have KC : Box w7 w6.heap.size (C) := HC.out.later hb
  have G : Hid (Grow w w7) := hide (Grow.trans' G.out hb)
  clear hb HS HR HX HA HB HC
  have HS := hide KS
  have HR := hide KR
  have HX := hide KX
  have HA := hide KA
  have HB := hide KB
  have HC := hide KC
  obtain ⟨s_0, s_1, s_2, s_3, s_4, s_5, s_6⟩ := KS
  obtain ⟨r_0, r_1, r_2, r_3, r_4, r_5, r_6⟩ := KR
  obtain ⟨x_0, x_1, x_2, x_3, x_4, x_5, x_6, x_7, x_8, x_9⟩ := KX
  obtain ⟨a_0, a_1, a_2, a_3, a_4⟩ := KA
  obtain ⟨b_0, b_1, b_2, b_3, b_4⟩ := KB
  obtain ⟨c_0, c_1, c_2, c_3, c_4⟩ := KC
  go_wp2_with fail
  refine (refLeC x y false hu.out _).mono ?_
  rintro e w8 ⟨rfl, hb⟩
  clear s_0 s_1 s_2 s_3 s_4 s_5 s_6 r_0 r_1 r_2 r_3 r_4 r_5 r_6 x_0 x_1 x_2 x_3 x_4 x_5 x_6 x_7 x_8 x_9 a_0 a_1 a_2 a_3 a_4 b_0 b_1 b_2 b_3 b_4 c_0 c_1 c_2 c_3 c_4
  have KS : SBox w8 w.heap.size (s) := HS.out.later hb
  have KR : SBox w8 (w.heap.size + 1) (r) := HR.out.later hb
  have KX : Box2 w8 (w.heap.size + 1 + 1) ((x, y)) := HX.out.later hb
  have KA : Box w8 w4.heap.size (A) := HA.out.later hb
  have KB : Box w8 w5.heap.size (B) := HB.out.later hb
  have KC : Box w8 w6.heap.size (C) := HC.out.later hb
  have G : Hid (Grow w w8) := hide (Grow.trans' G.out hb)
  clear hb HS HR HX HA HB HC
  have HS := hide KS
  have HR := hide KR
  have HX := hide KX
  have HA := hide KA
  have HB := hide KB
  have HC := hide KC
  obtain ⟨s_0, s_1, s_2, s_3, s_4, s_5, s_6⟩ := KS
  obtain ⟨r_0, r_1, r_2, r_3, r_4, r_5, r_6⟩ := KR
  obtain ⟨x_0, x_1, x_2, x_3, x_4, x_5, x_6, x_7, x_8, x_9⟩ := KX
  obtain ⟨a_0, a_1, a_2, a_3, a_4⟩ := KA
  obtain ⟨b_0, b_1, b_2, b_3, b_4⟩ := KB
  obtain ⟨c_0, c_1, c_2, c_3, c_4⟩ := KC
  go_wp2_with fail
  refine (refLeC A C m hm.out _).mono ?_
  rintro e w9 ⟨rfl, hb⟩
  clear s_0 s_1 s_2 s_3 s_4 s_5 s_6 r_0 r_1 r_2 r_3 r_4 r_5 r_6 x_0 x_1 x_2 x_3 x_4 x_5 x_6 x_7 x_8 x_9 a_0 a_1 a_2 a_3 a_4 b_0 b_1 b_2 b_3 b_4 c_0 c_1 c_2 c_3 c_4
  have KS : SBox w9 w.heap.size (s) := HS.out.later hb
  have KR : SBox w9 (w.heap.size + 1) (r) := HR.out.later hb
  have KX : Box2 w9 (w.heap.size + 1 + 1) ((x, y)) := HX.out.later hb
  have KA : Box w9 w4.heap.size (A) := HA.out.later hb
  have KB : Box w9 w5.heap.size (B) := HB.out.later hb
  have KC : Box w9 w6.heap.size (C) := HC.out.later hb
  have G : Hid (Grow w w9) := hide (Grow.trans' G.out hb)
  clear hb HS HR HX HA HB HC
  have HS := hide KS
  have HR := hide KR
  have HX := hide KX
  have HA := hide KA
  have HB := hide KB
  have HC := hide KC
  obtain ⟨s_0, s_1, s_2, s_3, s_4, s_5, s_6⟩ := KS
  obtain ⟨r_0, r_1, r_2, r_3, r_4, r_5, r_6⟩ := KR
  obtain ⟨x_0, x_1, x_2, x_3, x_4, x_5, x_6, x_7, x_8, x_9⟩ := KX
  obtain ⟨a_0, a_1, a_2, a_3, a_4⟩ := KA
  obtain ⟨b_0, b_1, b_2, b_3, b_4⟩ := KB
  obtain ⟨c_0, c_1, c_2, c_3, c_4⟩ := KC
  go_wp2_with fail
  refine (sLeC (s) (r) false hl.out _).mono ?_
  rintro e w10 ⟨rfl, hb⟩
  clear s_0 s_1 s_2 s_3 s_4 s_5 s_6 r_0 r_1 r_2 r_3 r_4 r_5 r_6 x_0 x_1 x_2 x_3 x_4 x_5 x_6 x_7 x_8 x_9 a_0 a_1 a_2 a_3 a_4 b_0 b_1 b_2 b_3 b_4 c_0 c_1 c_2 c_3 c_4
  have KS : SBox w10 w.heap.size (s) := HS.out.later hb
  have KR : SBox w10 (w.heap.size + 1) (r) := HR.out.later hb
  have KX : Box2 w10 (w.heap.size + 1 + 1) ((x, y)) := HX.out.later hb
  have KA : Box w10 w4.heap.size (A) := HA.out.later hb
  have KB : Box w10 w5.heap.size (B) := HB.out.later hb
  have KC : Box w10 w6.heap.size (C) := HC.out.later hb
  have G : Hid (Grow w w10) := hide (Grow.trans' G.out hb)
  clear hb HS HR HX HA HB HC
  
  obtain ⟨s0, s1, s2, s3, s4, s5, s6⟩ := KS
  obtain ⟨r0, r1, r2, r3, r4, r5, r6⟩ := KR
  clear KA KB KC KX
  
  go_wp2_with fail
  
  refine (sLeC s s true hss.out _).mono ?_
  rintro e w20 ⟨rfl, hb⟩
  have G := hide (Grow.trans' G.out hb)
  clear s0 s1 s2 s3 s4 s5 s6 r0 r1 r2 r3 r4 r5 r6 hb
  go_wp2
  go_ret
  exact ⟨rfl, G.out⟩
set_option maxHeartbeats 1000000 in
set_option maxRecDepth 100000 in
theorem SummaryLess_cf2 (s r : Sm) (x y : Tm) (A B C : Tm) (E F L : Int) (p m : Bool) (w : World) (h1 : Hid (mayS (s) = true)) (h2 : Hid (mayS (r) = true)) (hA : Hid (applyT (s) x = A)) (hE : Hid (applyE (s) x = E)) (hB : Hid (applyT (r) x = B)) (hF : Hid (applyE (r) x = F)) (hC : Hid (applyT (s) y = C)) (hL : Hid (applyE (s) y = L)) (hp : Hid (leB A B = p)) (hu : Hid (leB x y = true)) (hm : Hid (leB A C = m)) (hl : Hid (leS (s) (r) = false)) (k1 : ¬ E = 0) (k2 : ¬ s.f = r.f) (hss : Hid (leS s s = true)) :
    Calls Try.prog 7 #[.agg #[.int .i64 (s).f, .int .i64 (s).t, .int .i64 (s).k, .int .i64 (s).ep, .int .i64 (s).x, .int .i64 (s).y, .int .i64 (s).z], .agg #[.int .i64 (r).f, .int .i64 (r).t, .int .i64 (r).k, .int .i64 (r).ep, .int .i64 (r).x, .int .i64 (r).y, .int .i64 (r).z], .agg #[.int .i64 x.e, .int .i64 x.d, .int .i64 x.x, .int .i64 x.y, .int .i64 x.z, .int .i64 y.e, .int .i64 y.d, .int .i64 y.x, .int .i64 y.y, .int .i64 y.z]] w fun e w' => e = .returned (.bool true) ∧ Below w.heap.size w w' := by
  
  
  go_enter Try.func7, Try.ntmps7
  have KS : SBox (((w.alloc (.cells #[.int .i64 (s).f, .int .i64 (s).t, .int .i64 (s).k, .int .i64 (s).ep, .int .i64 (s).x, .int .i64 (s).y, .int .i64 (s).z] 24)).alloc (.cells #[.int .i64 (r).f, .int .i64 (r).t, .int .i64 (r).k, .int .i64 (r).ep, .int .i64 (r).x, .int .i64 (r).y, .int .i64 (r).z] 24)).alloc (.cells #[.int .i64 x.e, .int .i64 x.d, .int .i64 x.x, .int .i64 x.y, .int .i64 x.z, .int .i64 y.e, .int .i64 y.d, .int .i64 y.x, .int .i64 y.y, .int .i64 y.z] 39)) w.heap.size (s) := by simp [SBox, go_sem]
  have KR : SBox (((w.alloc (.cells #[.int .i64 (s).f, .int .i64 (s).t, .int .i64 (s).k, .int .i64 (s).ep, .int .i64 (s).x, .int .i64 (s).y, .int .i64 (s).z] 24)).alloc (.cells #[.int .i64 (r).f, .int .i64 (r).t, .int .i64 (r).k, .int .i64 (r).ep, .int .i64 (r).x, .int .i64 (r).y, .int .i64 (r).z] 24)).alloc (.cells #[.int .i64 x.e, .int .i64 x.d, .int .i64 x.x, .int .i64 x.y, .int .i64 x.z, .int .i64 y.e, .int .i64 y.d, .int .i64 y.x, .int .i64 y.y, .int .i64 y.z] 39)) (w.heap.size + 1) (r) := by simp [SBox, go_sem]
  have KX : Box2 (((w.alloc (.cells #[.int .i64 (s).f, .int .i64 (s).t, .int .i64 (s).k, .int .i64 (s).ep, .int .i64 (s).x, .int .i64 (s).y, .int .i64 (s).z] 24)).alloc (.cells #[.int .i64 (r).f, .int .i64 (r).t, .int .i64 (r).k, .int .i64 (r).ep, .int .i64 (r).x, .int .i64 (r).y, .int .i64 (r).z] 24)).alloc (.cells #[.int .i64 x.e, .int .i64 x.d, .int .i64 x.x, .int .i64 x.y, .int .i64 x.z, .int .i64 y.e, .int .i64 y.d, .int .i64 y.x, .int .i64 y.y, .int .i64 y.z] 39)) (w.heap.size + 1 + 1) (x, y) := by simp [Box2, go_sem]
  have G : Hid (Grow w (((w.alloc (.cells #[.int .i64 (s).f, .int .i64 (s).t, .int .i64 (s).k, .int .i64 (s).ep, .int .i64 (s).x, .int .i64 (s).y, .int .i64 (s).z] 24)).alloc (.cells #[.int .i64 (r).f, .int .i64 (r).t, .int .i64 (r).k, .int .i64 (r).ep, .int .i64 (r).x, .int .i64 (r).y, .int .i64 (r).z] 24)).alloc (.cells #[.int .i64 x.e, .int .i64 x.d, .int .i64 x.x, .int .i64 x.y, .int .i64 x.z, .int .i64 y.e, .int .i64 y.d, .int .i64 y.x, .int .i64 y.y, .int .i64 y.z] 39))) := hide (Grow.trans' (Grow.trans' (Grow.alloc' _ _) (Grow.alloc' _ _)) (Grow.alloc' _ _))
  have HS := hide KS
  have HR := hide KR
  have HX := hide KX
  obtain ⟨s_0, s_1, s_2, s_3, s_4, s_5, s_6⟩ := KS
  obtain ⟨r_0, r_1, r_2, r_3, r_4, r_5, r_6⟩ := KR
  obtain ⟨x_0, x_1, x_2, x_3, x_4, x_5, x_6, x_7, x_8, x_9⟩ := KX
  go_wp2_with fail
  refine (shown_any _).mono ?_
  rintro e w1 ⟨rfl, hb⟩
  clear s_0 s_1 s_2 s_3 s_4 s_5 s_6 r_0 r_1 r_2 r_3 r_4 r_5 r_6 x_0 x_1 x_2 x_3 x_4 x_5 x_6 x_7 x_8 x_9
  have KS : SBox w1 w.heap.size (s) := HS.out.later hb
  have KR : SBox w1 (w.heap.size + 1) (r) := HR.out.later hb
  have KX : Box2 w1 (w.heap.size + 1 + 1) ((x, y)) := HX.out.later hb
  have G : Hid (Grow w w1) := hide (Grow.trans' G.out hb)
  clear hb HS HR HX
  have HS := hide KS
  have HR := hide KR
  have HX := hide KX
  obtain ⟨s_0, s_1, s_2, s_3, s_4, s_5, s_6⟩ := KS
  obtain ⟨r_0, r_1, r_2, r_3, r_4, r_5, r_6⟩ := KR
  obtain ⟨x_0, x_1, x_2, x_3, x_4, x_5, x_6, x_7, x_8, x_9⟩ := KX
  go_wp2_with fail
  refine (sMayC (s) true h1.out _).mono ?_
  rintro e w2 ⟨rfl, hb⟩
  clear s_0 s_1 s_2 s_3 s_4 s_5 s_6 r_0 r_1 r_2 r_3 r_4 r_5 r_6 x_0 x_1 x_2 x_3 x_4 x_5 x_6 x_7 x_8 x_9
  have KS : SBox w2 w.heap.size (s) := HS.out.later hb
  have KR : SBox w2 (w.heap.size + 1) (r) := HR.out.later hb
  have KX : Box2 w2 (w.heap.size + 1 + 1) ((x, y)) := HX.out.later hb
  have G : Hid (Grow w w2) := hide (Grow.trans' G.out hb)
  clear hb HS HR HX
  have HS := hide KS
  have HR := hide KR
  have HX := hide KX
  obtain ⟨s_0, s_1, s_2, s_3, s_4, s_5, s_6⟩ := KS
  obtain ⟨r_0, r_1, r_2, r_3, r_4, r_5, r_6⟩ := KR
  obtain ⟨x_0, x_1, x_2, x_3, x_4, x_5, x_6, x_7, x_8, x_9⟩ := KX
  go_wp2_with fail
  refine (sMayC (r) true h2.out _).mono ?_
  rintro e w3 ⟨rfl, hb⟩
  clear s_0 s_1 s_2 s_3 s_4 s_5 s_6 r_0 r_1 r_2 r_3 r_4 r_5 r_6 x_0 x_1 x_2 x_3 x_4 x_5 x_6 x_7 x_8 x_9
  have KS : SBox w3 w.heap.size (s) := HS.out.later hb
  have KR : SBox w3 (w.heap.size + 1) (r) := HR.out.later hb
  have KX : Box2 w3 (w.heap.size + 1 + 1) ((x, y)) := HX.out.later hb
  have G : Hid (Grow w w3) := hide (Grow.trans' G.out hb)
  clear hb HS HR HX
  have HS := hide KS
  have HR := hide KR
  have HX := hide KX
  obtain ⟨s_0, s_1, s_2, s_3, s_4, s_5, s_6⟩ := KS
  obtain ⟨r_0, r_1, r_2, r_3, r_4, r_5, r_6⟩ := KR
  obtain ⟨x_0, x_1, x_2, x_3, x_4, x_5, x_6, x_7, x_8, x_9⟩ := KX
  go_wp2_with fail
  refine (apply_at (s) x A E hA.out hE.out _).mono ?_
  rintro e w4 ⟨rfl, hb⟩
  clear s_0 s_1 s_2 s_3 s_4 s_5 s_6 r_0 r_1 r_2 r_3 r_4 r_5 r_6 x_0 x_1 x_2 x_3 x_4 x_5 x_6 x_7 x_8 x_9
  have KS : SBox (w4.alloc (.cells #[.int .i64 (A).e, .int .i64 (A).d, .int .i64 (A).x, .int .i64 (A).y, .int .i64 (A).z] 30)) w.heap.size (s) := (HS.out.later hb).later (Grow.alloc' _ _)
  have KR : SBox (w4.alloc (.cells #[.int .i64 (A).e, .int .i64 (A).d, .int .i64 (A).x, .int .i64 (A).y, .int .i64 (A).z] 30)) (w.heap.size + 1) (r) := (HR.out.later hb).later (Grow.alloc' _ _)
  have KX : Box2 (w4.alloc (.cells #[.int .i64 (A).e, .int .i64 (A).d, .int .i64 (A).x, .int .i64 (A).y, .int .i64 (A).z] 30)) (w.heap.size + 1 + 1) ((x, y)) := (HX.out.later hb).later (Grow.alloc' _ _)
  have KA : Box (w4.alloc (.cells #[.int .i64 (A).e, .int .i64 (A).d, .int .i64 (A).x, .int .i64 (A).y, .int .i64 (A).z] 30)) w4.heap.size (A) := Box.new _ _
  have G : Hid (Grow w (w4.alloc (.cells #[.int .i64 (A).e, .int .i64 (A).d, .int .i64 (A).x, .int .i64 (A).y, .int .i64 (A).z] 30))) := hide (Grow.trans' (Grow.trans' G.out hb) (Grow.alloc' _ _))
  clear hb HS HR HX
  have HS := hide KS
  have HR := hide KR
  have HX := hide KX
  have HA := hide KA
  obtain ⟨s_0, s_1, s_2, s_3, s_4, s_5, s_6⟩ := KS
  obtain ⟨r_0, r_1, r_2, r_3, r_4, r_5, r_6⟩ := KR
  obtain ⟨x_0, x_1, x_2, x_3, x_4, x_5, x_6, x_7, x_8, x_9⟩ := KX
  obtain ⟨a_0, a_1, a_2, a_3, a_4⟩ := KA
  go_wp2_with fail
  refine (apply_at (r) x B F hB.out hF.out _).mono ?_
  rintro e w5 ⟨rfl, hb⟩
  clear s_0 s_1 s_2 s_3 s_4 s_5 s_6 r_0 r_1 r_2 r_3 r_4 r_5 r_6 x_0 x_1 x_2 x_3 x_4 x_5 x_6 x_7 x_8 x_9 a_0 a_1 a_2 a_3 a_4
  have KS : SBox (w5.alloc (.cells #[.int .i64 (B).e, .int .i64 (B).d, .int .i64 (B).x, .int .i64 (B).y, .int .i64 (B).z] 30)) w.heap.size (s) := (HS.out.later hb).later (Grow.alloc' _ _)
  have KR : SBox (w5.alloc (.cells #[.int .i64 (B).e, .int .i64 (B).d, .int .i64 (B).x, .int .i64 (B).y, .int .i64 (B).z] 30)) (w.heap.size + 1) (r) := (HR.out.later hb).later (Grow.alloc' _ _)
  have KX : Box2 (w5.alloc (.cells #[.int .i64 (B).e, .int .i64 (B).d, .int .i64 (B).x, .int .i64 (B).y, .int .i64 (B).z] 30)) (w.heap.size + 1 + 1) ((x, y)) := (HX.out.later hb).later (Grow.alloc' _ _)
  have KA : Box (w5.alloc (.cells #[.int .i64 (B).e, .int .i64 (B).d, .int .i64 (B).x, .int .i64 (B).y, .int .i64 (B).z] 30)) w4.heap.size (A) := (HA.out.later hb).later (Grow.alloc' _ _)
  have KB : Box (w5.alloc (.cells #[.int .i64 (B).e, .int .i64 (B).d, .int .i64 (B).x, .int .i64 (B).y, .int .i64 (B).z] 30)) w5.heap.size (B) := Box.new _ _
  have G : Hid (Grow w (w5.alloc (.cells #[.int .i64 (B).e, .int .i64 (B).d, .int .i64 (B).x, .int .i64 (B).y, .int .i64 (B).z] 30))) := hide (Grow.trans' (Grow.trans' G.out hb) (Grow.alloc' _ _))
  clear hb HS HR HX HA
  have HS := hide KS
  have HR := hide KR
  have HX := hide KX
  have HA := hide KA
  have HB := hide KB
  obtain ⟨s_0, s_1, s_2, s_3, s_4, s_5, s_6⟩ := KS
  obtain ⟨r_0, r_1, r_2, r_3, r_4, r_5, r_6⟩ := KR
  obtain ⟨x_0, x_1, x_2, x_3, x_4, x_5, x_6, x_7, x_8, x_9⟩ := KX
  obtain ⟨a_0, a_1, a_2, a_3, a_4⟩ := KA
  obtain ⟨b_0, b_1, b_2, b_3, b_4⟩ := KB
  go_wp2_with fail
  refine (apply_at (s) y C L hC.out hL.out _).mono ?_
  rintro e w6 ⟨rfl, hb⟩
  clear s_0 s_1 s_2 s_3 s_4 s_5 s_6 r_0 r_1 r_2 r_3 r_4 r_5 r_6 x_0 x_1 x_2 x_3 x_4 x_5 x_6 x_7 x_8 x_9 a_0 a_1 a_2 a_3 a_4 b_0 b_1 b_2 b_3 b_4
  have KS : SBox (w6.alloc (.cells #[.int .i64 (C).e, .int .i64 (C).d, .int .i64 (C).x, .int .i64 (C).y, .int .i64 (C).z] 30)) w.heap.size (s) := (HS.out.later hb).later (Grow.alloc' _ _)
  have KR : SBox (w6.alloc (.cells #[.int .i64 (C).e, .int .i64 (C).d, .int .i64 (C).x, .int .i64 (C).y, .int .i64 (C).z] 30)) (w.heap.size + 1) (r) := (HR.out.later hb).later (Grow.alloc' _ _)
  have KX : Box2 (w6.alloc (.cells #[.int .i64 (C).e, .int .i64 (C).d, .int .i64 (C).x, .int .i64 (C).y, .int .i64 (C).z] 30)) (w.heap.size + 1 + 1) ((x, y)) := (HX.out.later hb).later (Grow.alloc' _ _)
  have KA : Box (w6.alloc (.cells #[.int .i64 (C).e, .int .i64 (C).d, .int .i64 (C).x, .int .i64 (C).y, .int .i64 (C).z] 30)) w4.heap.size (A) := (HA.out.later hb).later (Grow.alloc' _ _)
  have KB : Box (w6.alloc (.cells #[.int .i64 (C).e, .int .i64 (C).d, .int .i64 (C).x, .int .i64 (C).y, .int .i64 (C).z] 30)) w5.heap.size (B) := (HB.out.later hb).later (Grow.alloc' _ _)
  have KC : Box (w6.alloc (.cells #[.int .i64 (C).e, .int .i64 (C).d, .int .i64 (C).x, .int .i64 (C).y, .int .i64 (C).z] 30)) w6.heap.size (C) := Box.new _ _
  have G : Hid (Grow w (w6.alloc (.cells #[.int .i64 (C).e, .int .i64 (C).d, .int .i64 (C).x, .int .i64 (C).y, .int .i64 (C).z] 30))) := hide (Grow.trans' (Grow.trans' G.out hb) (Grow.alloc' _ _))
  clear hb HS HR HX HA HB
  have HS := hide KS
  have HR := hide KR
  have HX := hide KX
  have HA := hide KA
  have HB := hide KB
  have HC := hide KC
  obtain ⟨s_0, s_1, s_2, s_3, s_4, s_5, s_6⟩ := KS
  obtain ⟨r_0, r_1, r_2, r_3, r_4, r_5, r_6⟩ := KR
  obtain ⟨x_0, x_1, x_2, x_3, x_4, x_5, x_6, x_7, x_8, x_9⟩ := KX
  obtain ⟨a_0, a_1, a_2, a_3, a_4⟩ := KA
  obtain ⟨b_0, b_1, b_2, b_3, b_4⟩ := KB
  obtain ⟨c_0, c_1, c_2, c_3, c_4⟩ := KC
  go_wp2_with fail
  refine (refLeC A B p hp.out _).mono ?_
  rintro e w7 ⟨rfl, hb⟩
  clear s_0 s_1 s_2 s_3 s_4 s_5 s_6 r_0 r_1 r_2 r_3 r_4 r_5 r_6 x_0 x_1 x_2 x_3 x_4 x_5 x_6 x_7 x_8 x_9 a_0 a_1 a_2 a_3 a_4 b_0 b_1 b_2 b_3 b_4 c_0 c_1 c_2 c_3 c_4
  have KS : SBox w7 w.heap.size (s) := HS.out.later hb
  have KR : SBox w7 (w.heap.size + 1) (r) := HR.out.later hb
  have KX : Box2 w7 (w.heap.size + 1 + 1) ((x, y)) := HX.out.later hb
  have KA : Box w7 w4.heap.size (A) := HA.out.later hb
  have KB : Box w7 w5.heap.size (B) := HB.out.later hb
  have KC : Box w7 w6.heap.size (C) := HC.out.later hb
  have G : Hid (Grow w w7) := hide (Grow.trans' G.out hb)
  clear hb HS HR HX HA HB HC
  have HS := hide KS
  have HR := hide KR
  have HX := hide KX
  have HA := hide KA
  have HB := hide KB
  have HC := hide KC
  obtain ⟨s_0, s_1, s_2, s_3, s_4, s_5, s_6⟩ := KS
  obtain ⟨r_0, r_1, r_2, r_3, r_4, r_5, r_6⟩ := KR
  obtain ⟨x_0, x_1, x_2, x_3, x_4, x_5, x_6, x_7, x_8, x_9⟩ := KX
  obtain ⟨a_0, a_1, a_2, a_3, a_4⟩ := KA
  obtain ⟨b_0, b_1, b_2, b_3, b_4⟩ := KB
  obtain ⟨c_0, c_1, c_2, c_3, c_4⟩ := KC
  go_wp2_with fail
  refine (refLeC x y true hu.out _).mono ?_
  rintro e w8 ⟨rfl, hb⟩
  clear s_0 s_1 s_2 s_3 s_4 s_5 s_6 r_0 r_1 r_2 r_3 r_4 r_5 r_6 x_0 x_1 x_2 x_3 x_4 x_5 x_6 x_7 x_8 x_9 a_0 a_1 a_2 a_3 a_4 b_0 b_1 b_2 b_3 b_4 c_0 c_1 c_2 c_3 c_4
  have KS : SBox w8 w.heap.size (s) := HS.out.later hb
  have KR : SBox w8 (w.heap.size + 1) (r) := HR.out.later hb
  have KX : Box2 w8 (w.heap.size + 1 + 1) ((x, y)) := HX.out.later hb
  have KA : Box w8 w4.heap.size (A) := HA.out.later hb
  have KB : Box w8 w5.heap.size (B) := HB.out.later hb
  have KC : Box w8 w6.heap.size (C) := HC.out.later hb
  have G : Hid (Grow w w8) := hide (Grow.trans' G.out hb)
  clear hb HS HR HX HA HB HC
  have HS := hide KS
  have HR := hide KR
  have HX := hide KX
  have HA := hide KA
  have HB := hide KB
  have HC := hide KC
  obtain ⟨s_0, s_1, s_2, s_3, s_4, s_5, s_6⟩ := KS
  obtain ⟨r_0, r_1, r_2, r_3, r_4, r_5, r_6⟩ := KR
  obtain ⟨x_0, x_1, x_2, x_3, x_4, x_5, x_6, x_7, x_8, x_9⟩ := KX
  obtain ⟨a_0, a_1, a_2, a_3, a_4⟩ := KA
  obtain ⟨b_0, b_1, b_2, b_3, b_4⟩ := KB
  obtain ⟨c_0, c_1, c_2, c_3, c_4⟩ := KC
  go_wp2_with fail
  refine (refLeC A C m hm.out _).mono ?_
  rintro e w9 ⟨rfl, hb⟩
  clear s_0 s_1 s_2 s_3 s_4 s_5 s_6 r_0 r_1 r_2 r_3 r_4 r_5 r_6 x_0 x_1 x_2 x_3 x_4 x_5 x_6 x_7 x_8 x_9 a_0 a_1 a_2 a_3 a_4 b_0 b_1 b_2 b_3 b_4 c_0 c_1 c_2 c_3 c_4
  have KS : SBox w9 w.heap.size (s) := HS.out.later hb
  have KR : SBox w9 (w.heap.size + 1) (r) := HR.out.later hb
  have KX : Box2 w9 (w.heap.size + 1 + 1) ((x, y)) := HX.out.later hb
  have KA : Box w9 w4.heap.size (A) := HA.out.later hb
  have KB : Box w9 w5.heap.size (B) := HB.out.later hb
  have KC : Box w9 w6.heap.size (C) := HC.out.later hb
  have G : Hid (Grow w w9) := hide (Grow.trans' G.out hb)
  clear hb HS HR HX HA HB HC
  have HS := hide KS
  have HR := hide KR
  have HX := hide KX
  have HA := hide KA
  have HB := hide KB
  have HC := hide KC
  obtain ⟨s_0, s_1, s_2, s_3, s_4, s_5, s_6⟩ := KS
  obtain ⟨r_0, r_1, r_2, r_3, r_4, r_5, r_6⟩ := KR
  obtain ⟨x_0, x_1, x_2, x_3, x_4, x_5, x_6, x_7, x_8, x_9⟩ := KX
  obtain ⟨a_0, a_1, a_2, a_3, a_4⟩ := KA
  obtain ⟨b_0, b_1, b_2, b_3, b_4⟩ := KB
  obtain ⟨c_0, c_1, c_2, c_3, c_4⟩ := KC
  go_wp2_with fail
  refine (sLeC (s) (r) false hl.out _).mono ?_
  rintro e w10 ⟨rfl, hb⟩
  clear s_0 s_1 s_2 s_3 s_4 s_5 s_6 r_0 r_1 r_2 r_3 r_4 r_5 r_6 x_0 x_1 x_2 x_3 x_4 x_5 x_6 x_7 x_8 x_9 a_0 a_1 a_2 a_3 a_4 b_0 b_1 b_2 b_3 b_4 c_0 c_1 c_2 c_3 c_4
  have KS : SBox w10 w.heap.size (s) := HS.out.later hb
  have KR : SBox w10 (w.heap.size + 1) (r) := HR.out.later hb
  have KX : Box2 w10 (w.heap.size + 1 + 1) ((x, y)) := HX.out.later hb
  have KA : Box w10 w4.heap.size (A) := HA.out.later hb
  have KB : Box w10 w5.heap.size (B) := HB.out.later hb
  have KC : Box w10 w6.heap.size (C) := HC.out.later hb
  have G : Hid (Grow w w10) := hide (Grow.trans' G.out hb)
  clear hb HS HR HX HA HB HC
  
  obtain ⟨s0, s1, s2, s3, s4, s5, s6⟩ := KS
  obtain ⟨r0, r1, r2, r3, r4, r5, r6⟩ := KR
  clear KA KB KC KX
  
  go_wp2_with fail
  
  refine (sLeC s s true hss.out _).mono ?_
  rintro e w20 ⟨rfl, hb⟩
  have G := hide (Grow.trans' G.out hb)
  clear s0 s1 s2 s3 s4 s5 s6 r0 r1 r2 r3 r4 r5 r6 hb
  go_wp2
  go_ret
  exact ⟨rfl, G.out⟩
set_option maxHeartbeats 1000000 in
set_option maxRecDepth 100000 in
theorem SummaryLess_cf3 (s r : Sm) (x y : Tm) (A B C : Tm) (E F L : Int) (p m : Bool) (w : World) (h1 : Hid (mayS (s) = true)) (h2 : Hid (mayS (r) = true)) (hA : Hid (applyT (s) x = A)) (hE : Hid (applyE (s) x = 0)) (hB : Hid (applyT (r) x = B)) (hF : Hid (applyE (r) x = F)) (hC : Hid (applyT (s) y = C)) (hL : Hid (applyE (s) y = L)) (hp : Hid (leB A B = p)) (hu : Hid (leB x y = true)) (hm : Hid (leB A C = m)) (hl : Hid (leS (s) (r) = false)) (k1 : ¬ L = 0) (k2 : ¬ s.f = r.f) (hss : Hid (leS s s = true)) :
    Calls Try.prog 7 #[.agg #[.int .i64 (s).f, .int .i64 (s).t, .int .i64 (s).k, .int .i64 (s).ep, .int .i64 (s).x, .int .i64 (s).y, .int .i64 (s).z], .agg #[.int .i64 (r).f, .int .i64 (r).t, .int .i64 (r).k, .int .i64 (r).ep, .int .i64 (r).x, .int .i64 (r).y, .int .i64 (r).z], .agg #[.int .i64 x.e, .int .i64 x.d, .int .i64 x.x, .int .i64 x.y, .int .i64 x.z, .int .i64 y.e, .int .i64 y.d, .int .i64 y.x, .int .i64 y.y, .int .i64 y.z]] w fun e w' => e = .returned (.bool true) ∧ Below w.heap.size w w' := by
  
  
  go_enter Try.func7, Try.ntmps7
  have KS : SBox (((w.alloc (.cells #[.int .i64 (s).f, .int .i64 (s).t, .int .i64 (s).k, .int .i64 (s).ep, .int .i64 (s).x, .int .i64 (s).y, .int .i64 (s).z] 24)).alloc (.cells #[.int .i64 (r).f, .int .i64 (r).t, .int .i64 (r).k, .int .i64 (r).ep, .int .i64 (r).x, .int .i64 (r).y, .int .i64 (r).z] 24)).alloc (.cells #[.int .i64 x.e, .int .i64 x.d, .int .i64 x.x, .int .i64 x.y, .int .i64 x.z, .int .i64 y.e, .int .i64 y.d, .int .i64 y.x, .int .i64 y.y, .int .i64 y.z] 39)) w.heap.size (s) := by simp [SBox, go_sem]
  have KR : SBox (((w.alloc (.cells #[.int .i64 (s).f, .int .i64 (s).t, .int .i64 (s).k, .int .i64 (s).ep, .int .i64 (s).x, .int .i64 (s).y, .int .i64 (s).z] 24)).alloc (.cells #[.int .i64 (r).f, .int .i64 (r).t, .int .i64 (r).k, .int .i64 (r).ep, .int .i64 (r).x, .int .i64 (r).y, .int .i64 (r).z] 24)).alloc (.cells #[.int .i64 x.e, .int .i64 x.d, .int .i64 x.x, .int .i64 x.y, .int .i64 x.z, .int .i64 y.e, .int .i64 y.d, .int .i64 y.x, .int .i64 y.y, .int .i64 y.z] 39)) (w.heap.size + 1) (r) := by simp [SBox, go_sem]
  have KX : Box2 (((w.alloc (.cells #[.int .i64 (s).f, .int .i64 (s).t, .int .i64 (s).k, .int .i64 (s).ep, .int .i64 (s).x, .int .i64 (s).y, .int .i64 (s).z] 24)).alloc (.cells #[.int .i64 (r).f, .int .i64 (r).t, .int .i64 (r).k, .int .i64 (r).ep, .int .i64 (r).x, .int .i64 (r).y, .int .i64 (r).z] 24)).alloc (.cells #[.int .i64 x.e, .int .i64 x.d, .int .i64 x.x, .int .i64 x.y, .int .i64 x.z, .int .i64 y.e, .int .i64 y.d, .int .i64 y.x, .int .i64 y.y, .int .i64 y.z] 39)) (w.heap.size + 1 + 1) (x, y) := by simp [Box2, go_sem]
  have G : Hid (Grow w (((w.alloc (.cells #[.int .i64 (s).f, .int .i64 (s).t, .int .i64 (s).k, .int .i64 (s).ep, .int .i64 (s).x, .int .i64 (s).y, .int .i64 (s).z] 24)).alloc (.cells #[.int .i64 (r).f, .int .i64 (r).t, .int .i64 (r).k, .int .i64 (r).ep, .int .i64 (r).x, .int .i64 (r).y, .int .i64 (r).z] 24)).alloc (.cells #[.int .i64 x.e, .int .i64 x.d, .int .i64 x.x, .int .i64 x.y, .int .i64 x.z, .int .i64 y.e, .int .i64 y.d, .int .i64 y.x, .int .i64 y.y, .int .i64 y.z] 39))) := hide (Grow.trans' (Grow.trans' (Grow.alloc' _ _) (Grow.alloc' _ _)) (Grow.alloc' _ _))
  have HS := hide KS
  have HR := hide KR
  have HX := hide KX
  obtain ⟨s_0, s_1, s_2, s_3, s_4, s_5, s_6⟩ := KS
  obtain ⟨r_0, r_1, r_2, r_3, r_4, r_5, r_6⟩ := KR
  obtain ⟨x_0, x_1, x_2, x_3, x_4, x_5, x_6, x_7, x_8, x_9⟩ := KX
  go_wp2_with fail
  refine (shown_any _).mono ?_
  rintro e w1 ⟨rfl, hb⟩
  clear s_0 s_1 s_2 s_3 s_4 s_5 s_6 r_0 r_1 r_2 r_3 r_4 r_5 r_6 x_0 x_1 x_2 x_3 x_4 x_5 x_6 x_7 x_8 x_9
  have KS : SBox w1 w.heap.size (s) := HS.out.later hb
  have KR : SBox w1 (w.heap.size + 1) (r) := HR.out.later hb
  have KX : Box2 w1 (w.heap.size + 1 + 1) ((x, y)) := HX.out.later hb
  have G : Hid (Grow w w1) := hide (Grow.trans' G.out hb)
  clear hb HS HR HX
  have HS := hide KS
  have HR := hide KR
  have HX := hide KX
  obtain ⟨s_0, s_1, s_2, s_3, s_4, s_5, s_6⟩ := KS
  obtain ⟨r_0, r_1, r_2, r_3, r_4, r_5, r_6⟩ := KR
  obtain ⟨x_0, x_1, x_2, x_3, x_4, x_5, x_6, x_7, x_8, x_9⟩ := KX
  go_wp2_with fail
  refine (sMayC (s) true h1.out _).mono ?_
  rintro e w2 ⟨rfl, hb⟩
  clear s_0 s_1 s_2 s_3 s_4 s_5 s_6 r_0 r_1 r_2 r_3 r_4 r_5 r_6 x_0 x_1 x_2 x_3 x_4 x_5 x_6 x_7 x_8 x_9
  have KS : SBox w2 w.heap.size (s) := HS.out.later hb
  have KR : SBox w2 (w.heap.size + 1) (r) := HR.out.later hb
  have KX : Box2 w2 (w.heap.size + 1 + 1) ((x, y)) := HX.out.later hb
  have G : Hid (Grow w w2) := hide (Grow.trans' G.out hb)
  clear hb HS HR HX
  have HS := hide KS
  have HR := hide KR
  have HX := hide KX
  obtain ⟨s_0, s_1, s_2, s_3, s_4, s_5, s_6⟩ := KS
  obtain ⟨r_0, r_1, r_2, r_3, r_4, r_5, r_6⟩ := KR
  obtain ⟨x_0, x_1, x_2, x_3, x_4, x_5, x_6, x_7, x_8, x_9⟩ := KX
  go_wp2_with fail
  refine (sMayC (r) true h2.out _).mono ?_
  rintro e w3 ⟨rfl, hb⟩
  clear s_0 s_1 s_2 s_3 s_4 s_5 s_6 r_0 r_1 r_2 r_3 r_4 r_5 r_6 x_0 x_1 x_2 x_3 x_4 x_5 x_6 x_7 x_8 x_9
  have KS : SBox w3 w.heap.size (s) := HS.out.later hb
  have KR : SBox w3 (w.heap.size + 1) (r) := HR.out.later hb
  have KX : Box2 w3 (w.heap.size + 1 + 1) ((x, y)) := HX.out.later hb
  have G : Hid (Grow w w3) := hide (Grow.trans' G.out hb)
  clear hb HS HR HX
  have HS := hide KS
  have HR := hide KR
  have HX := hide KX
  obtain ⟨s_0, s_1, s_2, s_3, s_4, s_5, s_6⟩ := KS
  obtain ⟨r_0, r_1, r_2, r_3, r_4, r_5, r_6⟩ := KR
  obtain ⟨x_0, x_1, x_2, x_3, x_4, x_5, x_6, x_7, x_8, x_9⟩ := KX
  go_wp2_with fail
  refine (apply_at (s) x A 0 hA.out hE.out _).mono ?_
  rintro e w4 ⟨rfl, hb⟩
  clear s_0 s_1 s_2 s_3 s_4 s_5 s_6 r_0 r_1 r_2 r_3 r_4 r_5 r_6 x_0 x_1 x_2 x_3 x_4 x_5 x_6 x_7 x_8 x_9
  have KS : SBox (w4.alloc (.cells #[.int .i64 (A).e, .int .i64 (A).d, .int .i64 (A).x, .int .i64 (A).y, .int .i64 (A).z] 30)) w.heap.size (s) := (HS.out.later hb).later (Grow.alloc' _ _)
  have KR : SBox (w4.alloc (.cells #[.int .i64 (A).e, .int .i64 (A).d, .int .i64 (A).x, .int .i64 (A).y, .int .i64 (A).z] 30)) (w.heap.size + 1) (r) := (HR.out.later hb).later (Grow.alloc' _ _)
  have KX : Box2 (w4.alloc (.cells #[.int .i64 (A).e, .int .i64 (A).d, .int .i64 (A).x, .int .i64 (A).y, .int .i64 (A).z] 30)) (w.heap.size + 1 + 1) ((x, y)) := (HX.out.later hb).later (Grow.alloc' _ _)
  have KA : Box (w4.alloc (.cells #[.int .i64 (A).e, .int .i64 (A).d, .int .i64 (A).x, .int .i64 (A).y, .int .i64 (A).z] 30)) w4.heap.size (A) := Box.new _ _
  have G : Hid (Grow w (w4.alloc (.cells #[.int .i64 (A).e, .int .i64 (A).d, .int .i64 (A).x, .int .i64 (A).y, .int .i64 (A).z] 30))) := hide (Grow.trans' (Grow.trans' G.out hb) (Grow.alloc' _ _))
  clear hb HS HR HX
  have HS := hide KS
  have HR := hide KR
  have HX := hide KX
  have HA := hide KA
  obtain ⟨s_0, s_1, s_2, s_3, s_4, s_5, s_6⟩ := KS
  obtain ⟨r_0, r_1, r_2, r_3, r_4, r_5, r_6⟩ := KR
  obtain ⟨x_0, x_1, x_2, x_3, x_4, x_5, x_6, x_7, x_8, x_9⟩ := KX
  obtain ⟨a_0, a_1, a_2, a_3, a_4⟩ := KA
  go_wp2_with fail
  refine (apply_at (r) x B F hB.out hF.out _).mono ?_
  rintro e w5 ⟨rfl, hb⟩
  clear s_0 s_1 s_2 s_3 s_4 s_5 s_6 r_0 r_1 r_2 r_3 r_4 r_5 r_6 x_0 x_1 x_2 x_3 x_4 x_5 x_6 x_7 x_8 x_9 a_0 a_1 a_2 a_3 a_4
  have KS : SBox (w5.alloc (.cells #[.int .i64 (B).e, .int .i64 (B).d, .int .i64 (B).x, .int .i64 (B).y, .int .i64 (B).z] 30)) w.heap.size (s) := (HS.out.later hb).later (Grow.alloc' _ _)
  have KR : SBox (w5.alloc (.cells #[.int .i64 (B).e, .int .i64 (B).d, .int .i64 (B).x, .int .i64 (B).y, .int .i64 (B).z] 30)) (w.heap.size + 1) (r) := (HR.out.later hb).later (Grow.alloc' _ _)
  have KX : Box2 (w5.alloc (.cells #[.int .i64 (B).e, .int .i64 (B).d, .int .i64 (B).x, .int .i64 (B).y, .int .i64 (B).z] 30)) (w.heap.size + 1 + 1) ((x, y)) := (HX.out.later hb).later (Grow.alloc' _ _)
  have KA : Box (w5.alloc (.cells #[.int .i64 (B).e, .int .i64 (B).d, .int .i64 (B).x, .int .i64 (B).y, .int .i64 (B).z] 30)) w4.heap.size (A) := (HA.out.later hb).later (Grow.alloc' _ _)
  have KB : Box (w5.alloc (.cells #[.int .i64 (B).e, .int .i64 (B).d, .int .i64 (B).x, .int .i64 (B).y, .int .i64 (B).z] 30)) w5.heap.size (B) := Box.new _ _
  have G : Hid (Grow w (w5.alloc (.cells #[.int .i64 (B).e, .int .i64 (B).d, .int .i64 (B).x, .int .i64 (B).y, .int .i64 (B).z] 30))) := hide (Grow.trans' (Grow.trans' G.out hb) (Grow.alloc' _ _))
  clear hb HS HR HX HA
  have HS := hide KS
  have HR := hide KR
  have HX := hide KX
  have HA := hide KA
  have HB := hide KB
  obtain ⟨s_0, s_1, s_2, s_3, s_4, s_5, s_6⟩ := KS
  obtain ⟨r_0, r_1, r_2, r_3, r_4, r_5, r_6⟩ := KR
  obtain ⟨x_0, x_1, x_2, x_3, x_4, x_5, x_6, x_7, x_8, x_9⟩ := KX
  obtain ⟨a_0, a_1, a_2, a_3, a_4⟩ := KA
  obtain ⟨b_0, b_1, b_2, b_3, b_4⟩ := KB
  go_wp2_with fail
  refine (apply_at (s) y C L hC.out hL.out _).mono ?_
  rintro e w6 ⟨rfl, hb⟩
  clear s_0 s_1 s_2 s_3 s_4 s_5 s_6 r_0 r_1 r_2 r_3 r_4 r_5 r_6 x_0 x_1 x_2 x_3 x_4 x_5 x_6 x_7 x_8 x_9 a_0 a_1 a_2 a_3 a_4 b_0 b_1 b_2 b_3 b_4
  have KS : SBox (w6.alloc (.cells #[.int .i64 (C).e, .int .i64 (C).d, .int .i64 (C).x, .int .i64 (C).y, .int .i64 (C).z] 30)) w.heap.size (s) := (HS.out.later hb).later (Grow.alloc' _ _)
  have KR : SBox (w6.alloc (.cells #[.int .i64 (C).e, .int .i64 (C).d, .int .i64 (C).x, .int .i64 (C).y, .int .i64 (C).z] 30)) (w.heap.size + 1) (r) := (HR.out.later hb).later (Grow.alloc' _ _)
  have KX : Box2 (w6.alloc (.cells #[.int .i64 (C).e, .int .i64 (C).d, .int .i64 (C).x, .int .i64 (C).y, .int .i64 (C).z] 30)) (w.heap.size + 1 + 1) ((x, y)) := (HX.out.later hb).later (Grow.alloc' _ _)
  have KA : Box (w6.alloc (.cells #[.int .i64 (C).e, .int .i64 (C).d, .int .i64 (C).x, .int .i64 (C).y, .int .i64 (C).z] 30)) w4.heap.size (A) := (HA.out.later hb).later (Grow.alloc' _ _)
  have KB : Box (w6.alloc (.cells #[.int .i64 (C).e, .int .i64 (C).d, .int .i64 (C).x, .int .i64 (C).y, .int .i64 (C).z] 30)) w5.heap.size (B) := (HB.out.later hb).later (Grow.alloc' _ _)
  have KC : Box (w6.alloc (.cells #[.int .i64 (C).e, .int .i64 (C).d, .int .i64 (C).x, .int .i64 (C).y, .int .i64 (C).z] 30)) w6.heap.size (C) := Box.new _ _
  have G : Hid (Grow w (w6.alloc (.cells #[.int .i64 (C).e, .int .i64 (C).d, .int .i64 (C).x, .int .i64 (C).y, .int .i64 (C).z] 30))) := hide (Grow.trans' (Grow.trans' G.out hb) (Grow.alloc' _ _))
  clear hb HS HR HX HA HB
  have HS := hide KS
  have HR := hide KR
  have HX := hide KX
  have HA := hide KA
  have HB := hide KB
  have HC := hide KC
  obtain ⟨s_0, s_1, s_2, s_3, s_4, s_5, s_6⟩ := KS
  obtain ⟨r_0, r_1, r_2, r_3, r_4, r_5, r_6⟩ := KR
  obtain ⟨x_0, x_1, x_2, x_3, x_4, x_5, x_6, x_7, x_8, x_9⟩ := KX
  obtain ⟨a_0, a_1, a_2, a_3, a_4⟩ := KA
  obtain ⟨b_0, b_1, b_2, b_3, b_4⟩ := KB
  obtain ⟨c_0, c_1, c_2, c_3, c_4⟩ := KC
  go_wp2_with fail
  refine (refLeC A B p hp.out _).mono ?_
  rintro e w7 ⟨rfl, hb⟩
  clear s_0 s_1 s_2 s_3 s_4 s_5 s_6 r_0 r_1 r_2 r_3 r_4 r_5 r_6 x_0 x_1 x_2 x_3 x_4 x_5 x_6 x_7 x_8 x_9 a_0 a_1 a_2 a_3 a_4 b_0 b_1 b_2 b_3 b_4 c_0 c_1 c_2 c_3 c_4
  have KS : SBox w7 w.heap.size (s) := HS.out.later hb
  have KR : SBox w7 (w.heap.size + 1) (r) := HR.out.later hb
  have KX : Box2 w7 (w.heap.size + 1 + 1) ((x, y)) := HX.out.later hb
  have KA : Box w7 w4.heap.size (A) := HA.out.later hb
  have KB : Box w7 w5.heap.size (B) := HB.out.later hb
  have KC : Box w7 w6.heap.size (C) := HC.out.later hb
  have G : Hid (Grow w w7) := hide (Grow.trans' G.out hb)
  clear hb HS HR HX HA HB HC
  have HS := hide KS
  have HR := hide KR
  have HX := hide KX
  have HA := hide KA
  have HB := hide KB
  have HC := hide KC
  obtain ⟨s_0, s_1, s_2, s_3, s_4, s_5, s_6⟩ := KS
  obtain ⟨r_0, r_1, r_2, r_3, r_4, r_5, r_6⟩ := KR
  obtain ⟨x_0, x_1, x_2, x_3, x_4, x_5, x_6, x_7, x_8, x_9⟩ := KX
  obtain ⟨a_0, a_1, a_2, a_3, a_4⟩ := KA
  obtain ⟨b_0, b_1, b_2, b_3, b_4⟩ := KB
  obtain ⟨c_0, c_1, c_2, c_3, c_4⟩ := KC
  go_wp2_with fail
  refine (refLeC x y true hu.out _).mono ?_
  rintro e w8 ⟨rfl, hb⟩
  clear s_0 s_1 s_2 s_3 s_4 s_5 s_6 r_0 r_1 r_2 r_3 r_4 r_5 r_6 x_0 x_1 x_2 x_3 x_4 x_5 x_6 x_7 x_8 x_9 a_0 a_1 a_2 a_3 a_4 b_0 b_1 b_2 b_3 b_4 c_0 c_1 c_2 c_3 c_4
  have KS : SBox w8 w.heap.size (s) := HS.out.later hb
  have KR : SBox w8 (w.heap.size + 1) (r) := HR.out.later hb
  have KX : Box2 w8 (w.heap.size + 1 + 1) ((x, y)) := HX.out.later hb
  have KA : Box w8 w4.heap.size (A) := HA.out.later hb
  have KB : Box w8 w5.heap.size (B) := HB.out.later hb
  have KC : Box w8 w6.heap.size (C) := HC.out.later hb
  have G : Hid (Grow w w8) := hide (Grow.trans' G.out hb)
  clear hb HS HR HX HA HB HC
  have HS := hide KS
  have HR := hide KR
  have HX := hide KX
  have HA := hide KA
  have HB := hide KB
  have HC := hide KC
  obtain ⟨s_0, s_1, s_2, s_3, s_4, s_5, s_6⟩ := KS
  obtain ⟨r_0, r_1, r_2, r_3, r_4, r_5, r_6⟩ := KR
  obtain ⟨x_0, x_1, x_2, x_3, x_4, x_5, x_6, x_7, x_8, x_9⟩ := KX
  obtain ⟨a_0, a_1, a_2, a_3, a_4⟩ := KA
  obtain ⟨b_0, b_1, b_2, b_3, b_4⟩ := KB
  obtain ⟨c_0, c_1, c_2, c_3, c_4⟩ := KC
  go_wp2_with fail
  refine (refLeC A C m hm.out _).mono ?_
  rintro e w9 ⟨rfl, hb⟩
  clear s_0 s_1 s_2 s_3 s_4 s_5 s_6 r_0 r_1 r_2 r_3 r_4 r_5 r_6 x_0 x_1 x_2 x_3 x_4 x_5 x_6 x_7 x_8 x_9 a_0 a_1 a_2 a_3 a_4 b_0 b_1 b_2 b_3 b_4 c_0 c_1 c_2 c_3 c_4
  have KS : SBox w9 w.heap.size (s) := HS.out.later hb
  have KR : SBox w9 (w.heap.size + 1) (r) := HR.out.later hb
  have KX : Box2 w9 (w.heap.size + 1 + 1) ((x, y)) := HX.out.later hb
  have KA : Box w9 w4.heap.size (A) := HA.out.later hb
  have KB : Box w9 w5.heap.size (B) := HB.out.later hb
  have KC : Box w9 w6.heap.size (C) := HC.out.later hb
  have G : Hid (Grow w w9) := hide (Grow.trans' G.out hb)
  clear hb HS HR HX HA HB HC
  have HS := hide KS
  have HR := hide KR
  have HX := hide KX
  have HA := hide KA
  have HB := hide KB
  have HC := hide KC
  obtain ⟨s_0, s_1, s_2, s_3, s_4, s_5, s_6⟩ := KS
  obtain ⟨r_0, r_1, r_2, r_3, r_4, r_5, r_6⟩ := KR
  obtain ⟨x_0, x_1, x_2, x_3, x_4, x_5, x_6, x_7, x_8, x_9⟩ := KX
  obtain ⟨a_0, a_1, a_2, a_3, a_4⟩ := KA
  obtain ⟨b_0, b_1, b_2, b_3, b_4⟩ := KB
  obtain ⟨c_0, c_1, c_2, c_3, c_4⟩ := KC
  go_wp2_with fail
  refine (sLeC (s) (r) false hl.out _).mono ?_
  rintro e w10 ⟨rfl, hb⟩
  clear s_0 s_1 s_2 s_3 s_4 s_5 s_6 r_0 r_1 r_2 r_3 r_4 r_5 r_6 x_0 x_1 x_2 x_3 x_4 x_5 x_6 x_7 x_8 x_9 a_0 a_1 a_2 a_3 a_4 b_0 b_1 b_2 b_3 b_4 c_0 c_1 c_2 c_3 c_4
  have KS : SBox w10 w.heap.size (s) := HS.out.later hb
  have KR : SBox w10 (w.heap.size + 1) (r) := HR.out.later hb
  have KX : Box2 w10 (w.heap.size + 1 + 1) ((x, y)) := HX.out.later hb
  have KA : Box w10 w4.heap.size (A) := HA.out.later hb
  have KB : Box w10 w5.heap.size (B) := HB.out.later hb
  have KC : Box w10 w6.heap.size (C) := HC.out.later hb
  have G : Hid (Grow w w10) := hide (Grow.trans' G.out hb)
  clear hb HS HR HX HA HB HC
  
  obtain ⟨s0, s1, s2, s3, s4, s5, s6⟩ := KS
  obtain ⟨r0, r1, r2, r3, r4, r5, r6⟩ := KR
  clear KA KB KC KX
  
  go_wp2_with fail
  
  refine (sLeC s s true hss.out _).mono ?_
  rintro e w20 ⟨rfl, hb⟩
  have G := hide (Grow.trans' G.out hb)
  clear s0 s1 s2 s3 s4 s5 s6 r0 r1 r2 r3 r4 r5 r6 hb
  go_wp2
  go_ret
  exact ⟨rfl, G.out⟩
set_option maxHeartbeats 1000000 in
set_option maxRecDepth 100000 in
theorem SummaryLess_cf4 (s r : Sm) (x y : Tm) (A B C : Tm) (E F L : Int) (p m : Bool) (w : World) (h1 : Hid (mayS (s) = true)) (h2 : Hid (mayS (r) = true)) (hA : Hid (applyT (s) x = A)) (hE : Hid (applyE (s) x = 0)) (hB : Hid (applyT (r) x = B)) (hF : Hid (applyE (r) x = F)) (hC : Hid (applyT (s) y = C)) (hL : Hid (applyE (s) y = 0)) (hp : Hid (leB A B = p)) (hu : Hid (leB x y = true)) (hm : Hid (leB A C = true)) (hl : Hid (leS (s) (r) = false)) (k2 : ¬ s.f = r.f) (hss : Hid (leS s s = true)) :
    Calls Try.prog 7 #[.agg #[.int .i64 (s).f, .int .i64 (s).t, .int .i64 (s).k, .int .i64 (s).ep, .int .i64 (s).x, .int .i64 (s).y, .int .i64 (s).z], .agg #[.int .i64 (r).f, .int .i64 (r).t, .int .i64 (r).k, .int .i64 (r).ep, .int .i64 (r).x, .int .i64 (r).y, .int .i64 (r).z], .agg #[.int .i64 x.e, .int .i64 x.d, .int .i64 x.x, .int .i64 x.y, .int .i64 x.z, .int .i64 y.e, .int .i64 y.d, .int .i64 y.x, .int .i64 y.y, .int .i64 y.z]] w fun e w' => e = .returned (.bool true) ∧ Below w.heap.size w w' := by
  
  
  go_enter Try.func7, Try.ntmps7
  have KS : SBox (((w.alloc (.cells #[.int .i64 (s).f, .int .i64 (s).t, .int .i64 (s).k, .int .i64 (s).ep, .int .i64 (s).x, .int .i64 (s).y, .int .i64 (s).z] 24)).alloc (.cells #[.int .i64 (r).f, .int .i64 (r).t, .int .i64 (r).k, .int .i64 (r).ep, .int .i64 (r).x, .int .i64 (r).y, .int .i64 (r).z] 24)).alloc (.cells #[.int .i64 x.e, .int .i64 x.d, .int .i64 x.x, .int .i64 x.y, .int .i64 x.z, .int .i64 y.e, .int .i64 y.d, .int .i64 y.x, .int .i64 y.y, .int .i64 y.z] 39)) w.heap.size (s) := by simp [SBox, go_sem]
  have KR : SBox (((w.alloc (.cells #[.int .i64 (s).f, .int .i64 (s).t, .int .i64 (s).k, .int .i64 (s).ep, .int .i64 (s).x, .int .i64 (s).y, .int .i64 (s).z] 24)).alloc (.cells #[.int .i64 (r).f, .int .i64 (r).t, .int .i64 (r).k, .int .i64 (r).ep, .int .i64 (r).x, .int .i64 (r).y, .int .i64 (r).z] 24)).alloc (.cells #[.int .i64 x.e, .int .i64 x.d, .int .i64 x.x, .int .i64 x.y, .int .i64 x.z, .int .i64 y.e, .int .i64 y.d, .int .i64 y.x, .int .i64 y.y, .int .i64 y.z] 39)) (w.heap.size + 1) (r) := by simp [SBox, go_sem]
  have KX : Box2 (((w.alloc (.cells #[.int .i64 (s).f, .int .i64 (s).t, .int .i64 (s).k, .int .i64 (s).ep, .int .i64 (s).x, .int .i64 (s).y, .int .i64 (s).z] 24)).alloc (.cells #[.int .i64 (r).f, .int .i64 (r).t, .int .i64 (r).k, .int .i64 (r).ep, .int .i64 (r).x, .int .i64 (r).y, .int .i64 (r).z] 24)).alloc (.cells #[.int .i64 x.e, .int .i64 x.d, .int .i64 x.x, .int .i64 x.y, .int .i64 x.z, .int .i64 y.e, .int .i64 y.d, .int .i64 y.x, .int .i64 y.y, .int .i64 y.z] 39)) (w.heap.size + 1 + 1) (x, y) := by simp [Box2, go_sem]
  have G : Hid (Grow w (((w.alloc (.cells #[.int .i64 (s).f, .int .i64 (s).t, .int .i64 (s).k, .int .i64 (s).ep, .int .i64 (s).x, .int .i64 (s).y, .int .i64 (s).z] 24)).alloc (.cells #[.int .i64 (r).f, .int .i64 (r).t, .int .i64 (r).k, .int .i64 (r).ep, .int .i64 (r).x, .int .i64 (r).y, .int .i64 (r).z] 24)).alloc (.cells #[.int .i64 x.e, .int .i64 x.d, .int .i64 x.x, .int .i64 x.y, .int .i64 x.z, .int .i64 y.e, .int .i64 y.d, .int .i64 y.x, .int .i64 y.y, .int .i64 y.z] 39))) := hide (Grow.trans' (Grow.trans' (Grow.alloc' _ _) (Grow.alloc' _ _)) (Grow.alloc' _ _))
  have HS := hide KS
  have HR := hide KR
  have HX := hide KX
  obtain ⟨s_0, s_1, s_2, s_3, s_4, s_5, s_6⟩ := KS
  obtain ⟨r_0, r_1, r_2, r_3, r_4, r_5, r_6⟩ := KR
  obtain ⟨x_0, x_1, x_2, x_3, x_4, x_5, x_6, x_7, x_8, x_9⟩ := KX
  go_wp2_with fail
  refine (shown_any _).mono ?_
  rintro e w1 ⟨rfl, hb⟩
  clear s_0 s_1 s_2 s_3 s_4 s_5 s_6 r_0 r_1 r_2 r_3 r_4 r_5 r_6 x_0 x_1 x_2 x_3 x_4 x_5 x_6 x_7 x_8 x_9
  have KS : SBox w1 w.heap.size (s) := HS.out.later hb
  have KR : SBox w1 (w.heap.size + 1) (r) := HR.out.later hb
  have KX : Box2 w1 (w.heap.size + 1 + 1) ((x, y)) := HX.out.later hb
  have G : Hid (Grow w w1) := hide (Grow.trans' G.out hb)
  clear hb HS HR HX
  have HS := hide KS
  have HR := hide KR
  have HX := hide KX
  obtain ⟨s_0, s_1, s_2, s_3, s_4, s_5, s_6⟩ := KS
  obtain ⟨r_0, r_1, r_2, r_3, r_4, r_5, r_6⟩ := KR
  obtain ⟨x_0, x_1, x_2, x_3, x_4, x_5, x_6, x_7, x_8, x_9⟩ := KX
  go_wp2_with fail
  refine (sMayC (s) true h1.out _).mono ?_
  rintro e w2 ⟨rfl, hb⟩
  clear s_0 s_1 s_2 s_3 s_4 s_5 s_6 r_0 r_1 r_2 r_3 r_4 r_5 r_6 x_0 x_1 x_2 x_3 x_4 x_5 x_6 x_7 x_8 x_9
  have KS : SBox w2 w.heap.size (s) := HS.out.later hb
  have KR : SBox w2 (w.heap.size + 1) (r) := HR.out.later hb
  have KX : Box2 w2 (w.heap.size + 1 + 1) ((x, y)) := HX.out.later hb
  have G : Hid (Grow w w2) := hide (Grow.trans' G.out hb)
  clear hb HS HR HX
  have HS := hide KS
  have HR := hide KR
  have HX := hide KX
  obtain ⟨s_0, s_1, s_2, s_3, s_4, s_5, s_6⟩ := KS
  obtain ⟨r_0, r_1, r_2, r_3, r_4, r_5, r_6⟩ := KR
  obtain ⟨x_0, x_1, x_2, x_3, x_4, x_5, x_6, x_7, x_8, x_9⟩ := KX
  go_wp2_with fail
  refine (sMayC (r) true h2.out _).mono ?_
  rintro e w3 ⟨rfl, hb⟩
  clear s_0 s_1 s_2 s_3 s_4 s_5 s_6 r_0 r_1 r_2 r_3 r_4 r_5 r_6 x_0 x_1 x_2 x_3 x_4 x_5 x_6 x_7 x_8 x_9
  have KS : SBox w3 w.heap.size (s) := HS.out.later hb
  have KR : SBox w3 (w.heap.size + 1) (r) := HR.out.later hb
  have KX : Box2 w3 (w.heap.size + 1 + 1) ((x, y)) := HX.out.later hb
  have G : Hid (Grow w w3) := hide (Grow.trans' G.out hb)
  clear hb HS HR HX
  have HS := hide KS
  have HR := hide KR
  have HX := hide KX
  obtain ⟨s_0, s_1, s_2, s_3, s_4, s_5, s_6⟩ := KS
  obtain ⟨r_0, r_1, r_2, r_3, r_4, r_5, r_6⟩ := KR
  obtain ⟨x_0, x_1, x_2, x_3, x_4, x_5, x_6, x_7, x_8, x_9⟩ := KX
  go_wp2_with fail
  refine (apply_at (s) x A 0 hA.out hE.out _).mono ?_
  rintro e w4 ⟨rfl, hb⟩
  clear s_0 s_1 s_2 s_3 s_4 s_5 s_6 r_0 r_1 r_2 r_3 r_4 r_5 r_6 x_0 x_1 x_2 x_3 x_4 x_5 x_6 x_7 x_8 x_9
  have KS : SBox (w4.alloc (.cells #[.int .i64 (A).e, .int .i64 (A).d, .int .i64 (A).x, .int .i64 (A).y, .int .i64 (A).z] 30)) w.heap.size (s) := (HS.out.later hb).later (Grow.alloc' _ _)
  have KR : SBox (w4.alloc (.cells #[.int .i64 (A).e, .int .i64 (A).d, .int .i64 (A).x, .int .i64 (A).y, .int .i64 (A).z] 30)) (w.heap.size + 1) (r) := (HR.out.later hb).later (Grow.alloc' _ _)
  have KX : Box2 (w4.alloc (.cells #[.int .i64 (A).e, .int .i64 (A).d, .int .i64 (A).x, .int .i64 (A).y, .int .i64 (A).z] 30)) (w.heap.size + 1 + 1) ((x, y)) := (HX.out.later hb).later (Grow.alloc' _ _)
  have KA : Box (w4.alloc (.cells #[.int .i64 (A).e, .int .i64 (A).d, .int .i64 (A).x, .int .i64 (A).y, .int .i64 (A).z] 30)) w4.heap.size (A) := Box.new _ _
  have G : Hid (Grow w (w4.alloc (.cells #[.int .i64 (A).e, .int .i64 (A).d, .int .i64 (A).x, .int .i64 (A).y, .int .i64 (A).z] 30))) := hide (Grow.trans' (Grow.trans' G.out hb) (Grow.alloc' _ _))
  clear hb HS HR HX
  have HS := hide KS
  have HR := hide KR
  have HX := hide KX
  have HA := hide KA
  obtain ⟨s_0, s_1, s_2, s_3, s_4, s_5, s_6⟩ := KS
  obtain ⟨r_0, r_1, r_2, r_3, r_4, r_5, r_6⟩ := KR
  obtain ⟨x_0, x_1, x_2, x_3, x_4, x_5, x_6, x_7, x_8, x_9⟩ := KX
  obtain ⟨a_0, a_1, a_2, a_3, a_4⟩ := KA
  go_wp2_with fail
  refine (apply_at (r) x B F hB.out hF.out _).mono ?_
  rintro e w5 ⟨rfl, hb⟩
  clear s_0 s_1 s_2 s_3 s_4 s_5 s_6 r_0 r_1 r_2 r_3 r_4 r_5 r_6 x_0 x_1 x_2 x_3 x_4 x_5 x_6 x_7 x_8 x_9 a_0 a_1 a_2 a_3 a_4
  have KS : SBox (w5.alloc (.cells #[.int .i64 (B).e, .int .i64 (B).d, .int .i64 (B).x, .int .i64 (B).y, .int .i64 (B).z] 30)) w.heap.size (s) := (HS.out.later hb).later (Grow.alloc' _ _)
  have KR : SBox (w5.alloc (.cells #[.int .i64 (B).e, .int .i64 (B).d, .int .i64 (B).x, .int .i64 (B).y, .int .i64 (B).z] 30)) (w.heap.size + 1) (r) := (HR.out.later hb).later (Grow.alloc' _ _)
  have KX : Box2 (w5.alloc (.cells #[.int .i64 (B).e, .int .i64 (B).d, .int .i64 (B).x, .int .i64 (B).y, .int .i64 (B).z] 30)) (w.heap.size + 1 + 1) ((x, y)) := (HX.out.later hb).later (Grow.alloc' _ _)
  have KA : Box (w5.alloc (.cells #[.int .i64 (B).e, .int .i64 (B).d, .int .i64 (B).x, .int .i64 (B).y, .int .i64 (B).z] 30)) w4.heap.size (A) := (HA.out.later hb).later (Grow.alloc' _ _)
  have KB : Box (w5.alloc (.cells #[.int .i64 (B).e, .int .i64 (B).d, .int .i64 (B).x, .int .i64 (B).y, .int .i64 (B).z] 30)) w5.heap.size (B) := Box.new _ _
  have G : Hid (Grow w (w5.alloc (.cells #[.int .i64 (B).e, .int .i64 (B).d, .int .i64 (B).x, .int .i64 (B).y, .int .i64 (B).z] 30))) := hide (Grow.trans' (Grow.trans' G.out hb) (Grow.alloc' _ _))
  clear hb HS HR HX HA
  have HS := hide KS
  have HR := hide KR
  have HX := hide KX
  have HA := hide KA
  have HB := hide KB
  obtain ⟨s_0, s_1, s_2, s_3, s_4, s_5, s_6⟩ := KS
  obtain ⟨r_0, r_1, r_2, r_3, r_4, r_5, r_6⟩ := KR
  obtain ⟨x_0, x_1, x_2, x_3, x_4, x_5, x_6, x_7, x_8, x_9⟩ := KX
  obtain ⟨a_0, a_1, a_2, a_3, a_4⟩ := KA
  obtain ⟨b_0, b_1, b_2, b_3, b_4⟩ := KB
  go_wp2_with fail
  refine (apply_at (s) y C 0 hC.out hL.out _).mono ?_
  rintro e w6 ⟨rfl, hb⟩
  clear s_0 s_1 s_2 s_3 s_4 s_5 s_6 r_0 r_1 r_2 r_3 r_4 r_5 r_6 x_0 x_1 x_2 x_3 x_4 x_5 x_6 x_7 x_8 x_9 a_0 a_1 a_2 a_3 a_4 b_0 b_1 b_2 b_3 b_4
  have KS : SBox (w6.alloc (.cells #[.int .i64 (C).e, .int .i64 (C).d, .int .i64 (C).x, .int .i64 (C).y, .int .i64 (C).z] 30)) w.heap.size (s) := (HS.out.later hb).later (Grow.alloc' _ _)
  have KR : SBox (w6.alloc (.cells #[.int .i64 (C).e, .int .i64 (C).d, .int .i64 (C).x, .int .i64 (C).y, .int .i64 (C).z] 30)) (w.heap.size + 1) (r) := (HR.out.later hb).later (Grow.alloc' _ _)
  have KX : Box2 (w6.alloc (.cells #[.int .i64 (C).e, .int .i64 (C).d, .int .i64 (C).x, .int .i64 (C).y, .int .i64 (C).z] 30)) (w.heap.size + 1 + 1) ((x, y)) := (HX.out.later hb).later (Grow.alloc' _ _)
  have KA : Box (w6.alloc (.cells #[.int .i64 (C).e, .int .i64 (C).d, .int .i64 (C).x, .int .i64 (C).y, .int .i64 (C).z] 30)) w4.heap.size (A) := (HA.out.later hb).later (Grow.alloc' _ _)
  have KB : Box (w6.alloc (.cells #[.int .i64 (C).e, .int .i64 (C).d, .int .i64 (C).x, .int .i64 (C).y, .int .i64 (C).z] 30)) w5.heap.size (B) := (HB.out.later hb).later (Grow.alloc' _ _)
  have KC : Box (w6.alloc (.cells #[.int .i64 (C).e, .int .i64 (C).d, .int .i64 (C).x, .int .i64 (C).y, .int .i64 (C).z] 30)) w6.heap.size (C) := Box.new _ _
  have G : Hid (Grow w (w6.alloc (.cells #[.int .i64 (C).e, .int .i64 (C).d, .int .i64 (C).x, .int .i64 (C).y, .int .i64 (C).z] 30))) := hide (Grow.trans' (Grow.trans' G.out hb) (Grow.alloc' _ _))
  clear hb HS HR HX HA HB
  have HS := hide KS
  have HR := hide KR
  have HX := hide KX
  have HA := hide KA
  have HB := hide KB
  have HC := hide KC
  obtain ⟨s_0, s_1, s_2, s_3, s_4, s_5, s_6⟩ := KS
  obtain ⟨r_0, r_1, r_2, r_3, r_4, r_5, r_6⟩ := KR
  obtain ⟨x_0, x_1, x_2, x_3, x_4, x_5, x_6, x_7, x_8, x_9⟩ := KX
  obtain ⟨a_0, a_1, a_2, a_3, a_4⟩ := KA
  obtain ⟨b_0, b_1, b_2, b_3, b_4⟩ := KB
  obtain ⟨c_0, c_1, c_2, c_3, c_4⟩ := KC
  go_wp2_with fail
  refine (refLeC A B p hp.out _).mono ?_
  rintro e w7 ⟨rfl, hb⟩
  clear s_0 s_1 s_2 s_3 s_4 s_5 s_6 r_0 r_1 r_2 r_3 r_4 r_5 r_6 x_0 x_1 x_2 x_3 x_4 x_5 x_6 x_7 x_8 x_9 a_0 a_1 a_2 a_3 a_4 b_0 b_1 b_2 b_3 b_4 c_0 c_1 c_2 c_3 c_4
  have KS : SBox w7 w.heap.size (s) := HS.out.later hb
  have KR : SBox w7 (w.heap.size + 1) (r) := HR.out.later hb
  have KX : Box2 w7 (w.heap.size + 1 + 1) ((x, y)) := HX.out.later hb
  have KA : Box w7 w4.heap.size (A) := HA.out.later hb
  have KB : Box w7 w5.heap.size (B) := HB.out.later hb
  have KC : Box w7 w6.heap.size (C) := HC.out.later hb
  have G : Hid (Grow w w7) := hide (Grow.trans' G.out hb)
  clear hb HS HR HX HA HB HC
  have HS := hide KS
  have HR := hide KR
  have HX := hide KX
  have HA := hide KA
  have HB := hide KB
  have HC := hide KC
  obtain ⟨s_0, s_1, s_2, s_3, s_4, s_5, s_6⟩ := KS
  obtain ⟨r_0, r_1, r_2, r_3, r_4, r_5, r_6⟩ := KR
  obtain ⟨x_0, x_1, x_2, x_3, x_4, x_5, x_6, x_7, x_8, x_9⟩ := KX
  obtain ⟨a_0, a_1, a_2, a_3, a_4⟩ := KA
  obtain ⟨b_0, b_1, b_2, b_3, b_4⟩ := KB
  obtain ⟨c_0, c_1, c_2, c_3, c_4⟩ := KC
  go_wp2_with fail
  refine (refLeC x y true hu.out _).mono ?_
  rintro e w8 ⟨rfl, hb⟩
  clear s_0 s_1 s_2 s_3 s_4 s_5 s_6 r_0 r_1 r_2 r_3 r_4 r_5 r_6 x_0 x_1 x_2 x_3 x_4 x_5 x_6 x_7 x_8 x_9 a_0 a_1 a_2 a_3 a_4 b_0 b_1 b_2 b_3 b_4 c_0 c_1 c_2 c_3 c_4
  have KS : SBox w8 w.heap.size (s) := HS.out.later hb
  have KR : SBox w8 (w.heap.size + 1) (r) := HR.out.later hb
  have KX : Box2 w8 (w.heap.size + 1 + 1) ((x, y)) := HX.out.later hb
  have KA : Box w8 w4.heap.size (A) := HA.out.later hb
  have KB : Box w8 w5.heap.size (B) := HB.out.later hb
  have KC : Box w8 w6.heap.size (C) := HC.out.later hb
  have G : Hid (Grow w w8) := hide (Grow.trans' G.out hb)
  clear hb HS HR HX HA HB HC
  have HS := hide KS
  have HR := hide KR
  have HX := hide KX
  have HA := hide KA
  have HB := hide KB
  have HC := hide KC
  obtain ⟨s_0, s_1, s_2, s_3, s_4, s_5, s_6⟩ := KS
  obtain ⟨r_0, r_1, r_2, r_3, r_4, r_5, r_6⟩ := KR
  obtain ⟨x_0, x_1, x_2, x_3, x_4, x_5, x_6, x_7, x_8, x_9⟩ := KX
  obtain ⟨a_0, a_1, a_2, a_3, a_4⟩ := KA
  obtain ⟨b_0, b_1, b_2, b_3, b_4⟩ := KB
  obtain ⟨c_0, c_1, c_2, c_3, c_4⟩ := KC
  go_wp2_with fail
  refine (refLeC A C true hm.out _).mono ?_
  rintro e w9 ⟨rfl, hb⟩
  clear s_0 s_1 s_2 s_3 s_4 s_5 s_6 r_0 r_1 r_2 r_3 r_4 r_5 r_6 x_0 x_1 x_2 x_3 x_4 x_5 x_6 x_7 x_8 x_9 a_0 a_1 a_2 a_3 a_4 b_0 b_1 b_2 b_3 b_4 c_0 c_1 c_2 c_3 c_4
  have KS : SBox w9 w.heap.size (s) := HS.out.later hb
  have KR : SBox w9 (w.heap.size + 1) (r) := HR.out.later hb
  have KX : Box2 w9 (w.heap.size + 1 + 1) ((x, y)) := HX.out.later hb
  have KA : Box w9 w4.heap.size (A) := HA.out.later hb
  have KB : Box w9 w5.heap.size (B) := HB.out.later hb
  have KC : Box w9 w6.heap.size (C) := HC.out.later hb
  have G : Hid (Grow w w9) := hide (Grow.trans' G.out hb)
  clear hb HS HR HX HA HB HC
  have HS := hide KS
  have HR := hide KR
  have HX := hide KX
  have HA := hide KA
  have HB := hide KB
  have HC := hide KC
  obtain ⟨s_0, s_1, s_2, s_3, s_4, s_5, s_6⟩ := KS
  obtain ⟨r_0, r_1, r_2, r_3, r_4, r_5, r_6⟩ := KR
  obtain ⟨x_0, x_1, x_2, x_3, x_4, x_5, x_6, x_7, x_8, x_9⟩ := KX
  obtain ⟨a_0, a_1, a_2, a_3, a_4⟩ := KA
  obtain ⟨b_0, b_1, b_2, b_3, b_4⟩ := KB
  obtain ⟨c_0, c_1, c_2, c_3, c_4⟩ := KC
  go_wp2_with fail
  refine (sLeC (s) (r) false hl.out _).mono ?_
  rintro e w10 ⟨rfl, hb⟩
  clear s_0 s_1 s_2 s_3 s_4 s_5 s_6 r_0 r_1 r_2 r_3 r_4 r_5 r_6 x_0 x_1 x_2 x_3 x_4 x_5 x_6 x_7 x_8 x_9 a_0 a_1 a_2 a_3 a_4 b_0 b_1 b_2 b_3 b_4 c_0 c_1 c_2 c_3 c_4
  have KS : SBox w10 w.heap.size (s) := HS.out.later hb
  have KR : SBox w10 (w.heap.size + 1) (r) := HR.out.later hb
  have KX : Box2 w10 (w.heap.size + 1 + 1) ((x, y)) := HX.out.later hb
  have KA : Box w10 w4.heap.size (A) := HA.out.later hb
  have KB : Box w10 w5.heap.size (B) := HB.out.later hb
  have KC : Box w10 w6.heap.size (C) := HC.out.later hb
  have G : Hid (Grow w w10) := hide (Grow.trans' G.out hb)
  clear hb HS HR HX HA HB HC
  
  obtain ⟨s0, s1, s2, s3, s4, s5, s6⟩ := KS
  obtain ⟨r0, r1, r2, r3, r4, r5, r6⟩ := KR
  clear KA KB KC KX
  
  go_wp2_with fail
  
  refine (sLeC s s true hss.out _).mono ?_
  rintro e w20 ⟨rfl, hb⟩
  have G := hide (Grow.trans' G.out hb)
  clear s0 s1 s2 s3 s4 s5 s6 r0 r1 r2 r3 r4 r5 r6 hb
  go_wp2
  go_ret
  exact ⟨rfl, G.out⟩
set_option maxHeartbeats 1000000 in
set_option maxRecDepth 100000 in
theorem SummaryLess_ct1 (s r : Sm) (x y : Tm) (A B C : Tm) (E F L : Int) (p m : Bool) (w : World) (h1 : Hid (mayS (s) = true)) (h2 : Hid (mayS (r) = true)) (hA : Hid (applyT (s) x = A)) (hE : Hid (applyE (s) x = E)) (hB : Hid (applyT (r) x = B)) (hF : Hid (applyE (r) x = F)) (hC : Hid (applyT (s) y = C)) (hL : Hid (applyE (s) y = L)) (hp : Hid (leB A B = p)) (hu : Hid (leB x y = false)) (hm : Hid (leB A C = m)) (hl : Hid (leS (s) (r) = false)) (k2 : s.f = r.f) (k3 : ¬ s.t = r.t) (hss : Hid (leS s s = true)) :
    Calls Try.prog 7 #[.agg #[.int .i64 (s).f, .int .i64 (s).t, .int .i64 (s).k, .int .i64 (s).ep, .int .i64 (s).x, .int .i64 (s).y, .int .i64 (s).z], .agg #[.int .i64 (r).f, .int .i64 (r).t, .int .i64 (r).k, .int .i64 (r).ep, .int .i64 (r).x, .int .i64 (r).y, .int .i64 (r).z], .agg #[.int .i64 x.e, .int .i64 x.d, .int .i64 x.x, .int .i64 x.y, .int .i64 x.z, .int .i64 y.e, .int .i64 y.d, .int .i64 y.x, .int .i64 y.y, .int .i64 y.z]] w fun e w' => e = .returned (.bool true) ∧ Below w.heap.size w w' := by
  have K2 := hide k2
  clear k2
  go_enter Try.func7, Try.ntmps7
  have KS : SBox (((w.alloc (.cells #[.int .i64 (s).f, .int .i64 (s).t, .int .i64 (s).k, .int .i64 (s).ep, .int .i64 (s).x, .int .i64 (s).y, .int .i64 (s).z] 24)).alloc (.cells #[.int .i64 (r).f, .int .i64 (r).t, .int .i64 (r).k, .int .i64 (r).ep, .int .i64 (r).x, .int .i64 (r).y, .int .i64 (r).z] 24)).alloc (.cells #[.int .i64 x.e, .int .i64 x.d, .int .i64 x.x, .int .i64 x.y, .int .i64 x.z, .int .i64 y.e, .int .i64 y.d, .int .i64 y.x, .int .i64 y.y, .int .i64 y.z] 39)) w.heap.size (s) := by simp [SBox, go_sem]
  have KR : SBox (((w.alloc (.cells #[.int .i64 (s).f, .int .i64 (s).t, .int .i64 (s).k, .int .i64 (s).ep, .int .i64 (s).x, .int .i64 (s).y, .int .i64 (s).z] 24)).alloc (.cells #[.int .i64 (r).f, .int .i64 (r).t, .int .i64 (r).k, .int .i64 (r).ep, .int .i64 (r).x, .int .i64 (r).y, .int .i64 (r).z] 24)).alloc (.cells #[.int .i64 x.e, .int .i64 x.d, .int .i64 x.x, .int .i64 x.y, .int .i64 x.z, .int .i64 y.e, .int .i64 y.d, .int .i64 y.x, .int .i64 y.y, .int .i64 y.z] 39)) (w.heap.size + 1) (r) := by simp [SBox, go_sem]
  have KX : Box2 (((w.alloc (.cells #[.int .i64 (s).f, .int .i64 (s).t, .int .i64 (s).k, .int .i64 (s).ep, .int .i64 (s).x, .int .i64 (s).y, .int .i64 (s).z] 24)).alloc (.cells #[.int .i64 (r).f, .int .i64 (r).t, .int .i64 (r).k, .int .i64 (r).ep, .int .i64 (r).x, .int .i64 (r).y, .int .i64 (r).z] 24)).alloc (.cells #[.int .i64 x.e, .int .i64 x.d, .int .i64 x.x, .int .i64 x.y, .int .i64 x.z, .int .i64 y.e, .int .i64 y.d, .int .i64 y.x, .int .i64 y.y, .int .i64 y.z] 39)) (w.heap.size + 1 + 1) (x, y) := by simp [Box2, go_sem]
  have G : Hid (Grow w (((w.alloc (.cells #[.int .i64 (s).f, .int .i64 (s).t, .int .i64 (s).k, .int .i64 (s).ep, .int .i64 (s).x, .int .i64 (s).y, .int .i64 (s).z] 24)).alloc (.cells #[.int .i64 (r).f, .int .i64 (r).t, .int .i64 (r).k, .int .i64 (r).ep, .int .i64 (r).x, .int .i64 (r).y, .int .i64 (r).z] 24)).alloc (.cells #[.int .i64 x.e, .int .i64 x.d, .int .i64 x.x, .int .i64 x.y, .int .i64 x.z, .int .i64 y.e, .int .i64 y.d, .int .i64 y.x, .int .i64 y.y, .int .i64 y.z] 39))) := hide (Grow.trans' (Grow.trans' (Grow.alloc' _ _) (Grow.alloc' _ _)) (Grow.alloc' _ _))
  have HS := hide KS
  have HR := hide KR
  have HX := hide KX
  obtain ⟨s_0, s_1, s_2, s_3, s_4, s_5, s_6⟩ := KS
  obtain ⟨r_0, r_1, r_2, r_3, r_4, r_5, r_6⟩ := KR
  obtain ⟨x_0, x_1, x_2, x_3, x_4, x_5, x_6, x_7, x_8, x_9⟩ := KX
  go_wp2_with fail
  refine (shown_any _).mono ?_
  rintro e w1 ⟨rfl, hb⟩
  clear s_0 s_1 s_2 s_3 s_4 s_5 s_6 r_0 r_1 r_2 r_3 r_4 r_5 r_6 x_0 x_1 x_2 x_3 x_4 x_5 x_6 x_7 x_8 x_9
  have KS : SBox w1 w.heap.size (s) := HS.out.later hb
  have KR : SBox w1 (w.heap.size + 1) (r) := HR.out.later hb
  have KX : Box2 w1 (w.heap.size + 1 + 1) ((x, y)) := HX.out.later hb
  have G : Hid (Grow w w1) := hide (Grow.trans' G.out hb)
  clear hb HS HR HX
  have HS := hide KS
  have HR := hide KR
  have HX := hide KX
  obtain ⟨s_0, s_1, s_2, s_3, s_4, s_5, s_6⟩ := KS
  obtain ⟨r_0, r_1, r_2, r_3, r_4, r_5, r_6⟩ := KR
  obtain ⟨x_0, x_1, x_2, x_3, x_4, x_5, x_6, x_7, x_8, x_9⟩ := KX
  go_wp2_with fail
  refine (sMayC (s) true h1.out _).mono ?_
  rintro e w2 ⟨rfl, hb⟩
  clear s_0 s_1 s_2 s_3 s_4 s_5 s_6 r_0 r_1 r_2 r_3 r_4 r_5 r_6 x_0 x_1 x_2 x_3 x_4 x_5 x_6 x_7 x_8 x_9
  have KS : SBox w2 w.heap.size (s) := HS.out.later hb
  have KR : SBox w2 (w.heap.size + 1) (r) := HR.out.later hb
  have KX : Box2 w2 (w.heap.size + 1 + 1) ((x, y)) := HX.out.later hb
  have G : Hid (Grow w w2) := hide (Grow.trans' G.out hb)
  clear hb HS HR HX
  have HS := hide KS
  have HR := hide KR
  have HX := hide KX
  obtain ⟨s_0, s_1, s_2, s_3, s_4, s_5, s_6⟩ := KS
  obtain ⟨r_0, r_1, r_2, r_3, r_4, r_5, r_6⟩ := KR
  obtain ⟨x_0, x_1, x_2, x_3, x_4, x_5, x_6, x_7, x_8, x_9⟩ := KX
  go_wp2_with fail
  refine (sMayC (r) true h2.out _).mono ?_
  rintro e w3 ⟨rfl, hb⟩
  clear s_0 s_1 s_2 s_3 s_4 s_5 s_6 r_0 r_1 r_2 r_3 r_4 r_5 r_6 x_0 x_1 x_2 x_3 x_4 x_5 x_6 x_7 x_8 x_9
  have KS : SBox w3 w.heap.size (s) := HS.out.later hb
  have KR : SBox w3 (w.heap.size + 1) (r) := HR.out.later hb
  have KX : Box2 w3 (w.heap.size + 1 + 1) ((x, y)) := HX.out.later hb
  have G : Hid (Grow w w3) := hide (Grow.trans' G.out hb)
  clear hb HS HR HX
  have HS := hide KS
  have HR := hide KR
  have HX := hide KX
  obtain ⟨s_0, s_1, s_2, s_3, s_4, s_5, s_6⟩ := KS
  obtain ⟨r_0, r_1, r_2, r_3, r_4, r_5, r_6⟩ := KR
  obtain ⟨x_0, x_1, x_2, x_3, x_4, x_5, x_6, x_7, x_8, x_9⟩ := KX
  go_wp2_with fail
  refine (apply_at (s) x A E hA.out hE.out _).mono ?_
  rintro e w4 ⟨rfl, hb⟩
  clear s_0 s_1 s_2 s_3 s_4 s_5 s_6 r_0 r_1 r_2 r_3 r_4 r_5 r_6 x_0 x_1 x_2 x_3 x_4 x_5 x_6 x_7 x_8 x_9
  have KS : SBox (w4.alloc (.cells #[.int .i64 (A).e, .int .i64 (A).d, .int .i64 (A).x, .int .i64 (A).y, .int .i64 (A).z] 30)) w.heap.size (s) := (HS.out.later hb).later (Grow.alloc' _ _)
  have KR : SBox (w4.alloc (.cells #[.int .i64 (A).e, .int .i64 (A).d, .int .i64 (A).x, .int .i64 (A).y, .int .i64 (A).z] 30)) (w.heap.size + 1) (r) := (HR.out.later hb).later (Grow.alloc' _ _)
  have KX : Box2 (w4.alloc (.cells #[.int .i64 (A).e, .int .i64 (A).d, .int .i64 (A).x, .int .i64 (A).y, .int .i64 (A).z] 30)) (w.heap.size + 1 + 1) ((x, y)) := (HX.out.later hb).later (Grow.alloc' _ _)
  have KA : Box (w4.alloc (.cells #[.int .i64 (A).e, .int .i64 (A).d, .int .i64 (A).x, .int .i64 (A).y, .int .i64 (A).z] 30)) w4.heap.size (A) := Box.new _ _
  have G : Hid (Grow w (w4.alloc (.cells #[.int .i64 (A).e, .int .i64 (A).d, .int .i64 (A).x, .int .i64 (A).y, .int .i64 (A).z] 30))) := hide (Grow.trans' (Grow.trans' G.out hb) (Grow.alloc' _ _))
  clear hb HS HR HX
  have HS := hide KS
  have HR := hide KR
  have HX := hide KX
  have HA := hide KA
  obtain ⟨s_0, s_1, s_2, s_3, s_4, s_5, s_6⟩ := KS
  obtain ⟨r_0, r_1, r_2, r_3, r_4, r_5, r_6⟩ := KR
  obtain ⟨x_0, x_1, x_2, x_3, x_4, x_5, x_6, x_7, x_8, x_9⟩ := KX
  obtain ⟨a_0, a_1, a_2, a_3, a_4⟩ := KA
  go_wp2_with fail
  refine (apply_at (r) x B F hB.out hF.out _).mono ?_
  rintro e w5 ⟨rfl, hb⟩
  clear s_0 s_1 s_2 s_3 s_4 s_5 s_6 r_0 r_1 r_2 r_3 r_4 r_5 r_6 x_0 x_1 x_2 x_3 x_4 x_5 x_6 x_7 x_8 x_9 a_0 a_1 a_2 a_3 a_4
  have KS : SBox (w5.alloc (.cells #[.int .i64 (B).e, .int .i64 (B).d, .int .i64 (B).x, .int .i64 (B).y, .int .i64 (B).z] 30)) w.heap.size (s) := (HS.out.later hb).later (Grow.alloc' _ _)
  have KR : SBox (w5.alloc (.cells #[.int .i64 (B).e, .int .i64 (B).d, .int .i64 (B).x, .int .i64 (B).y, .int .i64 (B).z] 30)) (w.heap.size + 1) (r) := (HR.out.later hb).later (Grow.alloc' _ _)
  have KX : Box2 (w5.alloc (.cells #[.int .i64 (B).e, .int .i64 (B).d, .int .i64 (B).x, .int .i64 (B).y, .int .i64 (B).z] 30)) (w.heap.size + 1 + 1) ((x, y)) := (HX.out.later hb).later (Grow.alloc' _ _)
  have KA : Box (w5.alloc (.cells #[.int .i64 (B).e, .int .i64 (B).d, .int .i64 (B).x, .int .i64 (B).y, .int .i64 (B).z] 30)) w4.heap.size (A) := (HA.out.later hb).later (Grow.alloc' _ _)
  have KB : Box (w5.alloc (.cells #[.int .i64 (B).e, .int .i64 (B).d, .int .i64 (B).x, .int .i64 (B).y, .int .i64 (B).z] 30)) w5.heap.size (B) := Box.new _ _
  have G : Hid (Grow w (w5.alloc (.cells #[.int .i64 (B).e, .int .i64 (B).d, .int .i64 (B).x, .int .i64 (B).y, .int .i64 (B).z] 30))) := hide (Grow.trans' (Grow.trans' G.out hb) (Grow.alloc' _ _))
  clear hb HS HR HX HA
  have HS := hide KS
  have HR := hide KR
  have HX := hide KX
  have HA := hide KA
  have HB := hide KB
  obtain ⟨s_0, s_1, s_2, s_3, s_4, s_5, s_6⟩ := KS
  obtain ⟨r_0, r_1, r_2, r_3, r_4, r_5, r_6⟩ := KR
  obtain ⟨x_0, x_1, x_2, x_3, x_4, x_5, x_6, x_7, x_8, x_9⟩ := KX
  obtain ⟨a_0, a_1, a_2, a_3, a_4⟩ := KA
  obtain ⟨b_0, b_1, b_2, b_3, b_4⟩ := KB
  go_wp2_with fail
  refine (apply_at (s) y C L hC.out hL.out _).mono ?_
  rintro e w6 ⟨rfl, hb⟩
  clear s_0 s_1 s_2 s_3 s_4 s_5 s_6 r_0 r_1 r_2 r_3 r_4 r_5 r_6 x_0 x_1 x_2 x_3 x_4 x_5 x_6 x_7 x_8 x_9 a_0 a_1 a_2 a_3 a_4 b_0 b_1 b_2 b_3 b_4
  have KS : SBox (w6.alloc (.cells #[.int .i64 (C).e, .int .i64 (C).d, .int .i64 (C).x, .int .i64 (C).y, .int .i64 (C).z] 30)) w.heap.size (s) := (HS.out.later hb).later (Grow.alloc' _ _)
  have KR : SBox (w6.alloc (.cells #[.int .i64 (C).e, .int .i64 (C).d, .int .i64 (C).x, .int .i64 (C).y, .int .i64 (C).z] 30)) (w.heap.size + 1) (r) := (HR.out.later hb).later (Grow.alloc' _ _)
  have KX : Box2 (w6.alloc (.cells #[.int .i64 (C).e, .int .i64 (C).d, .int .i64 (C).x, .int .i64 (C).y, .int .i64 (C).z] 30)) (w.heap.size + 1 + 1) ((x, y)) := (HX.out.later hb).later (Grow.alloc' _ _)
  have KA : Box (w6.alloc (.cells #[.int .i64 (C).e, .int .i64 (C).d, .int .i64 (C).x, .int .i64 (C).y, .int .i64 (C).z] 30)) w4.heap.size (A) := (HA.out.later hb).later (Grow.alloc' _ _)
  have KB : Box (w6.alloc (.cells #[.int .i64 (C).e, .int .i64 (C).d, .int .i64 (C).x, .int .i64 (C).y, .int .i64 (C).z] 30)) w5.heap.size (B) := (HB.out.later hb).later (Grow.alloc' _ _)
  have KC : Box (w6.alloc (.cells #[.int .i64 (C).e, .int .i64 (C).d, .int .i64 (C).x, .int .i64 (C).y, .int .i64 (C).z] 30)) w6.heap.size (C) := Box.new _ _
  have G : Hid (Grow w (w6.alloc (.cells #[.int .i64 (C).e, .int .i64 (C).d, .int .i64 (C).x, .int .i64 (C).y, .int .i64 (C).z] 30))) := hide (Grow.trans' (Grow.trans' G.out hb) (Grow.alloc' _ _))
  clear hb HS HR HX HA HB
  have HS := hide KS
  have HR := hide KR
  have HX := hide KX
  have HA := hide KA
  have HB := hide KB
  have HC := hide KC
  obtain ⟨s_0, s_1, s_2, s_3, s_4, s_5, s_6⟩ := KS
  obtain ⟨r_0, r_1, r_2, r_3, r_4, r_5, r_6⟩ := KR
  obtain ⟨x_0, x_1, x_2, x_3, x_4, x_5, x_6, x_7, x_8, x_9⟩ := KX
  obtain ⟨a_0, a_1, a_2, a_3, a_4⟩ := KA
  obtain ⟨b_0, b_1, b_2, b_3, b_4⟩ := KB
  obtain ⟨c_0, c_1, c_2, c_3, c_4⟩ := KC
  go_wp2_with fail
  refine (refLeC A B p hp.out _).mono ?_
  rintro e w7 ⟨rfl, hb⟩
  clear s_0 s_1 s_2 s_3 s_4 s_5 s_6 r_0 r_1 r_2 r_3 r_4 r_5 r_6 x_0 x_1 x_2 x_3 x_4 x_5 x_6 x_7 x_8 x_9 a_0 a_1 a_2 a_3 a_4 b_0 b_1 b_2 b_3 b_4 c_0 c_1 c_2 c_3 c_4
  have KS : SBox w7 w.heap.size (s) := HS.out.later hb
  have KR : SBox w7 (w.heap.size + 1) (r) := HR.out.later hb
  have KX : Box2 w7 (w.heap.size + 1 + 1) ((x, y)) := HX.out.later hb
  have KA : Box w7 w4.heap.size (A) := HA.out.later hb
  have KB : Box w7 w5.heap.size (B) := HB.out.later hb
  have KC : Box w7 w6.heap.size (C) := HC.out.later hb
  have G : Hid (Grow w w7) := hide (Grow.trans' G.out hb)
  clear hb HS HR HX HA HB HC
  have HS := hide KS
  have HR := hide KR
  have HX := hide KX
  have HA := hide KA
  have HB := hide KB
  have HC := hide KC
  obtain ⟨s_0, s_1, s_2, s_3, s_4, s_5, s_6⟩ := KS
  obtain ⟨r_0, r_1, r_2, r_3, r_4, r_5, r_6⟩ := KR
  obtain ⟨x_0, x_1, x_2, x_3, x_4, x_5, x_6, x_7, x_8, x_9⟩ := KX
  obtain ⟨a_0, a_1, a_2, a_3, a_4⟩ := KA
  obtain ⟨b_0, b_1, b_2, b_3, b_4⟩ := KB
  obtain ⟨c_0, c_1, c_2, c_3, c_4⟩ := KC
  go_wp2_with fail
  refine (refLeC x y false hu.out _).mono ?_
  rintro e w8 ⟨rfl, hb⟩
  clear s_0 s_1 s_2 s_3 s_4 s_5 s_6 r_0 r_1 r_2 r_3 r_4 r_5 r_6 x_0 x_1 x_2 x_3 x_4 x_5 x_6 x_7 x_8 x_9 a_0 a_1 a_2 a_3 a_4 b_0 b_1 b_2 b_3 b_4 c_0 c_1 c_2 c_3 c_4
  have KS : SBox w8 w.heap.size (s) := HS.out.later hb
  have KR : SBox w8 (w.heap.size + 1) (r) := HR.out.later hb
  have KX : Box2 w8 (w.heap.size + 1 + 1) ((x, y)) := HX.out.later hb
  have KA : Box w8 w4.heap.size (A) := HA.out.later hb
  have KB : Box w8 w5.heap.size (B) := HB.out.later hb
  have KC : Box w8 w6.heap.size (C) := HC.out.later hb
  have G : Hid (Grow w w8) := hide (Grow.trans' G.out hb)
  clear hb HS HR HX HA HB HC
  have HS := hide KS
  have HR := hide KR
  have HX := hide KX
  have HA := hide KA
  have HB := hide KB
  have HC := hide KC
  obtain ⟨s_0, s_1, s_2, s_3, s_4, s_5, s_6⟩ := KS
  obtain ⟨r_0, r_1, r_2, r_3, r_4, r_5, r_6⟩ := KR
  obtain ⟨x_0, x_1, x_2, x_3, x_4, x_5, x_6, x_7, x_8, x_9⟩ := KX
  obtain ⟨a_0, a_1, a_2, a_3, a_4⟩ := KA
  obtain ⟨b_0, b_1, b_2, b_3, b_4⟩ := KB
  obtain ⟨c_0, c_1, c_2, c_3, c_4⟩ := KC
  go_wp2_with fail
  refine (refLeC A C m hm.out _).mono ?_
  rintro e w9 ⟨rfl, hb⟩
  clear s_0 s_1 s_2 s_3 s_4 s_5 s_6 r_0 r_1 r_2 r_3 r_4 r_5 r_6 x_0 x_1 x_2 x_3 x_4 x_5 x_6 x_7 x_8 x_9 a_0 a_1 a_2 a_3 a_4 b_0 b_1 b_2 b_3 b_4 c_0 c_1 c_2 c_3 c_4
  have KS : SBox w9 w.heap.size (s) := HS.out.later hb
  have KR : SBox w9 (w.heap.size + 1) (r) := HR.out.later hb
  have KX : Box2 w9 (w.heap.size + 1 + 1) ((x, y)) := HX.out.later hb
  have KA : Box w9 w4.heap.size (A) := HA.out.later hb
  have KB : Box w9 w5.heap.size (B) := HB.out.later hb
  have KC : Box w9 w6.heap.size (C) := HC.out.later hb
  have G : Hid (Grow w w9) := hide (Grow.trans' G.out hb)
  clear hb HS HR HX HA HB HC
  have HS := hide KS
  have HR := hide KR
  have HX := hide KX
  have HA := hide KA
  have HB := hide KB
  have HC := hide KC
  obtain ⟨s_0, s_1, s_2, s_3, s_4, s_5, s_6⟩ := KS
  obtain ⟨r_0, r_1, r_2, r_3, r_4, r_5, r_6⟩ := KR
  obtain ⟨x_0, x_1, x_2, x_3, x_4, x_5, x_6, x_7, x_8, x_9⟩ := KX
  obtain ⟨a_0, a_1, a_2, a_3, a_4⟩ := KA
  obtain ⟨b_0, b_1, b_2, b_3, b_4⟩ := KB
  obtain ⟨c_0, c_1, c_2, c_3, c_4⟩ := KC
  go_wp2_with fail
  refine (sLeC (s) (r) false hl.out _).mono ?_
  rintro e w10 ⟨rfl, hb⟩
  clear s_0 s_1 s_2 s_3 s_4 s_5 s_6 r_0 r_1 r_2 r_3 r_4 r_5 r_6 x_0 x_1 x_2 x_3 x_4 x_5 x_6 x_7 x_8 x_9 a_0 a_1 a_2 a_3 a_4 b_0 b_1 b_2 b_3 b_4 c_0 c_1 c_2 c_3 c_4
  have KS : SBox w10 w.heap.size (s) := HS.out.later hb
  have KR : SBox w10 (w.heap.size + 1) (r) := HR.out.later hb
  have KX : Box2 w10 (w.heap.size + 1 + 1) ((x, y)) := HX.out.later hb
  have KA : Box w10 w4.heap.size (A) := HA.out.later hb
  have KB : Box w10 w5.heap.size (B) := HB.out.later hb
  have KC : Box w10 w6.heap.size (C) := HC.out.later hb
  have G : Hid (Grow w w10) := hide (Grow.trans' G.out hb)
  clear hb HS HR HX HA HB HC
  have k2 := K2.out
  obtain ⟨s0, s1, s2, s3, s4, s5, s6⟩ := KS
  obtain ⟨r0, r1, r2, r3, r4, r5, r6⟩ := KR
  clear KA KB KC KX
  rw [k2] at s0
  go_wp2_with fail
  rw [← k2]
  refine (sLeC s s true hss.out _).mono ?_
  rintro e w20 ⟨rfl, hb⟩
  have G := hide (Grow.trans' G.out hb)
  clear s0 s1 s2 s3 s4 s5 s6 r0 r1 r2 r3 r4 r5 r6 hb
  go_wp2
  go_ret
  exact ⟨rfl, G.out⟩
set_option maxHeartbeats 1000000 in
set_option maxRecDepth 100000 in
theorem SummaryLess_ct2 (s r : Sm) (x y : Tm) (A B C : Tm) (E F L : Int) (p m : Bool) (w : World) (h1 : Hid (mayS (s) = true)) (h2 : Hid (mayS (r) = true)) (hA : Hid (applyT (s) x = A)) (hE : Hid (applyE (s) x = E)) (hB : Hid (applyT (r) x = B)) (hF : Hid (applyE (r) x = F)) (hC : Hid (applyT (s) y = C)) (hL : Hid (applyE (s) y = L)) (hp : Hid (leB A B = p)) (hu : Hid (leB x y = true)) (hm : Hid (leB A C = m)) (hl : Hid (leS (s) (r) = false)) (k1 : ¬ E = 0) (k2 : s.f = r.f) (k3 : ¬ s.t = r.t) (hss : Hid (leS s s = true)) :
    Calls Try.prog 7 #[.agg #[.int .i64 (s).f, .int .i64 (s).t, .int .i64 (s).k, .int .i64 (s).ep, .int .i64 (s).x, .int .i64 (s).y, .int .i64 (s).z], .agg #[.int .i64 (r).f, .int .i64 (r).t, .int .i64 (r).k, .int .i64 (r).ep, .int .i64 (r).x, .int .i64 (r).y, .int .i64 (r).z], .agg #[.int .i64 x.e, .int .i64 x.d, .int .i64 x.x, .int .i64 x.y, .int .i64 x.z, .int .i64 y.e, .int .i64 y.d, .int .i64 y.x, .int .i64 y.y, .int .i64 y.z]] w fun e w' => e = .returned (.bool true) ∧ Below w.heap.size w w' := by
  have K2 := hide k2
  clear k2
  go_enter Try.func7, Try.ntmps7
  have KS : SBox (((w.alloc (.cells #[.int .i64 (s).f, .int .i64 (s).t, .int .i64 (s).k, .int .i64 (s).ep, .int .i64 (s).x, .int .i64 (s).y, .int .i64 (s).z] 24)).alloc (.cells #[.int .i64 (r).f, .int .i64 (r).t, .int .i64 (r).k, .int .i64 (r).ep, .int .i64 (r).x, .int .i64 (r).y, .int .i64 (r).z] 24)).alloc (.cells #[.int .i64 x.e, .int .i64 x.d, .int .i64 x.x, .int .i64 x.y, .int .i64 x.z, .int .i64 y.e, .int .i64 y.d, .int .i64 y.x, .int .i64 y.y, .int .i64 y.z] 39)) w.heap.size (s) := by simp [SBox, go_sem]
  have KR : SBox (((w.alloc (.cells #[.int .i64 (s).f, .int .i64 (s).t, .int .i64 (s).k, .int .i64 (s).ep, .int .i64 (s).x, .int .i64 (s).y, .int .i64 (s).z] 24)).alloc (.cells #[.int .i64 (r).f, .int .i64 (r).t, .int .i64 (r).k, .int .i64 (r).ep, .int .i64 (r).x, .int .i64 (r).y, .int .i64 (r).z] 24)).alloc (.cells #[.int .i64 x.e, .int .i64 x.d, .int .i64 x.x, .int .i64 x.y, .int .i64 x.z, .int .i64 y.e, .int .i64 y.d, .int .i64 y.x, .int .i64 y.y, .int .i64 y.z] 39)) (w.heap.size + 1) (r) := by simp [SBox, go_sem]
  have KX : Box2 (((w.alloc (.cells #[.int .i64 (s).f, .int .i64 (s).t, .int .i64 (s).k, .int .i64 (s).ep, .int .i64 (s).x, .int .i64 (s).y, .int .i64 (s).z] 24)).alloc (.cells #[.int .i64 (r).f, .int .i64 (r).t, .int .i64 (r).k, .int .i64 (r).ep, .int .i64 (r).x, .int .i64 (r).y, .int .i64 (r).z] 24)).alloc (.cells #[.int .i64 x.e, .int .i64 x.d, .int .i64 x.x, .int .i64 x.y, .int .i64 x.z, .int .i64 y.e, .int .i64 y.d, .int .i64 y.x, .int .i64 y.y, .int .i64 y.z] 39)) (w.heap.size + 1 + 1) (x, y) := by simp [Box2, go_sem]
  have G : Hid (Grow w (((w.alloc (.cells #[.int .i64 (s).f, .int .i64 (s).t, .int .i64 (s).k, .int .i64 (s).ep, .int .i64 (s).x, .int .i64 (s).y, .int .i64 (s).z] 24)).alloc (.cells #[.int .i64 (r).f, .int .i64 (r).t, .int .i64 (r).k, .int .i64 (r).ep, .int .i64 (r).x, .int .i64 (r).y, .int .i64 (r).z] 24)).alloc (.cells #[.int .i64 x.e, .int .i64 x.d, .int .i64 x.x, .int .i64 x.y, .int .i64 x.z, .int .i64 y.e, .int .i64 y.d, .int .i64 y.x, .int .i64 y.y, .int .i64 y.z] 39))) := hide (Grow.trans' (Grow.trans' (Grow.alloc' _ _) (Grow.alloc' _ _)) (Grow.alloc' _ _))
  have HS := hide KS
  have HR := hide KR
  have HX := hide KX
  obtain ⟨s_0, s_1, s_2, s_3, s_4, s_5, s_6⟩ := KS
  obtain ⟨r_0, r_1, r_2, r_3, r_4, r_5, r_6⟩ := KR
  obtain ⟨x_0, x_1, x_2, x_3, x_4, x_5, x_6, x_7, x_8, x_9⟩ := KX
  go_wp2_with fail
  refine (shown_any _).mono ?_
  rintro e w1 ⟨rfl, hb⟩
  clear s_0 s_1 s_2 s_3 s_4 s_5 s_6 r_0 r_1 r_2 r_3 r_4 r_5 r_6 x_0 x_1 x_2 x_3 x_4 x_5 x_6 x_7 x_8 x_9
  have KS : SBox w1 w.heap.size (s) := HS.out.later hb
  have KR : SBox w1 (w.heap.size + 1) (r) := HR.out.later hb
  have KX : Box2 w1 (w.heap.size + 1 + 1) ((x, y)) := HX.out.later hb
  have G : Hid (Grow w w1) := hide (Grow.trans' G.out hb)
  clear hb HS HR HX
  have HS := hide KS
  have HR := hide KR
  have HX := hide KX
  obtain ⟨s_0, s_1, s_2, s_3, s_4, s_5, s_6⟩ := KS
  obtain ⟨r_0, r_1, r_2, r_3, r_4, r_5, r_6⟩ := KR
  obtain ⟨x_0, x_1, x_2, x_3, x_4, x_5, x_6, x_7, x_8, x_9⟩ := KX
  go_wp2_with fail
  refine (sMayC (s) true h1.out _).mono ?_
  rintro e w2 ⟨rfl, hb⟩
  clear s_0 s_1 s_2 s_3 s_4 s_5 s_6 r_0 r_1 r_2 r_3 r_4 r_5 r_6 x_0 x_1 x_2 x_3 x_4 x_5 x_6 x_7 x_8 x_9
  have KS : SBox w2 w.heap.size (s) := HS.out.later hb
  have KR : SBox w2 (w.heap.size + 1) (r) := HR.out.later hb
  have KX : Box2 w2 (w.heap.size + 1 + 1) ((x, y)) := HX.out.later hb
  have G : Hid (Grow w w2) := hide (Grow.trans' G.out hb)
  clear hb HS HR HX
  have HS := hide KS
  have HR := hide KR
  have HX := hide KX
  obtain ⟨s_0, s_1, s_2, s_3, s_4, s_5, s_6⟩ := KS
  obtain ⟨r_0, r_1, r_2, r_3, r_4, r_5, r_6⟩ := KR
  obtain ⟨x_0, x_1, x_2, x_3, x_4, x_5, x_6, x_7, x_8, x_9⟩ := KX
  go_wp2_with fail
  refine (sMayC (r) true h2.out _).mono ?_
  rintro e w3 ⟨rfl, hb⟩
  clear s_0 s_1 s_2 s_3 s_4 s_5 s_6 r_0 r_1 r_2 r_3 r_4 r_5 r_6 x_0 x_1 x_2 x_3 x_4 x_5 x_6 x_7 x_8 x_9
  have KS : SBox w3 w.heap.size (s) := HS.out.later hb
  have KR : SBox w3 (w.heap.size + 1) (r) := HR.out.later hb
  have KX : Box2 w3 (w.heap.size + 1 + 1) ((x, y)) := HX.out.later hb
  have G : Hid (Grow w w3) := hide (Grow.trans' G.out hb)
  clear hb HS HR HX
  have HS := hide KS
  have HR := hide KR
  have HX := hide KX
  obtain ⟨s_0, s_1, s_2, s_3, s_4, s_5, s_6⟩ := KS
  obtain ⟨r_0, r_1, r_2, r_3, r_4, r_5, r_6⟩ := KR
  obtain ⟨x_0, x_1, x_2, x_3, x_4, x_5, x_6, x_7, x_8, x_9⟩ := KX
  go_wp2_with fail
  refine (apply_at (s) x A E hA.out hE.out _).mono ?_
  rintro e w4 ⟨rfl, hb⟩
  clear s_0 s_1 s_2 s_3 s_4 s_5 s_6 r_0 r_1 r_2 r_3 r_4 r_5 r_6 x_0 x_1 x_2 x_3 x_4 x_5 x_6 x_7 x_8 x_9
  have KS : SBox (w4.alloc (.cells #[.int .i64 (A).e, .int .i64 (A).d, .int .i64 (A).x, .int .i64 (A).y, .int .i64 (A).z] 30)) w.heap.size (s) := (HS.out.later hb).later (Grow.alloc' _ _)
  have KR : SBox (w4.alloc (.cells #[.int .i64 (A).e, .int .i64 (A).d, .int .i64 (A).x, .int .i64 (A).y, .int .i64 (A).z] 30)) (w.heap.size + 1) (r) := (HR.out.later hb).later (Grow.alloc' _ _)
  have KX : Box2 (w4.alloc (.cells #[.int .i64 (A).e, .int .i64 (A).d, .int .i64 (A).x, .int .i64 (A).y, .int .i64 (A).z] 30)) (w.heap.size + 1 + 1) ((x, y)) := (HX.out.later hb).later (Grow.alloc' _ _)
  have KA : Box (w4.alloc (.cells #[.int .i64 (A).e, .int .i64 (A).d, .int .i64 (A).x, .int .i64 (A).y, .int .i64 (A).z] 30)) w4.heap.size (A) := Box.new _ _
  have G : Hid (Grow w (w4.alloc (.cells #[.int .i64 (A).e, .int .i64 (A).d, .int .i64 (A).x, .int .i64 (A).y, .int .i64 (A).z] 30))) := hide (Grow.trans' (Grow.trans' G.out hb) (Grow.alloc' _ _))
  clear hb HS HR HX
  have HS := hide KS
  have HR := hide KR
  have HX := hide KX
  have HA := hide KA
  obtain ⟨s_0, s_1, s_2, s_3, s_4, s_5, s_6⟩ := KS
  obtain ⟨r_0, r_1, r_2, r_3, r_4, r_5, r_6⟩ := KR
  obtain ⟨x_0, x_1, x_2, x_3, x_4, x_5, x_6, x_7, x_8, x_9⟩ := KX
  obtain ⟨a_0, a_1, a_2, a_3, a_4⟩ := KA
  go_wp2_with fail
  refine (apply_at (r) x B F hB.out hF.out _).mono ?_
  rintro e w5 ⟨rfl, hb⟩
  clear s_0 s_1 s_2 s_3 s_4 s_5 s_6 r_0 r_1 r_2 r_3 r_4 r_5 r_6 x_0 x_1 x_2 x_3 x_4 x_5 x_6 x_7 x_8 x_9 a_0 a_1 a_2 a_3 a_4
  have KS : SBox (w5.alloc (.cells #[.int .i64 (B).e, .int .i64 (B).d, .int .i64 (B).x, .int .i64 (B).y, .int .i64 (B).z] 30)) w.heap.size (s) := (HS.out.later hb).later (Grow.alloc' _ _)
  have KR : SBox (w5.alloc (.cells #[.int .i64 (B).e, .int .i64 (B).d, .int .i64 (B).x, .int .i64 (B).y, .int .i64 (B).z] 30)) (w.heap.size + 1) (r) := (HR.out.later hb).later (Grow.alloc' _ _)
  have KX : Box2 (w5.alloc (.cells #[.int .i64 (B).e, .int .i64 (B).d, .int .i64 (B).x, .int .i64 (B).y, .int .i64 (B).z] 30)) (w.heap.size + 1 + 1) ((x, y)) := (HX.out.later hb).later (Grow.alloc' _ _)
  have KA : Box (w5.alloc (.cells #[.int .i64 (B).e, .int .i64 (B).d, .int .i64 (B).x, .int .i64 (B).y, .int .i64 (B).z] 30)) w4.heap.size (A) := (HA.out.later hb).later (Grow.alloc' _ _)
  have KB : Box (w5.alloc (.cells #[.int .i64 (B).e, .int .i64 (B).d, .int .i64 (B).x, .int .i64 (B).y, .int .i64 (B).z] 30)) w5.heap.size (B) := Box.new _ _
  have G : Hid (Grow w (w5.alloc (.cells #[.int .i64 (B).e, .int .i64 (B).d, .int .i64 (B).x, .int .i64 (B).y, .int .i64 (B).z] 30))) := hide (Grow.trans' (Grow.trans' G.out hb) (Grow.alloc' _ _))
  clear hb HS HR HX HA
  have HS := hide KS
  have HR := hide KR
  have HX := hide KX
  have HA := hide KA
  have HB := hide KB
  obtain ⟨s_0, s_1, s_2, s_3, s_4, s_5, s_6⟩ := KS
  obtain ⟨r_0, r_1, r_2, r_3, r_4, r_5, r_6⟩ := KR
  obtain ⟨x_0, x_1, x_2, x_3, x_4, x_5, x_6, x_7, x_8, x_9⟩ := KX
  obtain ⟨a_0, a_1, a_2, a_3, a_4⟩ := KA
  obtain ⟨b_0, b_1, b_2, b_3, b_4⟩ := KB
  go_wp2_with fail
  refine (apply_at (s) y C L hC.out hL.out _).mono ?_
  rintro e w6 ⟨rfl, hb⟩
  clear s_0 s_1 s_2 s_3 s_4 s_5 s_6 r_0 r_1 r_2 r_3 r_4 r_5 r_6 x_0 x_1 x_2 x_3 x_4 x_5 x_6 x_7 x_8 x_9 a_0 a_1 a_2 a_3 a_4 b_0 b_1 b_2 b_3 b_4
  have KS : SBox (w6.alloc (.cells #[.int .i64 (C).e, .int .i64 (C).d, .int .i64 (C).x, .int .i64 (C).y, .int .i64 (C).z] 30)) w.heap.size (s) := (HS.out.later hb).later (Grow.alloc' _ _)
  have KR : SBox (w6.alloc (.cells #[.int .i64 (C).e, .int .i64 (C).d, .int .i64 (C).x, .int .i64 (C).y, .int .i64 (C).z] 30)) (w.heap.size + 1) (r) := (HR.out.later hb).later (Grow.alloc' _ _)
  have KX : Box2 (w6.alloc (.cells #[.int .i64 (C).e, .int .i64 (C).d, .int .i64 (C).x, .int .i64 (C).y, .int .i64 (C).z] 30)) (w.heap.size + 1 + 1) ((x, y)) := (HX.out.later hb).later (Grow.alloc' _ _)
  have KA : Box (w6.alloc (.cells #[.int .i64 (C).e, .int .i64 (C).d, .int .i64 (C).x, .int .i64 (C).y, .int .i64 (C).z] 30)) w4.heap.size (A) := (HA.out.later hb).later (Grow.alloc' _ _)
  have KB : Box (w6.alloc (.cells #[.int .i64 (C).e, .int .i64 (C).d, .int .i64 (C).x, .int .i64 (C).y, .int .i64 (C).z] 30)) w5.heap.size (B) := (HB.out.later hb).later (Grow.alloc' _ _)
  have KC : Box (w6.alloc (.cells #[.int .i64 (C).e, .int .i64 (C).d, .int .i64 (C).x, .int .i64 (C).y, .int .i64 (C).z] 30)) w6.heap.size (C) := Box.new _ _
  have G : Hid (Grow w (w6.alloc (.cells #[.int .i64 (C).e, .int .i64 (C).d, .int .i64 (C).x, .int .i64 (C).y, .int .i64 (C).z] 30))) := hide (Grow.trans' (Grow.trans' G.out hb) (Grow.alloc' _ _))
  clear hb HS HR HX HA HB
  have HS := hide KS
  have HR := hide KR
  have HX := hide KX
  have HA := hide KA
  have HB := hide KB
  have HC := hide KC
  obtain ⟨s_0, s_1, s_2, s_3, s_4, s_5, s_6⟩ := KS
  obtain ⟨r_0, r_1, r_2, r_3, r_4, r_5, r_6⟩ := KR
  obtain ⟨x_0, x_1, x_2, x_3, x_4, x_5, x_6, x_7, x_8, x_9⟩ := KX
  obtain ⟨a_0, a_1, a_2, a_3, a_4⟩ := KA
  obtain ⟨b_0, b_1, b_2, b_3, b_4⟩ := KB
  obtain ⟨c_0, c_1, c_2, c_3, c_4⟩ := KC
  go_wp2_with fail
  refine (refLeC A B p hp.out _).mono ?_
  rintro e w7 ⟨rfl, hb⟩
  clear s_0 s_1 s_2 s_3 s_4 s_5 s_6 r_0 r_1 r_2 r_3 r_4 r_5 r_6 x_0 x_1 x_2 x_3 x_4 x_5 x_6 x_7 x_8 x_9 a_0 a_1 a_2 a_3 a_4 b_0 b_1 b_2 b_3 b_4 c_0 c_1 c_2 c_3 c_4
  have KS : SBox w7 w.heap.size (s) := HS.out.later hb
  have KR : SBox w7 (w.heap.size + 1) (r) := HR.out.later hb
  have KX : Box2 w7 (w.heap.size + 1 + 1) ((x, y)) := HX.out.later hb
  have KA : Box w7 w4.heap.size (A) := HA.out.later hb
  have KB : Box w7 w5.heap.size (B) := HB.out.later hb
  have KC : Box w7 w6.heap.size (C) := HC.out.later hb
  have G : Hid (Grow w w7) := hide (Grow.trans' G.out hb)
  clear hb HS HR HX HA HB HC
  have HS := hide KS
  have HR := hide KR
  have HX := hide KX
  have HA := hide KA
  have HB := hide KB
  have HC := hide KC
  obtain ⟨s_0, s_1, s_2, s_3, s_4, s_5, s_6⟩ := KS
  obtain ⟨r_0, r_1, r_2, r_3, r_4, r_5, r_6⟩ := KR
  obtain ⟨x_0, x_1, x_2, x_3, x_4, x_5, x_6, x_7, x_8, x_9⟩ := KX
  obtain ⟨a_0, a_1, a_2, a_3, a_4⟩ := KA
  obtain ⟨b_0, b_1, b_2, b_3, b_4⟩ := KB
  obtain ⟨c_0, c_1, c_2, c_3, c_4⟩ := KC
  go_wp2_with fail
  refine (refLeC x y true hu.out _).mono ?_
  rintro e w8 ⟨rfl, hb⟩
  clear s_0 s_1 s_2 s_3 s_4 s_5 s_6 r_0 r_1 r_2 r_3 r_4 r_5 r_6 x_0 x_1 x_2 x_3 x_4 x_5 x_6 x_7 x_8 x_9 a_0 a_1 a_2 a_3 a_4 b_0 b_1 b_2 b_3 b_4 c_0 c_1 c_2 c_3 c_4
  have KS : SBox w8 w.heap.size (s) := HS.out.later hb
  have KR : SBox w8 (w.heap.size + 1) (r) := HR.out.later hb
  have KX : Box2 w8 (w.heap.size + 1 + 1) ((x, y)) := HX.out.later hb
  have KA : Box w8 w4.heap.size (A) := HA.out.later hb
  have KB : Box w8 w5.heap.size (B) := HB.out.later hb
  have KC : Box w8 w6.heap.size (C) := HC.out.later hb
  have G : Hid (Grow w w8) := hide (Grow.trans' G.out hb)
  clear hb HS HR HX HA HB HC
  have HS := hide KS
  have HR := hide KR
  have HX := hide KX
  have HA := hide KA
  have HB := hide KB
  have HC := hide KC
  obtain ⟨s_0, s_1, s_2, s_3, s_4, s_5, s_6⟩ := KS
  obtain ⟨r_0, r_1, r_2, r_3, r_4, r_5, r_6⟩ := KR
  obtain ⟨x_0, x_1, x_2, x_3, x_4, x_5, x_6, x_7, x_8, x_9⟩ := KX
  obtain ⟨a_0, a_1, a_2, a_3, a_4⟩ := KA
  obtain ⟨b_0, b_1, b_2, b_3, b_4⟩ := KB
  obtain ⟨c_0, c_1, c_2, c_3, c_4⟩ := KC
  go_wp2_with fail
  refine (refLeC A C m hm.out _).mono ?_
  rintro e w9 ⟨rfl, hb⟩
  clear s_0 s_1 s_2 s_3 s_4 s_5 s_6 r_0 r_1 r_2 r_3 r_4 r_5 r_6 x_0 x_1 x_2 x_3 x_4 x_5 x_6 x_7 x_8 x_9 a_0 a_1 a_2 a_3 a_4 b_0 b_1 b_2 b_3 b_4 c_0 c_1 c_2 c_3 c_4
  have KS : SBox w9 w.heap.size (s) := HS.out.later hb
  have KR : SBox w9 (w.heap.size + 1) (r) := HR.out.later hb
  have KX : Box2 w9 (w.heap.size + 1 + 1) ((x, y)) := HX.out.later hb
  have KA : Box w9 w4.heap.size (A) := HA.out.later hb
  have KB : Box w9 w5.heap.size (B) := HB.out.later hb
  have KC : Box w9 w6.heap.size (C) := HC.out.later hb
  have G : Hid (Grow w w9) := hide (Grow.trans' G.out hb)
  clear hb HS HR HX HA HB HC
  have HS := hide KS
  have HR := hide KR
  have HX := hide KX
  have HA := hide KA
  have HB := hide KB
  have HC := hide KC
  obtain ⟨s_0, s_1, s_2, s_3, s_4, s_5, s_6⟩ := KS
  obtain ⟨r_0, r_1, r_2, r_3, r_4, r_5, r_6⟩ := KR
  obtain ⟨x_0, x_1, x_2, x_3, x_4, x_5, x_6, x_7, x_8, x_9⟩ := KX
  obtain ⟨a_0, a_1, a_2, a_3, a_4⟩ := KA
  obtain ⟨b_0, b_1, b_2, b_3, b_4⟩ := KB
  obtain ⟨c_0, c_1, c_2, c_3, c_4⟩ := KC
  go_wp2_with fail
  refine (sLeC (s) (r) false hl.out _).mono ?_
  rintro e w10 ⟨rfl, hb⟩
  clear s_0 s_1 s_2 s_3 s_4 s_5 s_6 r_0 r_1 r_2 r_3 r_4 r_5 r_6 x_0 x_1 x_2 x_3 x_4 x_5 x_6 x_7 x_8 x_9 a_0 a_1 a_2 a_3 a_4 b_0 b_1 b_2 b_3 b_4 c_0 c_1 c_2 c_3 c_4
  have KS : SBox w10 w.heap.size (s) := HS.out.later hb
  have KR : SBox w10 (w.heap.size + 1) (r) := HR.out.later hb
  have KX : Box2 w10 (w.heap.size + 1 + 1) ((x, y)) := HX.out.later hb
  have KA : Box w10 w4.heap.size (A) := HA.out.later hb
  have KB : Box w10 w5.heap.size (B) := HB.out.later hb
  have KC : Box w10 w6.heap.size (C) := HC.out.later hb
  have G : Hid (Grow w w10) := hide (Grow.trans' G.out hb)
  clear hb HS HR HX HA HB HC
  have k2 := K2.out
  obtain ⟨s0, s1, s2, s3, s4, s5, s6⟩ := KS
  obtain ⟨r0, r1, r2, r3, r4, r5, r6⟩ := KR
  clear KA KB KC KX
  rw [k2] at s0
  go_wp2_with fail
  rw [← k2]
  refine (sLeC s s true hss.out _).mono ?_
  rintro e w20 ⟨rfl, hb⟩
  have G := hide (Grow.trans' G.out hb)
  clear s0 s1 s2 s3 s4 s5 s6 r0 r1 r2 r3 r4 r5 r6 hb
  go_wp2
  go_ret
  exact ⟨rfl, G.out⟩
set_option maxHeartbeats 1000000 in
set_option maxRecDepth 100000 in
theorem SummaryLess_ct3 (s r : Sm) (x y : Tm) (A B C : Tm) (E F L : Int) (p m : Bool) (w : World) (h1 : Hid (mayS (s) = true)) (h2 : Hid (mayS (r) = true)) (hA : Hid (applyT (s) x = A)) (hE : Hid (applyE (s) x = 0)) (hB : Hid (applyT (r) x = B)) (hF : Hid (applyE (r) x = F)) (hC : Hid (applyT (s) y = C)) (hL : Hid (applyE (s) y = L)) (hp : Hid (leB A B = p)) (hu : Hid (leB x y = true)) (hm : Hid (leB A C = m)) (hl : Hid (leS (s) (r) = false)) (k1 : ¬ L = 0) (k2 : s.f = r.f) (k3 : ¬ s.t = r.t) (hss : Hid (leS s s = true)) :
    Calls Try.prog 7 #[.agg #[.int .i64 (s).f, .int .i64 (s).t, .int .i64 (s).k, .int .i64 (s).ep, .int .i64 (s).x, .int .i64 (s).y, .int .i64 (s).z], .agg #[.int .i64 (r).f, .int .i64 (r).t, .int .i64 (r).k, .int .i64 (r).ep, .int .i64 (r).x, .int .i64 (r).y, .int .i64 (r).z], .agg #[.int .i64 x.e, .int .i64 x.d, .int .i64 x.x, .int .i64 x.y, .int .i64 x.z, .int .i64 y.e, .int .i64 y.d, .int .i64 y.x, .int .i64 y.y, .int .i64 y.z]] w fun e w' => e = .returned (.bool true) ∧ Below w.heap.size w w' := by
  have K2 := hide k2
  clear k2
  go_enter Try.func7, Try.ntmps7
  have KS : SBox (((w.alloc (.cells #[.int .i64 (s).f, .int .i64 (s).t, .int .i64 (s).k, .int .i64 (s).ep, .int .i64 (s).x, .int .i64 (s).y, .int .i64 (s).z] 24)).alloc (.cells #[.int .i64 (r).f, .int .i64 (r).t, .int .i64 (r).k, .int .i64 (r).ep, .int .i64 (r).x, .int .i64 (r).y, .int .i64 (r).z] 24)).alloc (.cells #[.int .i64 x.e, .int .i64 x.d, .int .i64 x.x, .int .i64 x.y, .int .i64 x.z, .int .i64 y.e, .int .i64 y.d, .int .i64 y.x, .int .i64 y.y, .int .i64 y.z] 39)) w.heap.size (s) := by simp [SBox, go_sem]
  have KR : SBox (((w.alloc (.cells #[.int .i64 (s).f, .int .i64 (s).t, .int .i64 (s).k, .int .i64 (s).ep, .int .i64 (s).x, .int .i64 (s).y, .int .i64 (s).z] 24)).alloc (.cells #[.int .i64 (r).f, .int .i64 (r).t, .int .i64 (r).k, .int .i64 (r).ep, .int .i64 (r).x, .int .i64 (r).y, .int .i64 (r).z] 24)).alloc (.cells #[.int .i64 x.e, .int .i64 x.d, .int .i64 x.x, .int .i64 x.y, .int .i64 x.z, .int .i64 y.e, .int .i64 y.d, .int .i64 y.x, .int .i64 y.y, .int .i64 y.z] 39)) (w.heap.size + 1) (r) := by simp [SBox, go_sem]
  have KX : Box2 (((w.alloc (.cells #[.int .i64 (s).f, .int .i64 (s).t, .int .i64 (s).k, .int .i64 (s).ep, .int .i64 (s).x, .int .i64 (s).y, .int .i64 (s).z] 24)).alloc (.cells #[.int .i64 (r).f, .int .i64 (r).t, .int .i64 (r).k, .int .i64 (r).ep, .int .i64 (r).x, .int .i64 (r).y, .int .i64 (r).z] 24)).alloc (.cells #[.int .i64 x.e, .int .i64 x.d, .int .i64 x.x, .int .i64 x.y, .int .i64 x.z, .int .i64 y.e, .int .i64 y.d, .int .i64 y.x, .int .i64 y.y, .int .i64 y.z] 39)) (w.heap.size + 1 + 1) (x, y) := by simp [Box2, go_sem]
  have G : Hid (Grow w (((w.alloc (.cells #[.int .i64 (s).f, .int .i64 (s).t, .int .i64 (s).k, .int .i64 (s).ep, .int .i64 (s).x, .int .i64 (s).y, .int .i64 (s).z] 24)).alloc (.cells #[.int .i64 (r).f, .int .i64 (r).t, .int .i64 (r).k, .int .i64 (r).ep, .int .i64 (r).x, .int .i64 (r).y, .int .i64 (r).z] 24)).alloc (.cells #[.int .i64 x.e, .int .i64 x.d, .int .i64 x.x, .int .i64 x.y, .int .i64 x.z, .int .i64 y.e, .int .i64 y.d, .int .i64 y.x, .int .i64 y.y, .int .i64 y.z] 39))) := hide (Grow.trans' (Grow.trans' (Grow.alloc' _ _) (Grow.alloc' _ _)) (Grow.alloc' _ _))
  have HS := hide KS
  have HR := hide KR
  have HX := hide KX
  obtain ⟨s_0, s_1, s_2, s_3, s_4, s_5, s_6⟩ := KS
  obtain ⟨r_0, r_1, r_2, r_3, r_4, r_5, r_6⟩ := KR
  obtain ⟨x_0, x_1, x_2, x_3, x_4, x_5, x_6, x_7, x_8, x_9⟩ := KX
  go_wp2_with fail
  refine (shown_any _).mono ?_
  rintro e w1 ⟨rfl, hb⟩
  clear s_0 s_1 s_2 s_3 s_4 s_5 s_6 r_0 r_1 r_2 r_3 r_4 r_5 r_6 x_0 x_1 x_2 x_3 x_4 x_5 x_6 x_7 x_8 x_9
  have KS : SBox w1 w.heap.size (s) := HS.out.later hb
  have KR : SBox w1 (w.heap.size + 1) (r) := HR.out.later hb
  have KX : Box2 w1 (w.heap.size + 1 + 1) ((x, y)) := HX.out.later hb
  have G : Hid (Grow w w1) := hide (Grow.trans' G.out hb)
  clear hb HS HR HX
  have HS := hide KS
  have HR := hide KR
  have HX := hide KX
  obtain ⟨s_0, s_1, s_2, s_3, s_4, s_5, s_6⟩ := KS
  obtain ⟨r_0, r_1, r_2, r_3, r_4, r_5, r_6⟩ := KR
  obtain ⟨x_0, x_1, x_2, x_3, x_4, x_5, x_6, x_7, x_8, x_9⟩ := KX
  go_wp2_with fail
  refine (sMayC (s) true h1.out _).mono ?_
  rintro e w2 ⟨rfl, hb⟩
  clear s_0 s_1 s_2 s_3 s_4 s_5 s_6 r_0 r_1 r_2 r_3 r_4 r_5 r_6 x_0 x_1 x_2 x_3 x_4 x_5 x_6 x_7 x_8 x_9
  have KS : SBox w2 w.heap.size (s) := HS.out.later hb
  have KR : SBox w2 (w.heap.size + 1) (r) := HR.out.later hb
  have KX : Box2 w2 (w.heap.size + 1 + 1) ((x, y)) := HX.out.later hb
  have G : Hid (Grow w w2) := hide (Grow.trans' G.out hb)
  clear hb HS HR HX
  have HS := hide KS
  have HR := hide KR
  have HX := hide KX
  obtain ⟨s_0, s_1, s_2, s_3, s_4, s_5, s_6⟩ := KS
  obtain ⟨r_0, r_1, r_2, r_3, r_4, r_5, r_6⟩ := KR
  obtain ⟨x_0, x_1, x_2, x_3, x_4, x_5, x_6, x_7, x_8, x_9⟩ := KX
  go_wp2_with fail
  refine (sMayC (r) true h2.out _).mono ?_
  rintro e w3 ⟨rfl, hb⟩
  clear s_0 s_1 s_2 s_3 s_4 s_5 s_6 r_0 r_1 r_2 r_3 r_4 r_5 r_6 x_0 x_1 x_2 x_3 x_4 x_5 x_6 x_7 x_8 x_9
  have KS : SBox w3 w.heap.size (s) := HS.out.later hb
  have KR : SBox w3 (w.heap.size + 1) (r) := HR.out.later hb
  have KX : Box2 w3 (w.heap.size + 1 + 1) ((x, y)) := HX.out.later hb
  have G : Hid (Grow w w3) := hide (Grow.trans' G.out hb)
  clear hb HS HR HX
  have HS := hide KS
  have HR := hide KR
  have HX := hide KX
  obtain ⟨s_0, s_1, s_2, s_3, s_4, s_5, s_6⟩ := KS
  obtain ⟨r_0, r_1, r_2, r_3, r_4, r_5, r_6⟩ := KR
  obtain ⟨x_0, x_1, x_2, x_3, x_4, x_5, x_6, x_7, x_8, x_9⟩ := KX
  go_wp2_with fail
  refine (apply_at (s) x A 0 hA.out hE.out _).mono ?_
  rintro e w4 ⟨rfl, hb⟩
  clear s_0 s_1 s_2 s_3 s_4 s_5 s_6 r_0 r_1 r_2 r_3 r_4 r_5 r_6 x_0 x_1 x_2 x_3 x_4 x_5 x_6 x_7 x_8 x_9
  have KS : SBox (w4.alloc (.cells #[.int .i64 (A).e, .int .i64 (A).d, .int .i64 (A).x, .int .i64 (A).y, .int .i64 (A).z] 30)) w.heap.size (s) := (HS.out.later hb).later (Grow.alloc' _ _)
  have KR : SBox (w4.alloc (.cells #[.int .i64 (A).e, .int .i64 (A).d, .int .i64 (A).x, .int .i64 (A).y, .int .i64 (A).z] 30)) (w.heap.size + 1) (r) := (HR.out.later hb).later (Grow.alloc' _ _)
  have KX : Box2 (w4.alloc (.cells #[.int .i64 (A).e, .int .i64 (A).d, .int .i64 (A).x, .int .i64 (A).y, .int .i64 (A).z] 30)) (w.heap.size + 1 + 1) ((x, y)) := (HX.out.later hb).later (Grow.alloc' _ _)
  have KA : Box (w4.alloc (.cells #[.int .i64 (A).e, .int .i64 (A).d, .int .i64 (A).x, .int .i64 (A).y, .int .i64 (A).z] 30)) w4.heap.size (A) := Box.new _ _
  have G : Hid (Grow w (w4.alloc (.cells #[.int .i64 (A).e, .int .i64 (A).d, .int .i64 (A).x, .int .i64 (A).y, .int .i64 (A).z] 30))) := hide (Grow.trans' (Grow.trans' G.out hb) (Grow.alloc' _ _))
  clear hb HS HR HX
  have HS := hide KS
  have HR := hide KR
  have HX := hide KX
  have HA := hide KA
  obtain ⟨s_0, s_1, s_2, s_3, s_4, s_5, s_6⟩ := KS
  obtain ⟨r_0, r_1, r_2, r_3, r_4, r_5, r_6⟩ := KR
  obtain ⟨x_0, x_1, x_2, x_3, x_4, x_5, x_6, x_7, x_8, x_9⟩ := KX
  obtain ⟨a_0, a_1, a_2, a_3, a_4⟩ := KA
  go_wp2_with fail
  refine (apply_at (r) x B F hB.out hF.out _).mono ?_
  rintro e w5 ⟨rfl, hb⟩
  clear s_0 s_1 s_2 s_3 s_4 s_5 s_6 r_0 r_1 r_2 r_3 r_4 r_5 r_6 x_0 x_1 x_2 x_3 x_4 x_5 x_6 x_7 x_8 x_9 a_0 a_1 a_2 a_3 a_4
  have KS : SBox (w5.alloc (.cells #[.int .i64 (B).e, .int .i64 (B).d, .int .i64 (B).x, .int .i64 (B).y, .int .i64 (B).z] 30)) w.heap.size (s) := (HS.out.later hb).later (Grow.alloc' _ _)
  have KR : SBox (w5.alloc (.cells #[.int .i64 (B).e, .int .i64 (B).d, .int .i64 (B).x, .int .i64 (B).y, .int .i64 (B).z] 30)) (w.heap.size + 1) (r) := (HR.out.later hb).later (Grow.alloc' _ _)
  have KX : Box2 (w5.alloc (.cells #[.int .i64 (B).e, .int .i64 (B).d, .int .i64 (B).x, .int .i64 (B).y, .int .i64 (B).z] 30)) (w.heap.size + 1 + 1) ((x, y)) := (HX.out.later hb).later (Grow.alloc' _ _)
  have KA : Box (w5.alloc (.cells #[.int .i64 (B).e, .int .i64 (B).d, .int .i64 (B).x, .int .i64 (B).y, .int .i64 (B).z] 30)) w4.heap.size (A) := (HA.out.later hb).later (Grow.alloc' _ _)
  have KB : Box (w5.alloc (.cells #[.int .i64 (B).e, .int .i64 (B).d, .int .i64 (B).x, .int .i64 (B).y, .int .i64 (B).z] 30)) w5.heap.size (B) := Box.new _ _
  have G : Hid (Grow w (w5.alloc (.cells #[.int .i64 (B).e, .int .i64 (B).d, .int .i64 (B).x, .int .i64 (B).y, .int .i64 (B).z] 30))) := hide (Grow.trans' (Grow.trans' G.out hb) (Grow.alloc' _ _))
  clear hb HS HR HX HA
  have HS := hide KS
  have HR := hide KR
  have HX := hide KX
  have HA := hide KA
  have HB := hide KB
  obtain ⟨s_0, s_1, s_2, s_3, s_4, s_5, s_6⟩ := KS
  obtain ⟨r_0, r_1, r_2, r_3, r_4, r_5, r_6⟩ := KR
  obtain ⟨x_0, x_1, x_2, x_3, x_4, x_5, x_6, x_7, x_8, x_9⟩ := KX
  obtain ⟨a_0, a_1, a_2, a_3, a_4⟩ := KA
  obtain ⟨b_0, b_1, b_2, b_3, b_4⟩ := KB
  go_wp2_with fail
  refine (apply_at (s) y C L hC.out hL.out _).mono ?_
  rintro e w6 ⟨rfl, hb⟩
  clear s_0 s_1 s_2 s_3 s_4 s_5 s_6 r_0 r_1 r_2 r_3 r_4 r_5 r_6 x_0 x_1 x_2 x_3 x_4 x_5 x_6 x_7 x_8 x_9 a_0 a_1 a_2 a_3 a_4 b_0 b_1 b_2 b_3 b_4
  have KS : SBox (w6.alloc (.cells #[.int .i64 (C).e, .int .i64 (C).d, .int .i64 (C).x, .int .i64 (C).y, .int .i64 (C).z] 30)) w.heap.size (s) := (HS.out.later hb).later (Grow.alloc' _ _)
  have KR : SBox (w6.alloc (.cells #[.int .i64 (C).e, .int .i64 (C).d, .int .i64 (C).x, .int .i64 (C).y, .int .i64 (C).z] 30)) (w.heap.size + 1) (r) := (HR.out.later hb).later (Grow.alloc' _ _)
  have KX : Box2 (w6.alloc (.cells #[.int .i64 (C).e, .int .i64 (C).d, .int .i64 (C).x, .int .i64 (C).y, .int .i64 (C).z] 30)) (w.heap.size + 1 + 1) ((x, y)) := (HX.out.later hb).later (Grow.alloc' _ _)
  have KA : Box (w6.alloc (.cells #[.int .i64 (C).e, .int .i64 (C).d, .int .i64 (C).x, .int .i64 (C).y, .int .i64 (C).z] 30)) w4.heap.size (A) := (HA.out.later hb).later (Grow.alloc' _ _)
  have KB : Box (w6.alloc (.cells #[.int .i64 (C).e, .int .i64 (C).d, .int .i64 (C).x, .int .i64 (C).y, .int .i64 (C).z] 30)) w5.heap.size (B) := (HB.out.later hb).later (Grow.alloc' _ _)
  have KC : Box (w6.alloc (.cells #[.int .i64 (C).e, .int .i64 (C).d, .int .i64 (C).x, .int .i64 (C).y, .int .i64 (C).z] 30)) w6.heap.size (C) := Box.new _ _
  have G : Hid (Grow w (w6.alloc (.cells #[.int .i64 (C).e, .int .i64 (C).d, .int .i64 (C).x, .int .i64 (C).y, .int .i64 (C).z] 30))) := hide (Grow.trans' (Grow.trans' G.out hb) (Grow.alloc' _ _))
  clear hb HS HR HX HA HB
  have HS := hide KS
  have HR := hide KR
  have HX := hide KX
  have HA := hide KA
  have HB := hide KB
  have HC := hide KC
  obtain ⟨s_0, s_1, s_2, s_3, s_4, s_5, s_6⟩ := KS
  obtain ⟨r_0, r_1, r_2, r_3, r_4, r_5, r_6⟩ := KR
  obtain ⟨x_0, x_1, x_2, x_3, x_4, x_5, x_6, x_7, x_8, x_9⟩ := KX
  obtain ⟨a_0, a_1, a_2, a_3, a_4⟩ := KA
  obtain ⟨b_0, b_1, b_2, b_3, b_4⟩ := KB
  obtain ⟨c_0, c_1, c_2, c_3, c_4⟩ := KC
  go_wp2_with fail
  refine (refLeC A B p hp.out _).mono ?_
  rintro e w7 ⟨rfl, hb⟩
  clear s_0 s_1 s_2 s_3 s_4 s_5 s_6 r_0 r_1 r_2 r_3 r_4 r_5 r_6 x_0 x_1 x_2 x_3 x_4 x_5 x_6 x_7 x_8 x_9 a_0 a_1 a_2 a_3 a_4 b_0 b_1 b_2 b_3 b_4 c_0 c_1 c_2 c_3 c_4
  have KS : SBox w7 w.heap.size (s) := HS.out.later hb
  have KR : SBox w7 (w.heap.size + 1) (r) := HR.out.later hb
  have KX : Box2 w7 (w.heap.size + 1 + 1) ((x, y)) := HX.out.later hb
  have KA : Box w7 w4.heap.size (A) := HA.out.later hb
  have KB : Box w7 w5.heap.size (B) := HB.out.later hb
  have KC : Box w7 w6.heap.size (C) := HC.out.later hb
  have G : Hid (Grow w w7) := hide (Grow.trans' G.out hb)
  clear hb HS HR HX HA HB HC
  have HS := hide KS
  have HR := hide KR
  have HX := hide KX
  have HA := hide KA
  have HB := hide KB
  have HC := hide KC
  obtain ⟨s_0, s_1, s_2, s_3, s_4, s_5, s_6⟩ := KS
  obtain ⟨r_0, r_1, r_2, r_3, r_4, r_5, r_6⟩ := KR
  obtain ⟨x_0, x_1, x_2, x_3, x_4, x_5, x_6, x_7, x_8, x_9⟩ := KX
  obtain ⟨a_0, a_1, a_2, a_3, a_4⟩ := KA
  obtain ⟨b_0, b_1, b_2, b_3, b_4⟩ := KB
  obtain ⟨c_0, c_1, c_2, c_3, c_4⟩ := KC
  go_wp2_with fail
  refine (refLeC x y true hu.out _).mono ?_
  rintro e w8 ⟨rfl, hb⟩
  clear s_0 s_1 s_2 s_3 s_4 s_5 s_6 r_0 r_1 r_2 r_3 r_4 r_5 r_6 x_0 x_1 x_2 x_3 x_4 x_5 x_6 x_7 x_8 x_9 a_0 a_1 a_2 a_3 a_4 b_0 b_1 b_2 b_3 b_4 c_0 c_1 c_2 c_3 c_4
  have KS : SBox w8 w.heap.size (s) := HS.out.later hb
  have KR : SBox w8 (w.heap.size + 1) (r) := HR.out.later hb
  have KX : Box2 w8 (w.heap.size + 1 + 1) ((x, y)) := HX.out.later hb
  have KA : Box w8 w4.heap.size (A) := HA.out.later hb
  have KB : Box w8 w5.heap.size (B) := HB.out.later hb
  have KC : Box w8 w6.heap.size (C) := HC.out.later hb
  have G : Hid (Grow w w8) := hide (Grow.trans' G.out hb)
  clear hb HS HR HX HA HB HC
  have HS := hide KS
  have HR := hide KR
  have HX := hide KX
  have HA := hide KA
  have HB := hide KB
  have HC := hide KC
  obtain ⟨s_0, s_1, s_2, s_3, s_4, s_5, s_6⟩ := KS
  obtain ⟨r_0, r_1, r_2, r_3, r_4, r_5, r_6⟩ := KR
  obtain ⟨x_0, x_1, x_2, x_3, x_4, x_5, x_6, x_7, x_8, x_9⟩ := KX
  obtain ⟨a_0, a_1, a_2, a_3, a_4⟩ := KA
  obtain ⟨b_0, b_1, b_2, b_3, b_4⟩ := KB
  obtain ⟨c_0, c_1, c_2, c_3, c_4⟩ := KC
  go_wp2_with fail
  refine (refLeC A C m hm.out _).mono ?_
  rintro e w9 ⟨rfl, hb⟩
  clear s_0 s_1 s_2 s_3 s_4 s_5 s_6 r_0 r_1 r_2 r_3 r_4 r_5 r_6 x_0 x_1 x_2 x_3 x_4 x_5 x_6 x_7 x_8 x_9 a_0 a_1 a_2 a_3 a_4 b_0 b_1 b_2 b_3 b_4 c_0 c_1 c_2 c_3 c_4
  have KS : SBox w9 w.heap.size (s) := HS.out.later hb
  have KR : SBox w9 (w.heap.size + 1) (r) := HR.out.later hb
  have KX : Box2 w9 (w.heap.size + 1 + 1) ((x, y)) := HX.out.later hb
  have KA : Box w9 w4.heap.size (A) := HA.out.later hb
  have KB : Box w9 w5.heap.size (B) := HB.out.later hb
  have KC : Box w9 w6.heap.size (C) := HC.out.later hb
  have G : Hid (Grow w w9) := hide (Grow.trans' G.out hb)
  clear hb HS HR HX HA HB HC
  have HS := hide KS
  have HR := hide KR
  have HX := hide KX
  have HA := hide KA
  have HB := hide KB
  have HC := hide KC
  obtain ⟨s_0, s_1, s_2, s_3, s_4, s_5, s_6⟩ := KS
  obtain ⟨r_0, r_1, r_2, r_3, r_4, r_5, r_6⟩ := KR
  obtain ⟨x_0, x_1, x_2, x_3, x_4, x_5, x_6, x_7, x_8, x_9⟩ := KX
  obtain ⟨a_0, a_1, a_2, a_3, a_4⟩ := KA
  obtain ⟨b_0, b_1, b_2, b_3, b_4⟩ := KB
  obtain ⟨c_0, c_1, c_2, c_3, c_4⟩ := KC
  go_wp2_with fail
  refine (sLeC (s) (r) false hl.out _).mono ?_
  rintro e w10 ⟨rfl, hb⟩
  clear s_0 s_1 s_2 s_3 s_4 s_5 s_6 r_0 r_1 r_2 r_3 r_4 r_5 r_6 x_0 x_1 x_2 x_3 x_4 x_5 x_6 x_7 x_8 x_9 a_0 a_1 a_2 a_3 a_4 b_0 b_1 b_2 b_3 b_4 c_0 c_1 c_2 c_3 c_4
  have KS : SBox w10 w.heap.size (s) := HS.out.later hb
  have KR : SBox w10 (w.heap.size + 1) (r) := HR.out.later hb
  have KX : Box2 w10 (w.heap.size + 1 + 1) ((x, y)) := HX.out.later hb
  have KA : Box w10 w4.heap.size (A) := HA.out.later hb
  have KB : Box w10 w5.heap.size (B) := HB.out.later hb
  have KC : Box w10 w6.heap.size (C) := HC.out.later hb
  have G : Hid (Grow w w10) := hide (Grow.trans' G.out hb)
  clear hb HS HR HX HA HB HC
  have k2 := K2.out
  obtain ⟨s0, s1, s2, s3, s4, s5, s6⟩ := KS
  obtain ⟨r0, r1, r2, r3, r4, r5, r6⟩ := KR
  clear KA KB KC KX
  rw [k2] at s0
  go_wp2_with fail
  rw [← k2]
  refine (sLeC s s true hss.out _).mono ?_
  rintro e w20 ⟨rfl, hb⟩
  have G := hide (Grow.trans' G.out hb)
  clear s0 s1 s2 s3 s4 s5 s6 r0 r1 r2 r3 r4 r5 r6 hb
  go_wp2
  go_ret
  exact ⟨rfl, G.out⟩
set_option maxHeartbeats 1000000 in
set_option maxRecDepth 100000 in
theorem SummaryLess_ct4 (s r : Sm) (x y : Tm) (A B C : Tm) (E F L : Int) (p m : Bool) (w : World) (h1 : Hid (mayS (s) = true)) (h2 : Hid (mayS (r) = true)) (hA : Hid (applyT (s) x = A)) (hE : Hid (applyE (s) x = 0)) (hB : Hid (applyT (r) x = B)) (hF : Hid (applyE (r) x = F)) (hC : Hid (applyT (s) y = C)) (hL : Hid (applyE (s) y = 0)) (hp : Hid (leB A B = p)) (hu : Hid (leB x y = true)) (hm : Hid (leB A C = true)) (hl : Hid (leS (s) (r) = false)) (k2 : s.f = r.f) (k3 : ¬ s.t = r.t) (hss : Hid (leS s s = true)) :
    Calls Try.prog 7 #[.agg #[.int .i64 (s).f, .int .i64 (s).t, .int .i64 (s).k, .int .i64 (s).ep, .int .i64 (s).x, .int .i64 (s).y, .int .i64 (s).z], .agg #[.int .i64 (r).f, .int .i64 (r).t, .int .i64 (r).k, .int .i64 (r).ep, .int .i64 (r).x, .int .i64 (r).y, .int .i64 (r).z], .agg #[.int .i64 x.e, .int .i64 x.d, .int .i64 x.x, .int .i64 x.y, .int .i64 x.z, .int .i64 y.e, .int .i64 y.d, .int .i64 y.x, .int .i64 y.y, .int .i64 y.z]] w fun e w' => e = .returned (.bool true) ∧ Below w.heap.size w w' := by
  have K2 := hide k2
  clear k2
  go_enter Try.func7, Try.ntmps7
  have KS : SBox (((w.alloc (.cells #[.int .i64 (s).f, .int .i64 (s).t, .int .i64 (s).k, .int .i64 (s).ep, .int .i64 (s).x, .int .i64 (s).y, .int .i64 (s).z] 24)).alloc (.cells #[.int .i64 (r).f, .int .i64 (r).t, .int .i64 (r).k, .int .i64 (r).ep, .int .i64 (r).x, .int .i64 (r).y, .int .i64 (r).z] 24)).alloc (.cells #[.int .i64 x.e, .int .i64 x.d, .int .i64 x.x, .int .i64 x.y, .int .i64 x.z, .int .i64 y.e, .int .i64 y.d, .int .i64 y.x, .int .i64 y.y, .int .i64 y.z] 39)) w.heap.size (s) := by simp [SBox, go_sem]
  have KR : SBox (((w.alloc (.cells #[.int .i64 (s).f, .int .i64 (s).t, .int .i64 (s).k, .int .i64 (s).ep, .int .i64 (s).x, .int .i64 (s).y, .int .i64 (s).z] 24)).alloc (.cells #[.int .i64 (r).f, .int .i64 (r).t, .int .i64 (r).k, .int .i64 (r).ep, .int .i64 (r).x, .int .i64 (r).y, .int .i64 (r).z] 24)).alloc (.cells #[.int .i64 x.e, .int .i64 x.d, .int .i64 x.x, .int .i64 x.y, .int .i64 x.z, .int .i64 y.e, .int .i64 y.d, .int .i64 y.x, .int .i64 y.y, .int .i64 y.z] 39)) (w.heap.size + 1) (r) := by simp [SBox, go_sem]
  have KX : Box2 (((w.alloc (.cells #[.int .i64 (s).f, .int .i64 (s).t, .int .i64 (s).k, .int .i64 (s).ep, .int .i64 (s).x, .int .i64 (s).y, .int .i64 (s).z] 24)).alloc (.cells #[.int .i64 (r).f, .int .i64 (r).t, .int .i64 (r).k, .int .i64 (r).ep, .int .i64 (r).x, .int .i64 (r).y, .int .i64 (r).z] 24)).alloc (.cells #[.int .i64 x.e, .int .i64 x.d, .int .i64 x.x, .int .i64 x.y, .int .i64 x.z, .int .i64 y.e, .int .i64 y.d, .int .i64 y.x, .int .i64 y.y, .int .i64 y.z] 39)) (w.heap.size + 1 + 1) (x, y) := by simp [Box2, go_sem]
  have G : Hid (Grow w (((w.alloc (.cells #[.int .i64 (s).f, .int .i64 (s).t, .int .i64 (s).k, .int .i64 (s).ep, .int .i64 (s).x, .int .i64 (s).y, .int .i64 (s).z] 24)).alloc (.cells #[.int .i64 (r).f, .int .i64 (r).t, .int .i64 (r).k, .int .i64 (r).ep, .int .i64 (r).x, .int .i64 (r).y, .int .i64 (r).z] 24)).alloc (.cells #[.int .i64 x.e, .int .i64 x.d, .int .i64 x.x, .int .i64 x.y, .int .i64 x.z, .int .i64 y.e, .int .i64 y.d, .int .i64 y.x, .int .i64 y.y, .int .i64 y.z] 39))) := hide (Grow.trans' (Grow.trans' (Grow.alloc' _ _) (Grow.alloc' _ _)) (Grow.alloc' _ _))
  have HS := hide KS
  have HR := hide KR
  have HX := hide KX
  obtain ⟨s_0, s_1, s_2, s_3, s_4, s_5, s_6⟩ := KS
  obtain ⟨r_0, r_1, r_2, r_3, r_4, r_5, r_6⟩ := KR
  obtain ⟨x_0, x_1, x_2, x_3, x_4, x_5, x_6, x_7, x_8, x_9⟩ := KX
  go_wp2_with fail
  refine (shown_any _).mono ?_
  rintro e w1 ⟨rfl, hb⟩
  clear s_0 s_1 s_2 s_3 s_4 s_5 s_6 r_0 r_1 r_2 r_3 r_4 r_5 r_6 x_0 x_1 x_2 x_3 x_4 x_5 x_6 x_7 x_8 x_9
  have KS : SBox w1 w.heap.size (s) := HS.out.later hb
  have KR : SBox w1 (w.heap.size + 1) (r) := HR.out.later hb
  have KX : Box2 w1 (w.heap.size + 1 + 1) ((x, y)) := HX.out.later hb
  have G : Hid (Grow w w1) := hide (Grow.trans' G.out hb)
  clear hb HS HR HX
  have HS := hide KS
  have HR := hide KR
  have HX := hide KX
  obtain ⟨s_0, s_1, s_2, s_3, s_4, s_5, s_6⟩ := KS
  obtain ⟨r_0, r_1, r_2, r_3, r_4, r_5, r_6⟩ := KR
  obtain ⟨x_0, x_1, x_2, x_3, x_4, x_5, x_6, x_7, x_8, x_9⟩ := KX
  go_wp2_with fail
  refine (sMayC (s) true h1.out _).mono ?_
  rintro e w2 ⟨rfl, hb⟩
  clear s_0 s_1 s_2 s_3 s_4 s_5 s_6 r_0 r_1 r_2 r_3 r_4 r_5 r_6 x_0 x_1 x_2 x_3 x_4 x_5 x_6 x_7 x_8 x_9
  have KS : SBox w2 w.heap.size (s) := HS.out.later hb
  have KR : SBox w2 (w.heap.size + 1) (r) := HR.out.later hb
  have KX : Box2 w2 (w.heap.size + 1 + 1) ((x, y)) := HX.out.later hb
  have G : Hid (Grow w w2) := hide (Grow.trans' G.out hb)
  clear hb HS HR HX
  have HS := hide KS
  have HR := hide KR
  have HX := hide KX
  obtain ⟨s_0, s_1, s_2, s_3, s_4, s_5, s_6⟩ := KS
  obtain ⟨r_0, r_1, r_2, r_3, r_4, r_5, r_6⟩ := KR
  obtain ⟨x_0, x_1, x_2, x_3, x_4, x_5, x_6, x_7, x_8, x_9⟩ := KX
  go_wp2_with fail
  refine (sMayC (r) true h2.out _).mono ?_
  rintro e w3 ⟨rfl, hb⟩
  clear s_0 s_1 s_2 s_3 s_4 s_5 s_6 r_0 r_1 r_2 r_3 r_4 r_5 r_6 x_0 x_1 x_2 x_3 x_4 x_5 x_6 x_7 x_8 x_9
  have KS : SBox w3 w.heap.size (s) := HS.out.later hb
  have KR : SBox w3 (w.heap.size + 1) (r) := HR.out.later hb
  have KX : Box2 w3 (w.heap.size + 1 + 1) ((x, y)) := HX.out.later hb
  have G : Hid (Grow w w3) := hide (Grow.trans' G.out hb)
  clear hb HS HR HX
  have HS := hide KS
  have HR := hide KR
  have HX := hide KX
  obtain ⟨s_0, s_1, s_2, s_3, s_4, s_5, s_6⟩ := KS
  obtain ⟨r_0, r_1, r_2, r_3, r_4, r_5, r_6⟩ := KR
  obtain ⟨x_0, x_1, x_2, x_3, x_4, x_5, x_6, x_7, x_8, x_9⟩ := KX
  go_wp2_with fail
  refine (apply_at (s) x A 0 hA.out hE.out _).mono ?_
  rintro e w4 ⟨rfl, hb⟩
  clear s_0 s_1 s_2 s_3 s_4 s_5 s_6 r_0 r_1 r_2 r_3 r_4 r_5 r_6 x_0 x_1 x_2 x_3 x_4 x_5 x_6 x_7 x_8 x_9
  have KS : SBox (w4.alloc (.cells #[.int .i64 (A).e, .int .i64 (A).d, .int .i64 (A).x, .int .i64 (A).y, .int .i64 (A).z] 30)) w.heap.size (s) := (HS.out.later hb).later (Grow.alloc' _ _)
  have KR : SBox (w4.alloc (.cells #[.int .i64 (A).e, .int .i64 (A).d, .int .i64 (A).x, .int .i64 (A).y, .int .i64 (A).z] 30)) (w.heap.size + 1) (r) := (HR.out.later hb).later (Grow.alloc' _ _)
  have KX : Box2 (w4.alloc (.cells #[.int .i64 (A).e, .int .i64 (A).d, .int .i64 (A).x, .int .i64 (A).y, .int .i64 (A).z] 30)) (w.heap.size + 1 + 1) ((x, y)) := (HX.out.later hb).later (Grow.alloc' _ _)
  have KA : Box (w4.alloc (.cells #[.int .i64 (A).e, .int .i64 (A).d, .int .i64 (A).x, .int .i64 (A).y, .int .i64 (A).z] 30)) w4.heap.size (A) := Box.new _ _
  have G : Hid (Grow w (w4.alloc (.cells #[.int .i64 (A).e, .int .i64 (A).d, .int .i64 (A).x, .int .i64 (A).y, .int .i64 (A).z] 30))) := hide (Grow.trans' (Grow.trans' G.out hb) (Grow.alloc' _ _))
  clear hb HS HR HX
  have HS := hide KS
  have HR := hide KR
  have HX := hide KX
  have HA := hide KA
  obtain ⟨s_0, s_1, s_2, s_3, s_4, s_5, s_6⟩ := KS
  obtain ⟨r_0, r_1, r_2, r_3, r_4, r_5, r_6⟩ := KR
  obtain ⟨x_0, x_1, x_2, x_3, x_4, x_5, x_6, x_7, x_8, x_9⟩ := KX
  obtain ⟨a_0, a_1, a_2, a_3, a_4⟩ := KA
  go_wp2_with fail
  refine (apply_at (r) x B F hB.out hF.out _).mono ?_
  rintro e w5 ⟨rfl, hb⟩
  clear s_0 s_1 s_2 s_3 s_4 s_5 s_6 r_0 r_1 r_2 r_3 r_4 r_5 r_6 x_0 x_1 x_2 x_3 x_4 x_5 x_6 x_7 x_8 x_9 a_0 a_1 a_2 a_3 a_4
  have KS : SBox (w5.alloc (.cells #[.int .i64 (B).e, .int .i64 (B).d, .int .i64 (B).x, .int .i64 (B).y, .int .i64 (B).z] 30)) w.heap.size (s) := (HS.out.later hb).later (Grow.alloc' _ _)
  have KR : SBox (w5.alloc (.cells #[.int .i64 (B).e, .int .i64 (B).d, .int .i64 (B).x, .int .i64 (B).y, .int .i64 (B).z] 30)) (w.heap.size + 1) (r) := (HR.out.later hb).later (Grow.alloc' _ _)
  have KX : Box2 (w5.alloc (.cells #[.int .i64 (B).e, .int .i64 (B).d, .int .i64 (B).x, .int .i64 (B).y, .int .i64 (B).z] 30)) (w.heap.size + 1 + 1) ((x, y)) := (HX.out.later hb).later (Grow.alloc' _ _)
  have KA : Box (w5.alloc (.cells #[.int .i64 (B).e, .int .i64 (B).d, .int .i64 (B).x, .int .i64 (B).y, .int .i64 (B).z] 30)) w4.heap.size (A) := (HA.out.later hb).later (Grow.alloc' _ _)
  have KB : Box (w5.alloc (.cells #[.int .i64 (B).e, .int .i64 (B).d, .int .i64 (B).x, .int .i64 (B).y, .int .i64 (B).z] 30)) w5.heap.size (B) := Box.new _ _
  have G : Hid (Grow w (w5.alloc (.cells #[.int .i64 (B).e, .int .i64 (B).d, .int .i64 (B).x, .int .i64 (B).y, .int .i64 (B).z] 30))) := hide (Grow.trans' (Grow.trans' G.out hb) (Grow.alloc' _ _))
  clear hb HS HR HX HA
  have HS := hide KS
  have HR := hide KR
  have HX := hide KX
  have HA := hide KA
  have HB := hide KB
  obtain ⟨s_0, s_1, s_2, s_3, s_4, s_5, s_6⟩ := KS
  obtain ⟨r_0, r_1, r_2, r_3, r_4, r_5, r_6⟩ := KR
  obtain ⟨x_0, x_1, x_2, x_3, x_4, x_5, x_6, x_7, x_8, x_9⟩ := KX
  obtain ⟨a_0, a_1, a_2, a_3, a_4⟩ := KA
  obtain ⟨b_0, b_1, b_2, b_3, b_4⟩ := KB
  go_wp2_with fail
  refine (apply_at (s) y C 0 hC.out hL.out _).mono ?_
  rintro e w6 ⟨rfl, hb⟩
  clear s_0 s_1 s_2 s_3 s_4 s_5 s_6 r_0 r_1 r_2 r_3 r_4 r_5 r_6 x_0 x_1 x_2 x_3 x_4 x_5 x_6 x_7 x_8 x_9 a_0 a_1 a_2 a_3 a_4 b_0 b_1 b_2 b_3 b_4
  have KS : SBox (w6.alloc (.cells #[.int .i64 (C).e, .int .i64 (C).d, .int .i64 (C).x, .int .i64 (C).y, .int .i64 (C).z] 30)) w.heap.size (s) := (HS.out.later hb).later (Grow.alloc' _ _)
  have KR : SBox (w6.alloc (.cells #[.int .i64 (C).e, .int .i64 (C).d, .int .i64 (C).x, .int .i64 (C).y, .int .i64 (C).z] 30)) (w.heap.size + 1) (r) := (HR.out.later hb).later (Grow.alloc' _ _)
  have KX : Box2 (w6.alloc (.cells #[.int .i64 (C).e, .int .i64 (C).d, .int .i64 (C).x, .int .i64 (C).y, .int .i64 (C).z] 30)) (w.heap.size + 1 + 1) ((x, y)) := (HX.out.later hb).later (Grow.alloc' _ _)
  have KA : Box (w6.alloc (.cells #[.int .i64 (C).e, .int .i64 (C).d, .int .i64 (C).x, .int .i64 (C).y, .int .i64 (C).z] 30)) w4.heap.size (A) := (HA.out.later hb).later (Grow.alloc' _ _)
  have KB : Box (w6.alloc (.cells #[.int .i64 (C).e, .int .i64 (C).d, .int .i64 (C).x, .int .i64 (C).y, .int .i64 (C).z] 30)) w5.heap.size (B) := (HB.out.later hb).later (Grow.alloc' _ _)
  have KC : Box (w6.alloc (.cells #[.int .i64 (C).e, .int .i64 (C).d, .int .i64 (C).x, .int .i64 (C).y, .int .i64 (C).z] 30)) w6.heap.size (C) := Box.new _ _
  have G : Hid (Grow w (w6.alloc (.cells #[.int .i64 (C).e, .int .i64 (C).d, .int .i64 (C).x, .int .i64 (C).y, .int .i64 (C).z] 30))) := hide (Grow.trans' (Grow.trans' G.out hb) (Grow.alloc' _ _))
  clear hb HS HR HX HA HB
  have HS := hide KS
  have HR := hide KR
  have HX := hide KX
  have HA := hide KA
  have HB := hide KB
  have HC := hide KC
  obtain ⟨s_0, s_1, s_2, s_3, s_4, s_5, s_6⟩ := KS
  obtain ⟨r_0, r_1, r_2, r_3, r_4, r_5, r_6⟩ := KR
  obtain ⟨x_0, x_1, x_2, x_3, x_4, x_5, x_6, x_7, x_8, x_9⟩ := KX
  obtain ⟨a_0, a_1, a_2, a_3, a_4⟩ := KA
  obtain ⟨b_0, b_1, b_2, b_3, b_4⟩ := KB
  obtain ⟨c_0, c_1, c_2, c_3, c_4⟩ := KC
  go_wp2_with fail
  refine (refLeC A B p hp.out _).mono ?_
  rintro e w7 ⟨rfl, hb⟩
  clear s_0 s_1 s_2 s_3 s_4 s_5 s_6 r_0 r_1 r_2 r_3 r_4 r_5 r_6 x_0 x_1 x_2 x_3 x_4 x_5 x_6 x_7 x_8 x_9 a_0 a_1 a_2 a_3 a_4 b_0 b_1 b_2 b_3 b_4 c_0 c_1 c_2 c_3 c_4
  have KS : SBox w7 w.heap.size (s) := HS.out.later hb
  have KR : SBox w7 (w.heap.size + 1) (r) := HR.out.later hb
  have KX : Box2 w7 (w.heap.size + 1 + 1) ((x, y)) := HX.out.later hb
  have KA : Box w7 w4.heap.size (A) := HA.out.later hb
  have KB : Box w7 w5.heap.size (B) := HB.out.later hb
  have KC : Box w7 w6.heap.size (C) := HC.out.later hb
  have G : Hid (Grow w w7) := hide (Grow.trans' G.out hb)
  clear hb HS HR HX HA HB HC
  have HS := hide KS
  have HR := hide KR
  have HX := hide KX
  have HA := hide KA
  have HB := hide KB
  have HC := hide KC
  obtain ⟨s_0, s_1, s_2, s_3, s_4, s_5, s_6⟩ := KS
  obtain ⟨r_0, r_1, r_2, r_3, r_4, r_5, r_6⟩ := KR
  obtain ⟨x_0, x_1, x_2, x_3, x_4, x_5, x_6, x_7, x_8, x_9⟩ := KX
  obtain ⟨a_0, a_1, a_2, a_3, a_4⟩ := KA
  obtain ⟨b_0, b_1, b_2, b_3, b_4⟩ := KB
  obtain ⟨c_0, c_1, c_2, c_3, c_4⟩ := KC
  go_wp2_with fail
  refine (refLeC x y true hu.out _).mono ?_
  rintro e w8 ⟨rfl, hb⟩
  clear s_0 s_1 s_2 s_3 s_4 s_5 s_6 r_0 r_1 r_2 r_3 r_4 r_5 r_6 x_0 x_1 x_2 x_3 x_4 x_5 x_6 x_7 x_8 x_9 a_0 a_1 a_2 a_3 a_4 b_0 b_1 b_2 b_3 b_4 c_0 c_1 c_2 c_3 c_4
  have KS : SBox w8 w.heap.size (s) := HS.out.later hb
  have KR : SBox w8 (w.heap.size + 1) (r) := HR.out.later hb
  have KX : Box2 w8 (w.heap.size + 1 + 1) ((x, y)) := HX.out.later hb
  have KA : Box w8 w4.heap.size (A) := HA.out.later hb
  have KB : Box w8 w5.heap.size (B) := HB.out.later hb
  have KC : Box w8 w6.heap.size (C) := HC.out.later hb
  have G : Hid (Grow w w8) := hide (Grow.trans' G.out hb)
  clear hb HS HR HX HA HB HC
  have HS := hide KS
  have HR := hide KR
  have HX := hide KX
  have HA := hide KA
  have HB := hide KB
  have HC := hide KC
  obtain ⟨s_0, s_1, s_2, s_3, s_4, s_5, s_6⟩ := KS
  obtain ⟨r_0, r_1, r_2, r_3, r_4, r_5, r_6⟩ := KR
  obtain ⟨x_0, x_1, x_2, x_3, x_4, x_5, x_6, x_7, x_8, x_9⟩ := KX
  obtain ⟨a_0, a_1, a_2, a_3, a_4⟩ := KA
  obtain ⟨b_0, b_1, b_2, b_3, b_4⟩ := KB
  obtain ⟨c_0, c_1, c_2, c_3, c_4⟩ := KC
  go_wp2_with fail
  refine (refLeC A C true hm.out _).mono ?_
  rintro e w9 ⟨rfl, hb⟩
  clear s_0 s_1 s_2 s_3 s_4 s_5 s_6 r_0 r_1 r_2 r_3 r_4 r_5 r_6 x_0 x_1 x_2 x_3 x_4 x_5 x_6 x_7 x_8 x_9 a_0 a_1 a_2 a_3 a_4 b_0 b_1 b_2 b_3 b_4 c_0 c_1 c_2 c_3 c_4
  have KS : SBox w9 w.heap.size (s) := HS.out.later hb
  have KR : SBox w9 (w.heap.size + 1) (r) := HR.out.later hb
  have KX : Box2 w9 (w.heap.size + 1 + 1) ((x, y)) := HX.out.later hb
  have KA : Box w9 w4.heap.size (A) := HA.out.later hb
  have KB : Box w9 w5.heap.size (B) := HB.out.later hb
  have KC : Box w9 w6.heap.size (C) := HC.out.later hb
  have G : Hid (Grow w w9) := hide (Grow.trans' G.out hb)
  clear hb HS HR HX HA HB HC
  have HS := hide KS
  have HR := hide KR
  have HX := hide KX
  have HA := hide KA
  have HB := hide KB
  have HC := hide KC
  obtain ⟨s_0, s_1, s_2, s_3, s_4, s_5, s_6⟩ := KS
  obtain ⟨r_0, r_1, r_2, r_3, r_4, r_5, r_6⟩ := KR
  obtain ⟨x_0, x_1, x_2, x_3, x_4, x_5, x_6, x_7, x_8, x_9⟩ := KX
  obtain ⟨a_0, a_1, a_2, a_3, a_4⟩ := KA
  obtain ⟨b_0, b_1, b_2, b_3, b_4⟩ := KB
  obtain ⟨c_0, c_1, c_2, c_3, c_4⟩ := KC
  go_wp2_with fail
  refine (sLeC (s) (r) false hl.out _).mono ?_
  rintro e w10 ⟨rfl, hb⟩
  clear s_0 s_1 s_2 s_3 s_4 s_5 s_6 r_0 r_1 r_2 r_3 r_4 r_5 r_6 x_0 x_1 x_2 x_3 x_4 x_5 x_6 x_7 x_8 x_9 a_0 a_1 a_2 a_3 a_4 b_0 b_1 b_2 b_3 b_4 c_0 c_1 c_2 c_3 c_4
  have KS : SBox w10 w.heap.size (s) := HS.out.later hb
  have KR : SBox w10 (w.heap.size + 1) (r) := HR.out.later hb
  have KX : Box2 w10 (w.heap.size + 1 + 1) ((x, y)) := HX.out.later hb
  have KA : Box w10 w4.heap.size (A) := HA.out.later hb
  have KB : Box w10 w5.heap.size (B) := HB.out.later hb
  have KC : Box w10 w6.heap.size (C) := HC.out.later hb
  have G : Hid (Grow w w10) := hide (Grow.trans' G.out hb)
  clear hb HS HR HX HA HB HC
  have k2 := K2.out
  obtain ⟨s0, s1, s2, s3, s4, s5, s6⟩ := KS
  obtain ⟨r0, r1, r2, r3, r4, r5, r6⟩ := KR
  clear KA KB KC KX
  rw [k2] at s0
  go_wp2_with fail
  rw [← k2]
  refine (sLeC s s true hss.out _).mono ?_
  rintro e w20 ⟨rfl, hb⟩
  have G := hide (Grow.trans' G.out hb)
  clear s0 s1 s2 s3 s4 s5 s6 r0 r1 r2 r3 r4 r5 r6 hb
  go_wp2
  go_ret
  exact ⟨rfl, G.out⟩
set_option maxHeartbeats 1000000 in
set_option maxRecDepth 100000 in
theorem SummaryLess_l1 (sf st sk sp sx sy sz rk rp rx ry rz : Int) (x y : Tm) (A B C : Tm) (E F L : Int) (p m : Bool) (w : World) (h1 : Hid (mayS (Sm.mk sf st sk sp sx sy sz) = true)) (h2 : Hid (mayS (Sm.mk sf st rk rp rx ry rz) = true)) (hA : Hid (applyT (Sm.mk sf st sk sp sx sy sz) x = A)) (hE : Hid (applyE (Sm.mk sf st sk sp sx sy sz) x = E)) (hB : Hid (applyT (Sm.mk sf st rk rp rx ry rz) x = B)) (hF : Hid (applyE (Sm.mk sf st rk rp rx ry rz) x = F)) (hC : Hid (applyT (Sm.mk sf st sk sp sx sy sz) y = C)) (hL : Hid (applyE (Sm.mk sf st sk sp sx sy sz) y = L)) (hp : Hid (leB A B = p)) (hu : Hid (leB x y = false)) (hm : Hid (leB A C = m)) (hl : Hid (leS (Sm.mk sf st sk sp sx sy sz) (Sm.mk sf st rk rp rx ry rz) = true)) (k1 : ¬ E = 0) (hss : Hid (leS (Sm.mk sf st sk sp sx sy sz) (Sm.mk sf st sk sp sx sy sz) = true)) :
    Calls Try.prog 7 #[.agg #[.int .i64 (Sm.mk sf st sk sp sx sy sz).f, .int .i64 (Sm.mk sf st sk sp sx sy sz).t, .int .i64 (Sm.mk sf st sk sp sx sy sz).k, .int .i64 (Sm.mk sf st sk sp sx sy sz).ep, .int .i64 (Sm.mk sf st sk sp sx sy sz).x, .int .i64 (Sm.mk sf st sk sp sx sy sz).y, .int .i64 (Sm.mk sf st sk sp sx sy sz).z], .agg #[.int .i64 (Sm.mk sf st rk rp rx ry rz).f, .int .i64 (Sm.mk sf st rk rp rx ry rz).t, .int .i64 (Sm.mk sf st rk rp rx ry rz).k, .int .i64 (Sm.mk sf st rk rp rx ry rz).ep, .int .i64 (Sm.mk sf st rk rp rx ry rz).x, .int .i64 (Sm.mk sf st rk rp rx ry rz).y, .int .i64 (Sm.mk sf st rk rp rx ry rz).z], .agg #[.int .i64 x.e, .int .i64 x.d, .int .i64 x.x, .int .i64 x.y, .int .i64 x.z, .int .i64 y.e, .int .i64 y.d, .int .i64 y.x, .int .i64 y.y, .int .i64 y.z]] w fun e w' => e = .returned (.bool true) ∧ Below w.heap.size w w' := by
  go_enter Try.func7, Try.ntmps7
  have KS : SBox (((w.alloc (.cells #[.int .i64 (Sm.mk sf st sk sp sx sy sz).f, .int .i64 (Sm.mk sf st sk sp sx sy sz).t, .int .i64 (Sm.mk sf st sk sp sx sy sz).k, .int .i64 (Sm.mk sf st sk sp sx sy sz).ep, .int .i64 (Sm.mk sf st sk sp sx sy sz).x, .int .i64 (Sm.mk sf st sk sp sx sy sz).y, .int .i64 (Sm.mk sf st sk sp sx sy sz).z] 24)).alloc (.cells #[.int .i64 (Sm.mk sf st rk rp rx ry rz).f, .int .i64 (Sm.mk sf st rk rp rx ry rz).t, .int .i64 (Sm.mk sf st rk rp rx ry rz).k, .int .i64 (Sm.mk sf st rk rp rx ry rz).ep, .int .i64 (Sm.mk sf st rk rp rx ry rz).x, .int .i64 (Sm.mk sf st rk rp rx ry rz).y, .int .i64 (Sm.mk sf st rk rp rx ry rz).z] 24)).alloc (.cells #[.int .i64 x.e, .int .i64 x.d, .int .i64 x.x, .int .i64 x.y, .int .i64 x.z, .int .i64 y.e, .int .i64 y.d, .int .i64 y.x, .int .i64 y.y, .int .i64 y.z] 39)) w.heap.size (Sm.mk sf st sk sp sx sy sz) := by simp [SBox, go_sem]
  have KR : SBox (((w.alloc (.cells #[.int .i64 (Sm.mk sf st sk sp sx sy sz).f, .int .i64 (Sm.mk sf st sk sp sx sy sz).t, .int .i64 (Sm.mk sf st sk sp sx sy sz).k, .int .i64 (Sm.mk sf st sk sp sx sy sz).ep, .int .i64 (Sm.mk sf st sk sp sx sy sz).x, .int .i64 (Sm.mk sf st sk sp sx sy sz).y, .int .i64 (Sm.mk sf st sk sp sx sy sz).z] 24)).alloc (.cells #[.int .i64 (Sm.mk sf st rk rp rx ry rz).f, .int .i64 (Sm.mk sf st rk rp rx ry rz).t, .int .i64 (Sm.mk sf st rk rp rx ry rz).k, .int .i64 (Sm.mk sf st rk rp rx ry rz).ep, .int .i64 (Sm.mk sf st rk rp rx ry rz).x, .int .i64 (Sm.mk sf st rk rp rx ry rz).y, .int .i64 (Sm.mk sf st rk rp rx ry rz).z] 24)).alloc (.cells #[.int .i64 x.e, .int .i64 x.d, .int .i64 x.x, .int .i64 x.y, .int .i64 x.z, .int .i64 y.e, .int .i64 y.d, .int .i64 y.x, .int .i64 y.y, .int .i64 y.z] 39)) (w.heap.size + 1) (Sm.mk sf st rk rp rx ry rz) := by simp [SBox, go_sem]
  have KX : Box2 (((w.alloc (.cells #[.int .i64 (Sm.mk sf st sk sp sx sy sz).f, .int .i64 (Sm.mk sf st sk sp sx sy sz).t, .int .i64 (Sm.mk sf st sk sp sx sy sz).k, .int .i64 (Sm.mk sf st sk sp sx sy sz).ep, .int .i64 (Sm.mk sf st sk sp sx sy sz).x, .int .i64 (Sm.mk sf st sk sp sx sy sz).y, .int .i64 (Sm.mk sf st sk sp sx sy sz).z] 24)).alloc (.cells #[.int .i64 (Sm.mk sf st rk rp rx ry rz).f, .int .i64 (Sm.mk sf st rk rp rx ry rz).t, .int .i64 (Sm.mk sf st rk rp rx ry rz).k, .int .i64 (Sm.mk sf st rk rp rx ry rz).ep, .int .i64 (Sm.mk sf st rk rp rx ry rz).x, .int .i64 (Sm.mk sf st rk rp rx ry rz).y, .int .i64 (Sm.mk sf st rk rp rx ry rz).z] 24)).alloc (.cells #[.int .i64 x.e, .int .i64 x.d, .int .i64 x.x, .int .i64 x.y, .int .i64 x.z, .int .i64 y.e, .int .i64 y.d, .int .i64 y.x, .int .i64 y.y, .int .i64 y.z] 39)) (w.heap.size + 1 + 1) (x, y) := by simp [Box2, go_sem]
  have G : Hid (Grow w (((w.alloc (.cells #[.int .i64 (Sm.mk sf st sk sp sx sy sz).f, .int .i64 (Sm.mk sf st sk sp sx sy sz).t, .int .i64 (Sm.mk sf st sk sp sx sy sz).k, .int .i64 (Sm.mk sf st sk sp sx sy sz).ep, .int .i64 (Sm.mk sf st sk sp sx sy sz).x, .int .i64 (Sm.mk sf st sk sp sx sy sz).y, .int .i64 (Sm.mk sf st sk sp sx sy sz).z] 24)).alloc (.cells #[.int .i64 (Sm.mk sf st rk rp rx ry rz).f, .int .i64 (Sm.mk sf st rk rp rx ry rz).t, .int .i64 (Sm.mk sf st rk rp rx ry rz).k, .int .i64 (Sm.mk sf st rk rp rx ry rz).ep, .int .i64 (Sm.mk sf st rk rp rx ry rz).x, .int .i64 (Sm.mk sf st rk rp rx ry rz).y, .int .i64 (Sm.mk sf st rk rp rx ry rz).z] 24)).alloc (.cells #[.int .i64 x.e, .int .i64 x.d, .int .i64 x.x, .int .i64 x.y, .int .i64 x.z, .int .i64 y.e, .int .i64 y.d, .int .i64 y.x, .int .i64 y.y, .int .i64 y.z] 39))) := hide (Grow.trans' (Grow.trans' (Grow.alloc' _ _) (Grow.alloc' _ _)) (Grow.alloc' _ _))
  have HS := hide KS
  have HR := hide KR
  have HX := hide KX
  obtain ⟨s_0, s_1, s_2, s_3, s_4, s_5, s_6⟩ := KS
  obtain ⟨r_0, r_1, r_2, r_3, r_4, r_5, r_6⟩ := KR
  obtain ⟨x_0, x_1, x_2, x_3, x_4, x_5, x_6, x_7, x_8, x_9⟩ := KX
  go_wp2_with fail
  refine (shown_any _).mono ?_
  rintro e w1 ⟨rfl, hb⟩
  clear s_0 s_1 s_2 s_3 s_4 s_5 s_6 r_0 r_1 r_2 r_3 r_4 r_5 r_6 x_0 x_1 x_2 x_3 x_4 x_5 x_6 x_7 x_8 x_9
  have KS : SBox w1 w.heap.size (Sm.mk sf st sk sp sx sy sz) := HS.out.later hb
  have KR : SBox w1 (w.heap.size + 1) (Sm.mk sf st rk rp rx ry rz) := HR.out.later hb
  have KX : Box2 w1 (w.heap.size + 1 + 1) ((x, y)) := HX.out.later hb
  have G : Hid (Grow w w1) := hide (Grow.trans' G.out hb)
  clear hb HS HR HX
  have HS := hide KS
  have HR := hide KR
  have HX := hide KX
  obtain ⟨s_0, s_1, s_2, s_3, s_4, s_5, s_6⟩ := KS
  obtain ⟨r_0, r_1, r_2, r_3, r_4, r_5, r_6⟩ := KR
  obtain ⟨x_0, x_1, x_2, x_3, x_4, x_5, x_6, x_7, x_8, x_9⟩ := KX
  go_wp2_with fail
  refine (sMayC (Sm.mk sf st sk sp sx sy sz) true h1.out _).mono ?_
  rintro e w2 ⟨rfl, hb⟩
  clear s_0 s_1 s_2 s_3 s_4 s_5 s_6 r_0 r_1 r_2 r_3 r_4 r_5 r_6 x_0 x_1 x_2 x_3 x_4 x_5 x_6 x_7 x_8 x_9
  have KS : SBox w2 w.heap.size (Sm.mk sf st sk sp sx sy sz) := HS.out.later hb
  have KR : SBox w2 (w.heap.size + 1) (Sm.mk sf st rk rp rx ry rz) := HR.out.later hb
  have KX : Box2 w2 (w.heap.size + 1 + 1) ((x, y)) := HX.out.later hb
  have G : Hid (Grow w w2) := hide (Grow.trans' G.out hb)
  clear hb HS HR HX
  have HS := hide KS
  have HR := hide KR
  have HX := hide KX
  obtain ⟨s_0, s_1, s_2, s_3, s_4, s_5, s_6⟩ := KS
  obtain ⟨r_0, r_1, r_2, r_3, r_4, r_5, r_6⟩ := KR
  obtain ⟨x_0, x_1, x_2, x_3, x_4, x_5, x_6, x_7, x_8, x_9⟩ := KX
  go_wp2_with fail
  refine (sMayC (Sm.mk sf st rk rp rx ry rz) true h2.out _).mono ?_
  rintro e w3 ⟨rfl, hb⟩
  clear s_0 s_1 s_2 s_3 s_4 s_5 s_6 r_0 r_1 r_2 r_3 r_4 r_5 r_6 x_0 x_1 x_2 x_3 x_4 x_5 x_6 x_7 x_8 x_9
  have KS : SBox w3 w.heap.size (Sm.mk sf st sk sp sx sy sz) := HS.out.later hb
  have KR : SBox w3 (w.heap.size + 1) (Sm.mk sf st rk rp rx ry rz) := HR.out.later hb
  have KX : Box2 w3 (w.heap.size + 1 + 1) ((x, y)) := HX.out.later hb
  have G : Hid (Grow w w3) := hide (Grow.trans' G.out hb)
  clear hb HS HR HX
  have HS := hide KS
  have HR := hide KR
  have HX := hide KX
  obtain ⟨s_0, s_1, s_2, s_3, s_4, s_5, s_6⟩ := KS
  obtain ⟨r_0, r_1, r_2, r_3, r_4, r_5, r_6⟩ := KR
  obtain ⟨x_0, x_1, x_2, x_3, x_4, x_5, x_6, x_7, x_8, x_9⟩ := KX
  go_wp2_with fail
  refine (apply_at (Sm.mk sf st sk sp sx sy sz) x A E hA.out hE.out _).mono ?_
  rintro e w4 ⟨rfl, hb⟩
  clear s_0 s_1 s_2 s_3 s_4 s_5 s_6 r_0 r_1 r_2 r_3 r_4 r_5 r_6 x_0 x_1 x_2 x_3 x_4 x_5 x_6 x_7 x_8 x_9
  have KS : SBox (w4.alloc (.cells #[.int .i64 (A).e, .int .i64 (A).d, .int .i64 (A).x, .int .i64 (A).y, .int .i64 (A).z] 30)) w.heap.size (Sm.mk sf st sk sp sx sy sz) := (HS.out.later hb).later (Grow.alloc' _ _)
  have KR : SBox (w4.alloc (.cells #[.int .i64 (A).e, .int .i64 (A).d, .int .i64 (A).x, .int .i64 (A).y, .int .i64 (A).z] 30)) (w.heap.size + 1) (Sm.mk sf st rk rp rx ry rz) := (HR.out.later hb).later (Grow.alloc' _ _)
  have KX : Box2 (w4.alloc (.cells #[.int .i64 (A).e, .int .i64 (A).d, .int .i64 (A).x, .int .i64 (A).y, .int .i64 (A).z] 30)) (w.heap.size + 1 + 1) ((x, y)) := (HX.out.later hb).later (Grow.alloc' _ _)
  have KA : Box (w4.alloc (.cells #[.int .i64 (A).e, .int .i64 (A).d, .int .i64 (A).x, .int .i64 (A).y, .int .i64 (A).z] 30)) w4.heap.size (A) := Box.new _ _
  have G : Hid (Grow w (w4.alloc (.cells #[.int .i64 (A).e, .int .i64 (A).d, .int .i64 (A).x, .int .i64 (A).y, .int .i64 (A).z] 30))) := hide (Grow.trans' (Grow.trans' G.out hb) (Grow.alloc' _ _))
  clear hb HS HR HX
  have HS := hide KS
  have HR := hide KR
  have HX := hide KX
  have HA := hide KA
  obtain ⟨s_0, s_1, s_2, s_3, s_4, s_5, s_6⟩ := KS
  obtain ⟨r_0, r_1, r_2, r_3, r_4, r_5, r_6⟩ := KR
  obtain ⟨x_0, x_1, x_2, x_3, x_4, x_5, x_6, x_7, x_8, x_9⟩ := KX
  obtain ⟨a_0, a_1, a_2, a_3, a_4⟩ := KA
  go_wp2_with fail
  refine (apply_at (Sm.mk sf st rk rp rx ry rz) x B F hB.out hF.out _).mono ?_
  rintro e w5 ⟨rfl, hb⟩
  clear s_0 s_1 s_2 s_3 s_4 s_5 s_6 r_0 r_1 r_2 r_3 r_4 r_5 r_6 x_0 x_1 x_2 x_3 x_4 x_5 x_6 x_7 x_8 x_9 a_0 a_1 a_2 a_3 a_4
  have KS : SBox (w5.alloc (.cells #[.int .i64 (B).e, .int .i64 (B).d, .int .i64 (B).x, .int .i64 (B).y, .int .i64 (B).z] 30)) w.heap.size (Sm.mk sf st sk sp sx sy sz) := (HS.out.later hb).later (Grow.alloc' _ _)
  have KR : SBox (w5.alloc (.cells #[.int .i64 (B).e, .int .i64 (B).d, .int .i64 (B).x, .int .i64 (B).y, .int .i64 (B).z] 30)) (w.heap.size + 1) (Sm.mk sf st rk rp rx ry rz) := (HR.out.later hb).later (Grow.alloc' _ _)
  have KX : Box2 (w5.alloc (.cells #[.int .i64 (B).e, .int .i64 (B).d, .int .i64 (B).x, .int .i64 (B).y, .int .i64 (B).z] 30)) (w.heap.size + 1 + 1) ((x, y)) := (HX.out.later hb).later (Grow.alloc' _ _)
  have KA : Box (w5.alloc (.cells #[.int .i64 (B).e, .int .i64 (B).d, .int .i64 (B).x, .int .i64 (B).y, .int .i64 (B).z] 30)) w4.heap.size (A) := (HA.out.later hb).later (Grow.alloc' _ _)
  have KB : Box (w5.alloc (.cells #[.int .i64 (B).e, .int .i64 (B).d, .int .i64 (B).x, .int .i64 (B).y, .int .i64 (B).z] 30)) w5.heap.size (B) := Box.new _ _
  have G : Hid (Grow w (w5.alloc (.cells #[.int .i64 (B).e, .int .i64 (B).d, .int .i64 (B).x, .int .i64 (B).y, .int .i64 (B).z] 30))) := hide (Grow.trans' (Grow.trans' G.out hb) (Grow.alloc' _ _))
  clear hb HS HR HX HA
  have HS := hide KS
  have HR := hide KR
  have HX := hide KX
  have HA := hide KA
  have HB := hide KB
  obtain ⟨s_0, s_1, s_2, s_3, s_4, s_5, s_6⟩ := KS
  obtain ⟨r_0, r_1, r_2, r_3, r_4, r_5, r_6⟩ := KR
  obtain ⟨x_0, x_1, x_2, x_3, x_4, x_5, x_6, x_7, x_8, x_9⟩ := KX
  obtain ⟨a_0, a_1, a_2, a_3, a_4⟩ := KA
  obtain ⟨b_0, b_1, b_2, b_3, b_4⟩ := KB
  go_wp2_with fail
  refine (apply_at (Sm.mk sf st sk sp sx sy sz) y C L hC.out hL.out _).mono ?_
  rintro e w6 ⟨rfl, hb⟩
  clear s_0 s_1 s_2 s_3 s_4 s_5 s_6 r_0 r_1 r_2 r_3 r_4 r_5 r_6 x_0 x_1 x_2 x_3 x_4 x_5 x_6 x_7 x_8 x_9 a_0 a_1 a_2 a_3 a_4 b_0 b_1 b_2 b_3 b_4
  have KS : SBox (w6.alloc (.cells #[.int .i64 (C).e, .int .i64 (C).d, .int .i64 (C).x, .int .i64 (C).y, .int .i64 (C).z] 30)) w.heap.size (Sm.mk sf st sk sp sx sy sz) := (HS.out.later hb).later (Grow.alloc' _ _)
  have KR : SBox (w6.alloc (.cells #[.int .i64 (C).e, .int .i64 (C).d, .int .i64 (C).x, .int .i64 (C).y, .int .i64 (C).z] 30)) (w.heap.size + 1) (Sm.mk sf st rk rp rx ry rz) := (HR.out.later hb).later (Grow.alloc' _ _)
  have KX : Box2 (w6.alloc (.cells #[.int .i64 (C).e, .int .i64 (C).d, .int .i64 (C).x, .int .i64 (C).y, .int .i64 (C).z] 30)) (w.heap.size + 1 + 1) ((x, y)) := (HX.out.later hb).later (Grow.alloc' _ _)
  have KA : Box (w6.alloc (.cells #[.int .i64 (C).e, .int .i64 (C).d, .int .i64 (C).x, .int .i64 (C).y, .int .i64 (C).z] 30)) w4.heap.size (A) := (HA.out.later hb).later (Grow.alloc' _ _)
  have KB : Box (w6.alloc (.cells #[.int .i64 (C).e, .int .i64 (C).d, .int .i64 (C).x, .int .i64 (C).y, .int .i64 (C).z] 30)) w5.heap.size (B) := (HB.out.later hb).later (Grow.alloc' _ _)
  have KC : Box (w6.alloc (.cells #[.int .i64 (C).e, .int .i64 (C).d, .int .i64 (C).x, .int .i64 (C).y, .int .i64 (C).z] 30)) w6.heap.size (C) := Box.new _ _
  have G : Hid (Grow w (w6.alloc (.cells #[.int .i64 (C).e, .int .i64 (C).d, .int .i64 (C).x, .int .i64 (C).y, .int .i64 (C).z] 30))) := hide (Grow.trans' (Grow.trans' G.out hb) (Grow.alloc' _ _))
  clear hb HS HR HX HA HB
  have HS := hide KS
  have HR := hide KR
  have HX := hide KX
  have HA := hide KA
  have HB := hide KB
  have HC := hide KC
  obtain ⟨s_0, s_1, s_2, s_3, s_4, s_5, s_6⟩ := KS
  obtain ⟨r_0, r_1, r_2, r_3, r_4, r_5, r_6⟩ := KR
  obtain ⟨x_0, x_1, x_2, x_3, x_4, x_5, x_6, x_7, x_8, x_9⟩ := KX
  obtain ⟨a_0, a_1, a_2, a_3, a_4⟩ := KA
  obtain ⟨b_0, b_1, b_2, b_3, b_4⟩ := KB
  obtain ⟨c_0, c_1, c_2, c_3, c_4⟩ := KC
  go_wp2_with fail
  refine (refLeC A B p hp.out _).mono ?_
  rintro e w7 ⟨rfl, hb⟩
  clear s_0 s_1 s_2 s_3 s_4 s_5 s_6 r_0 r_1 r_2 r_3 r_4 r_5 r_6 x_0 x_1 x_2 x_3 x_4 x_5 x_6 x_7 x_8 x_9 a_0 a_1 a_2 a_3 a_4 b_0 b_1 b_2 b_3 b_4 c_0 c_1 c_2 c_3 c_4
  have KS : SBox w7 w.heap.size (Sm.mk sf st sk sp sx sy sz) := HS.out.later hb
  have KR : SBox w7 (w.heap.size + 1) (Sm.mk sf st rk rp rx ry rz) := HR.out.later hb
  have KX : Box2 w7 (w.heap.size + 1 + 1) ((x, y)) := HX.out.later hb
  have KA : Box w7 w4.heap.size (A) := HA.out.later hb
  have KB : Box w7 w5.heap.size (B) := HB.out.later hb
  have KC : Box w7 w6.heap.size (C) := HC.out.later hb
  have G : Hid (Grow w w7) := hide (Grow.trans' G.out hb)
  clear hb HS HR HX HA HB HC
  have HS := hide KS
  have HR := hide KR
  have HX := hide KX
  have HA := hide KA
  have HB := hide KB
  have HC := hide KC
  obtain ⟨s_0, s_1, s_2, s_3, s_4, s_5, s_6⟩ := KS
  obtain ⟨r_0, r_1, r_2, r_3, r_4, r_5, r_6⟩ := KR
  obtain ⟨x_0, x_1, x_2, x_3, x_4, x_5, x_6, x_7, x_8, x_9⟩ := KX
  obtain ⟨a_0, a_1, a_2, a_3, a_4⟩ := KA
  obtain ⟨b_0, b_1, b_2, b_3, b_4⟩ := KB
  obtain ⟨c_0, c_1, c_2, c_3, c_4⟩ := KC
  go_wp2_with fail
  refine (refLeC x y false hu.out _).mono ?_
  rintro e w8 ⟨rfl, hb⟩
  clear s_0 s_1 s_2 s_3 s_4 s_5 s_6 r_0 r_1 r_2 r_3 r_4 r_5 r_6 x_0 x_1 x_2 x_3 x_4 x_5 x_6 x_7 x_8 x_9 a_0 a_1 a_2 a_3 a_4 b_0 b_1 b_2 b_3 b_4 c_0 c_1 c_2 c_3 c_4
  have KS : SBox w8 w.heap.size (Sm.mk sf st sk sp sx sy sz) := HS.out.later hb
  have KR : SBox w8 (w.heap.size + 1) (Sm.mk sf st rk rp rx ry rz) := HR.out.later hb
  have KX : Box2 w8 (w.heap.size + 1 + 1) ((x, y)) := HX.out.later hb
  have KA : Box w8 w4.heap.size (A) := HA.out.later hb
  have KB : Box w8 w5.heap.size (B) := HB.out.later hb
  have KC : Box w8 w6.heap.size (C) := HC.out.later hb
  have G : Hid (Grow w w8) := hide (Grow.trans' G.out hb)
  clear hb HS HR HX HA HB HC
  have HS := hide KS
  have HR := hide KR
  have HX := hide KX
  have HA := hide KA
  have HB := hide KB
  have HC := hide KC
  obtain ⟨s_0, s_1, s_2, s_3, s_4, s_5, s_6⟩ := KS
  obtain ⟨r_0, r_1, r_2, r_3, r_4, r_5, r_6⟩ := KR
  obtain ⟨x_0, x_1, x_2, x_3, x_4, x_5, x_6, x_7, x_8, x_9⟩ := KX
  obtain ⟨a_0, a_1, a_2, a_3, a_4⟩ := KA
  obtain ⟨b_0, b_1, b_2, b_3, b_4⟩ := KB
  obtain ⟨c_0, c_1, c_2, c_3, c_4⟩ := KC
  go_wp2_with fail
  refine (refLeC A C m hm.out _).mono ?_
  rintro e w9 ⟨rfl, hb⟩
  clear s_0 s_1 s_2 s_3 s_4 s_5 s_6 r_0 r_1 r_2 r_3 r_4 r_5 r_6 x_0 x_1 x_2 x_3 x_4 x_5 x_6 x_7 x_8 x_9 a_0 a_1 a_2 a_3 a_4 b_0 b_1 b_2 b_3 b_4 c_0 c_1 c_2 c_3 c_4
  have KS : SBox w9 w.heap.size (Sm.mk sf st sk sp sx sy sz) := HS.out.later hb
  have KR : SBox w9 (w.heap.size + 1) (Sm.mk sf st rk rp rx ry rz) := HR.out.later hb
  have KX : Box2 w9 (w.heap.size + 1 + 1) ((x, y)) := HX.out.later hb
  have KA : Box w9 w4.heap.size (A) := HA.out.later hb
  have KB : Box w9 w5.heap.size (B) := HB.out.later hb
  have KC : Box w9 w6.heap.size (C) := HC.out.later hb
  have G : Hid (Grow w w9) := hide (Grow.trans' G.out hb)
  clear hb HS HR HX HA HB HC
  have HS := hide KS
  have HR := hide KR
  have HX := hide KX
  have HA := hide KA
  have HB := hide KB
  have HC := hide KC
  obtain ⟨s_0, s_1, s_2, s_3, s_4, s_5, s_6⟩ := KS
  obtain ⟨r_0, r_1, r_2, r_3, r_4, r_5, r_6⟩ := KR
  obtain ⟨x_0, x_1, x_2, x_3, x_4, x_5, x_6, x_7, x_8, x_9⟩ := KX
  obtain ⟨a_0, a_1, a_2, a_3, a_4⟩ := KA
  obtain ⟨b_0, b_1, b_2, b_3, b_4⟩ := KB
  obtain ⟨c_0, c_1, c_2, c_3, c_4⟩ := KC
  go_wp2_with fail
  refine (sLeC (Sm.mk sf st sk sp sx sy sz) (Sm.mk sf st rk rp rx ry rz) true hl.out _).mono ?_
  rintro e w10 ⟨rfl, hb⟩
  clear s_0 s_1 s_2 s_3 s_4 s_5 s_6 r_0 r_1 r_2 r_3 r_4 r_5 r_6 x_0 x_1 x_2 x_3 x_4 x_5 x_6 x_7 x_8 x_9 a_0 a_1 a_2 a_3 a_4 b_0 b_1 b_2 b_3 b_4 c_0 c_1 c_2 c_3 c_4
  have KS : SBox w10 w.heap.size (Sm.mk sf st sk sp sx sy sz) := HS.out.later hb
  have KR : SBox w10 (w.heap.size + 1) (Sm.mk sf st rk rp rx ry rz) := HR.out.later hb
  have KX : Box2 w10 (w.heap.size + 1 + 1) ((x, y)) := HX.out.later hb
  have KA : Box w10 w4.heap.size (A) := HA.out.later hb
  have KB : Box w10 w5.heap.size (B) := HB.out.later hb
  have KC : Box w10 w6.heap.size (C) := HC.out.later hb
  have G : Hid (Grow w w10) := hide (Grow.trans' G.out hb)
  clear hb HS HR HX HA HB HC
  have HS := hide KS
  have HR := hide KR
  have HX := hide KX
  have HA := hide KA
  have HB := hide KB
  have HC := hide KC
  obtain ⟨s_0, s_1, s_2, s_3, s_4, s_5, s_6⟩ := KS
  obtain ⟨r_0, r_1, r_2, r_3, r_4, r_5, r_6⟩ := KR
  obtain ⟨x_0, x_1, x_2, x_3, x_4, x_5, x_6, x_7, x_8, x_9⟩ := KX
  obtain ⟨a_0, a_1, a_2, a_3, a_4⟩ := KA
  obtain ⟨b_0, b_1, b_2, b_3, b_4⟩ := KB
  obtain ⟨c_0, c_1, c_2, c_3, c_4⟩ := KC
  go_wp2_with fail
  refine (sLeC (Sm.mk sf st sk sp sx sy sz) (Sm.mk sf st rk rp rx ry rz) true hl.out _).mono ?_
  rintro e w11 ⟨rfl, hb⟩
  clear s_0 s_1 s_2 s_3 s_4 s_5 s_6 r_0 r_1 r_2 r_3 r_4 r_5 r_6 x_0 x_1 x_2 x_3 x_4 x_5 x_6 x_7 x_8 x_9 a_0 a_1 a_2 a_3 a_4 b_0 b_1 b_2 b_3 b_4 c_0 c_1 c_2 c_3 c_4
  have KS : SBox w11 w.heap.size (Sm.mk sf st sk sp sx sy sz) := HS.out.later hb
  have KR : SBox w11 (w.heap.size + 1) (Sm.mk sf st rk rp rx ry rz) := HR.out.later hb
  have KX : Box2 w11 (w.heap.size + 1 + 1) ((x, y)) := HX.out.later hb
  have KA : Box w11 w4.heap.size (A) := HA.out.later hb
  have KB : Box w11 w5.heap.size (B) := HB.out.later hb
  have KC : Box w11 w6.heap.size (C) := HC.out.later hb
  have G : Hid (Grow w w11) := hide (Grow.trans' G.out hb)
  clear hb HS HR HX HA HB HC
  have HS := hide KS
  have HR := hide KR
  have HX := hide KX
  have HA := hide KA
  have HB := hide KB
  have HC := hide KC
  obtain ⟨s_0, s_1, s_2, s_3, s_4, s_5, s_6⟩ := KS
  obtain ⟨r_0, r_1, r_2, r_3, r_4, r_5, r_6⟩ := KR
  obtain ⟨x_0, x_1, x_2, x_3, x_4, x_5, x_6, x_7, x_8, x_9⟩ := KX
  obtain ⟨a_0, a_1, a_2, a_3, a_4⟩ := KA
  obtain ⟨b_0, b_1, b_2, b_3, b_4⟩ := KB
  obtain ⟨c_0, c_1, c_2, c_3, c_4⟩ := KC
  go_wp2_with fail
  refine (sLeC (Sm.mk sf st sk sp sx sy sz) (Sm.mk sf st sk sp sx sy sz) true hss.out _).mono ?_
  rintro e w12 ⟨rfl, hb⟩
  clear s_0 s_1 s_2 s_3 s_4 s_5 s_6 r_0 r_1 r_2 r_3 r_4 r_5 r_6 x_0 x_1 x_2 x_3 x_4 x_5 x_6 x_7 x_8 x_9 a_0 a_1 a_2 a_3 a_4 b_0 b_1 b_2 b_3 b_4 c_0 c_1 c_2 c_3 c_4
  have KS : SBox w12 w.heap.size (Sm.mk sf st sk sp sx sy sz) := HS.out.later hb
  have KR : SBox w12 (w.heap.size + 1) (Sm.mk sf st rk rp rx ry rz) := HR.out.later hb
  have KX : Box2 w12 (w.heap.size + 1 + 1) ((x, y)) := HX.out.later hb
  have KA : Box w12 w4.heap.size (A) := HA.out.later hb
  have KB : Box w12 w5.heap.size (B) := HB.out.later hb
  have KC : Box w12 w6.heap.size (C) := HC.out.later hb
  have G : Hid (Grow w w12) := hide (Grow.trans' G.out hb)
  clear hb HS HR HX HA HB HC
  clear KS KR KA KB KC KX
  go_wp2
  go_ret
  exact ⟨rfl, G.out⟩
set_option maxHeartbeats 1000000 in
set_option maxRecDepth 100000 in
theorem SummaryLess_l2 (sf st sk sp sx sy sz rk rp rx ry rz : Int) (x y : Tm) (A B C : Tm) (E F L : Int) (p m : Bool) (w : World) (h1 : Hid (mayS (Sm.mk sf st sk sp sx sy sz) = true)) (h2 : Hid (mayS (Sm.mk sf st rk rp rx ry rz) = true)) (hA : Hid (applyT (Sm.mk sf st sk sp sx sy sz) x = A)) (hE : Hid (applyE (Sm.mk sf st sk sp sx sy sz) x = E)) (hB : Hid (applyT (Sm.mk sf st rk rp rx ry rz) x = B)) (hF : Hid (applyE (Sm.mk sf st rk rp rx ry rz) x = F)) (hC : Hid (applyT (Sm.mk sf st sk sp sx sy sz) y = C)) (hL : Hid (applyE (Sm.mk sf st sk sp sx sy sz) y = L)) (hp : Hid (leB A B = p)) (hu : Hid (leB x y = true)) (hm : Hid (leB A C = m)) (hl : Hid (leS (Sm.mk sf st sk sp sx sy sz) (Sm.mk sf st rk rp rx ry rz) = true)) (k1 : ¬ E = 0) (hss : Hid (leS (Sm.mk sf st sk sp sx sy sz) (Sm.mk sf st sk sp sx sy sz) = true)) :
    Calls Try.prog 7 #[.agg #[.int .i64 (Sm.mk sf st sk sp sx sy sz).f, .int .i64 (Sm.mk sf st sk sp sx sy sz).t, .int .i64 (Sm.mk sf st sk sp sx sy sz).k, .int .i64 (Sm.mk sf st sk sp sx sy sz).ep, .int .i64 (Sm.mk sf st sk sp sx sy sz).x, .int .i64 (Sm.mk sf st sk sp sx sy sz).y, .int .i64 (Sm.mk sf st sk sp sx sy sz).z], .agg #[.int .i64 (Sm.mk sf st rk rp rx ry rz).f, .int .i64 (Sm.mk sf st rk rp rx ry rz).t, .int .i64 (Sm.mk sf st rk rp rx ry rz).k, .int .i64 (Sm.mk sf st rk rp rx ry rz).ep, .int .i64 (Sm.mk sf st rk rp rx ry rz).x, .int .i64 (Sm.mk sf st rk rp rx ry rz).y, .int .i64 (Sm.mk sf st rk rp rx ry rz).z], .agg #[.int .i64 x.e, .int .i64 x.d, .int .i64 x.x, .int .i64 x.y, .int .i64 x.z, .int .i64 y.e, .int .i64 y.d, .int .i64 y.x, .int .i64 y.y, .int .i64 y.z]] w fun e w' => e = .returned (.bool true) ∧ Below w.heap.size w w' := by
  go_enter Try.func7, Try.ntmps7
  have KS : SBox (((w.alloc (.cells #[.int .i64 (Sm.mk sf st sk sp sx sy sz).f, .int .i64 (Sm.mk sf st sk sp sx sy sz).t, .int .i64 (Sm.mk sf st sk sp sx sy sz).k, .int .i64 (Sm.mk sf st sk sp sx sy sz).ep, .int .i64 (Sm.mk sf st sk sp sx sy sz).x, .int .i64 (Sm.mk sf st sk sp sx sy sz).y, .int .i64 (Sm.mk sf st sk sp sx sy sz).z] 24)).alloc (.cells #[.int .i64 (Sm.mk sf st rk rp rx ry rz).f, .int .i64 (Sm.mk sf st rk rp rx ry rz).t, .int .i64 (Sm.mk sf st rk rp rx ry rz).k, .int .i64 (Sm.mk sf st rk rp rx ry rz).ep, .int .i64 (Sm.mk sf st rk rp rx ry rz).x, .int .i64 (Sm.mk sf st rk rp rx ry rz).y, .int .i64 (Sm.mk sf st rk rp rx ry rz).z] 24)).alloc (.cells #[.int .i64 x.e, .int .i64 x.d, .int .i64 x.x, .int .i64 x.y, .int .i64 x.z, .int .i64 y.e, .int .i64 y.d, .int .i64 y.x, .int .i64 y.y, .int .i64 y.z] 39)) w.heap.size (Sm.mk sf st sk sp sx sy sz) := by simp [SBox, go_sem]
  have KR : SBox (((w.alloc (.cells #[.int .i64 (Sm.mk sf st sk sp sx sy sz).f, .int .i64 (Sm.mk sf st sk sp sx sy sz).t, .int .i64 (Sm.mk sf st sk sp sx sy sz).k, .int .i64 (Sm.mk sf st sk sp sx sy sz).ep, .int .i64 (Sm.mk sf st sk sp sx sy sz).x, .int .i64 (Sm.mk sf st sk sp sx sy sz).y, .int .i64 (Sm.mk sf st sk sp sx sy sz).z] 24)).alloc (.cells #[.int .i64 (Sm.mk sf st rk rp rx ry rz).f, .int .i64 (Sm.mk sf st rk rp rx ry rz).t, .int .i64 (Sm.mk sf st rk rp rx ry rz).k, .int .i64 (Sm.mk sf st rk rp rx ry rz).ep, .int .i64 (Sm.mk sf st rk rp rx ry rz).x, .int .i64 (Sm.mk sf st rk rp rx ry rz).y, .int .i64 (Sm.mk sf st rk rp rx ry rz).z] 24)).alloc (.cells #[.int .i64 x.e, .int .i64 x.d, .int .i64 x.x, .int .i64 x.y, .int .i64 x.z, .int .i64 y.e, .int .i64 y.d, .int .i64 y.x, .int .i64 y.y, .int .i64 y.z] 39)) (w.heap.size + 1) (Sm.mk sf st rk rp rx ry rz) := by simp [SBox, go_sem]
  have KX : Box2 (((w.alloc (.cells #[.int .i64 (Sm.mk sf st sk sp sx sy sz).f, .int .i64 (Sm.mk sf st sk sp sx sy sz).t, .int .i64 (Sm.mk sf st sk sp sx sy sz).k, .int .i64 (Sm.mk sf st sk sp sx sy sz).ep, .int .i64 (Sm.mk sf st sk sp sx sy sz).x, .int .i64 (Sm.mk sf st sk sp sx sy sz).y, .int .i64 (Sm.mk sf st sk sp sx sy sz).z] 24)).alloc (.cells #[.int .i64 (Sm.mk sf st rk rp rx ry rz).f, .int .i64 (Sm.mk sf st rk rp rx ry rz).t, .int .i64 (Sm.mk sf st rk rp rx ry rz).k, .int .i64 (Sm.mk sf st rk rp rx ry rz).ep, .int .i64 (Sm.mk sf st rk rp rx ry rz).x, .int .i64 (Sm.mk sf st rk rp rx ry rz).y, .int .i64 (Sm.mk sf st rk rp rx ry rz).z] 24)).alloc (.cells #[.int .i64 x.e, .int .i64 x.d, .int .i64 x.x, .int .i64 x.y, .int .i64 x.z, .int .i64 y.e, .int .i64 y.d, .int .i64 y.x, .int .i64 y.y, .int .i64 y.z] 39)) (w.heap.size + 1 + 1) (x, y) := by simp [Box2, go_sem]
  have G : Hid (Grow w (((w.alloc (.cells #[.int .i64 (Sm.mk sf st sk sp sx sy sz).f, .int .i64 (Sm.mk sf st sk sp sx sy sz).t, .int .i64 (Sm.mk sf st sk sp sx sy sz).k, .int .i64 (Sm.mk sf st sk sp sx sy sz).ep, .int .i64 (Sm.mk sf st sk sp sx sy sz).x, .int .i64 (Sm.mk sf st sk sp sx sy sz).y, .int .i64 (Sm.mk sf st sk sp sx sy sz).z] 24)).alloc (.cells #[.int .i64 (Sm.mk sf st rk rp rx ry rz).f, .int .i64 (Sm.mk sf st rk rp rx ry rz).t, .int .i64 (Sm.mk sf st rk rp rx ry rz).k, .int .i64 (Sm.mk sf st rk rp rx ry rz).ep, .int .i64 (Sm.mk sf st rk rp rx ry rz).x, .int .i64 (Sm.mk sf st rk rp rx ry rz).y, .int .i64 (Sm.mk sf st rk rp rx ry rz).z] 24)).alloc (.cells #[.int .i64 x.e, .int .i64 x.d, .int .i64 x.x, .int .i64 x.y, .int .i64 x.z, .int .i64 y.e, .int .i64 y.d, .int .i64 y.x, .int .i64 y.y, .int .i64 y.z] 39))) := hide (Grow.trans' (Grow.trans' (Grow.alloc' _ _) (Grow.alloc' _ _)) (Grow.alloc' _ _))
  have HS := hide KS
  have HR := hide KR
  have HX := hide KX
  obtain ⟨s_0, s_1, s_2, s_3, s_4, s_5, s_6⟩ := KS
  obtain ⟨r_0, r_1, r_2, r_3, r_4, r_5, r_6⟩ := KR
  obtain ⟨x_0, x_1, x_2, x_3, x_4, x_5, x_6, x_7, x_8, x_9⟩ := KX
  go_wp2_with fail
  refine (shown_any _).mono ?_
  rintro e w1 ⟨rfl, hb⟩
  clear s_0 s_1 s_2 s_3 s_4 s_5 s_6 r_0 r_1 r_2 r_3 r_4 r_5 r_6 x_0 x_1 x_2 x_3 x_4 x_5 x_6 x_7 x_8 x_9
  have KS : SBox w1 w.heap.size (Sm.mk sf st sk sp sx sy sz) := HS.out.later hb
  have KR : SBox w1 (w.heap.size + 1) (Sm.mk sf st rk rp rx ry rz) := HR.out.later hb
  have KX : Box2 w1 (w.heap.size + 1 + 1) ((x, y)) := HX.out.later hb
  have G : Hid (Grow w w1) := hide (Grow.trans' G.out hb)
  clear hb HS HR HX
  have HS := hide KS
  have HR := hide KR
  have HX := hide KX
  obtain ⟨s_0, s_1, s_2, s_3, s_4, s_5, s_6⟩ := KS
  obtain ⟨r_0, r_1, r_2, r_3, r_4, r_5, r_6⟩ := KR
  obtain ⟨x_0, x_1, x_2, x_3, x_4, x_5, x_6, x_7, x_8, x_9⟩ := KX
  go_wp2_with fail
  refine (sMayC (Sm.mk sf st sk sp sx sy sz) true h1.out _).mono ?_
  rintro e w2 ⟨rfl, hb⟩
  clear s_0 s_1 s_2 s_3 s_4 s_5 s_6 r_0 r_1 r_2 r_3 r_4 r_5 r_6 x_0 x_1 x_2 x_3 x_4 x_5 x_6 x_7 x_8 x_9
  have KS : SBox w2 w.heap.size (Sm.mk sf st sk sp sx sy sz) := HS.out.later hb
  have KR : SBox w2 (w.heap.size + 1) (Sm.mk sf st rk rp rx ry rz) := HR.out.later hb
  have KX : Box2 w2 (w.heap.size + 1 + 1) ((x, y)) := HX.out.later hb
  have G : Hid (Grow w w2) := hide (Grow.trans' G.out hb)
  clear hb HS HR HX
  have HS := hide KS
  have HR := hide KR
  have HX := hide KX
  obtain ⟨s_0, s_1, s_2, s_3, s_4, s_5, s_6⟩ := KS
  obtain ⟨r_0, r_1, r_2, r_3, r_4, r_5, r_6⟩ := KR
  obtain ⟨x_0, x_1, x_2, x_3, x_4, x_5, x_6, x_7, x_8, x_9⟩ := KX
  go_wp2_with fail
  refine (sMayC (Sm.mk sf st rk rp rx ry rz) true h2.out _).mono ?_
  rintro e w3 ⟨rfl, hb⟩
  clear s_0 s_1 s_2 s_3 s_4 s_5 s_6 r_0 r_1 r_2 r_3 r_4 r_5 r_6 x_0 x_1 x_2 x_3 x_4 x_5 x_6 x_7 x_8 x_9
  have KS : SBox w3 w.heap.size (Sm.mk sf st sk sp sx sy sz) := HS.out.later hb
  have KR : SBox w3 (w.heap.size + 1) (Sm.mk sf st rk rp rx ry rz) := HR.out.later hb
  have KX : Box2 w3 (w.heap.size + 1 + 1) ((x, y)) := HX.out.later hb
  have G : Hid (Grow w w3) := hide (Grow.trans' G.out hb)
  clear hb HS HR HX
  have HS := hide KS
  have HR := hide KR
  have HX := hide KX
  obtain ⟨s_0, s_1, s_2, s_3, s_4, s_5, s_6⟩ := KS
  obtain ⟨r_0, r_1, r_2, r_3, r_4, r_5, r_6⟩ := KR
  obtain ⟨x_0, x_1, x_2, x_3, x_4, x_5, x_6, x_7, x_8, x_9⟩ := KX
  go_wp2_with fail
  refine (apply_at (Sm.mk sf st sk sp sx sy sz) x A E hA.out hE.out _).mono ?_
  rintro e w4 ⟨rfl, hb⟩
  clear s_0 s_1 s_2 s_3 s_4 s_5 s_6 r_0 r_1 r_2 r_3 r_4 r_5 r_6 x_0 x_1 x_2 x_3 x_4 x_5 x_6 x_7 x_8 x_9
  have KS : SBox (w4.alloc (.cells #[.int .i64 (A).e, .int .i64 (A).d, .int .i64 (A).x, .int .i64 (A).y, .int .i64 (A).z] 30)) w.heap.size (Sm.mk sf st sk sp sx sy sz) := (HS.out.later hb).later (Grow.alloc' _ _)
  have KR : SBox (w4.alloc (.cells #[.int .i64 (A).e, .int .i64 (A).d, .int .i64 (A).x, .int .i64 (A).y, .int .i64 (A).z] 30)) (w.heap.size + 1) (Sm.mk sf st rk rp rx ry rz) := (HR.out.later hb).later (Grow.alloc' _ _)
  have KX : Box2 (w4.alloc (.cells #[.int .i64 (A).e, .int .i64 (A).d, .int .i64 (A).x, .int .i64 (A).y, .int .i64 (A).z] 30)) (w.heap.size + 1 + 1) ((x, y)) := (HX.out.later hb).later (Grow.alloc' _ _)
  have KA : Box (w4.alloc (.cells #[.int .i64 (A).e, .int .i64 (A).d, .int .i64 (A).x, .int .i64 (A).y, .int .i64 (A).z] 30)) w4.heap.size (A) := Box.new _ _
  have G : Hid (Grow w (w4.alloc (.cells #[.int .i64 (A).e, .int .i64 (A).d, .int .i64 (A).x, .int .i64 (A).y, .int .i64 (A).z] 30))) := hide (Grow.trans' (Grow.trans' G.out hb) (Grow.alloc' _ _))
  clear hb HS HR HX
  have HS := hide KS
  have HR := hide KR
  have HX := hide KX
  have HA := hide KA
  obtain ⟨s_0, s_1, s_2, s_3, s_4, s_5, s_6⟩ := KS
  obtain ⟨r_0, r_1, r_2, r_3, r_4, r_5, r_6⟩ := KR
  obtain ⟨x_0, x_1, x_2, x_3, x_4, x_5, x_6, x_7, x_8, x_9⟩ := KX
  obtain ⟨a_0, a_1, a_2, a_3, a_4⟩ := KA
  go_wp2_with fail
  refine (apply_at (Sm.mk sf st rk rp rx ry rz) x B F hB.out hF.out _).mono ?_
  rintro e w5 ⟨rfl, hb⟩
  clear s_0 s_1 s_2 s_3 s_4 s_5 s_6 r_0 r_1 r_2 r_3 r_4 r_5 r_6 x_0 x_1 x_2 x_3 x_4 x_5 x_6 x_7 x_8 x_9 a_0 a_1 a_2 a_3 a_4
  have KS : SBox (w5.alloc (.cells #[.int .i64 (B).e, .int .i64 (B).d, .int .i64 (B).x, .int .i64 (B).y, .int .i64 (B).z] 30)) w.heap.size (Sm.mk sf st sk sp sx sy sz) := (HS.out.later hb).later (Grow.alloc' _ _)
  have KR : SBox (w5.alloc (.cells #[.int .i64 (B).e, .int .i64 (B).d, .int .i64 (B).x, .int .i64 (B).y, .int .i64 (B).z] 30)) (w.heap.size + 1) (Sm.mk sf st rk rp rx ry rz) := (HR.out.later hb).later (Grow.alloc' _ _)
  have KX : Box2 (w5.alloc (.cells #[.int .i64 (B).e, .int .i64 (B).d, .int .i64 (B).x, .int .i64 (B).y, .int .i64 (B).z] 30)) (w.heap.size + 1 + 1) ((x, y)) := (HX.out.later hb).later (Grow.alloc' _ _)
  have KA : Box (w5.alloc (.cells #[.int .i64 (B).e, .int .i64 (B).d, .int .i64 (B).x, .int .i64 (B).y, .int .i64 (B).z] 30)) w4.heap.size (A) := (HA.out.later hb).later (Grow.alloc' _ _)
  have KB : Box (w5.alloc (.cells #[.int .i64 (B).e, .int .i64 (B).d, .int .i64 (B).x, .int .i64 (B).y, .int .i64 (B).z] 30)) w5.heap.size (B) := Box.new _ _
  have G : Hid (Grow w (w5.alloc (.cells #[.int .i64 (B).e, .int .i64 (B).d, .int .i64 (B).x, .int .i64 (B).y, .int .i64 (B).z] 30))) := hide (Grow.trans' (Grow.trans' G.out hb) (Grow.alloc' _ _))
  clear hb HS HR HX HA
  have HS := hide KS
  have HR := hide KR
  have HX := hide KX
  have HA := hide KA
  have HB := hide KB
  obtain ⟨s_0, s_1, s_2, s_3, s_4, s_5, s_6⟩ := KS
  obtain ⟨r_0, r_1, r_2, r_3, r_4, r_5, r_6⟩ := KR
  obtain ⟨x_0, x_1, x_2, x_3, x_4, x_5, x_6, x_7, x_8, x_9⟩ := KX
  obtain ⟨a_0, a_1, a_2, a_3, a_4⟩ := KA
  obtain ⟨b_0, b_1, b_2, b_3, b_4⟩ := KB
  go_wp2_with fail
  refine (apply_at (Sm.mk sf st sk sp sx sy sz) y C L hC.out hL.out _).mono ?_
  rintro e w6 ⟨rfl, hb⟩
  clear s_0 s_1 s_2 s_3 s_4 s_5 s_6 r_0 r_1 r_2 r_3 r_4 r_5 r_6 x_0 x_1 x_2 x_3 x_4 x_5 x_6 x_7 x_8 x_9 a_0 a_1 a_2 a_3 a_4 b_0 b_1 b_2 b_3 b_4
  have KS : SBox (w6.alloc (.cells #[.int .i64 (C).e, .int .i64 (C).d, .int .i64 (C).x, .int .i64 (C).y, .int .i64 (C).z] 30)) w.heap.size (Sm.mk sf st sk sp sx sy sz) := (HS.out.later hb).later (Grow.alloc' _ _)
  have KR : SBox (w6.alloc (.cells #[.int .i64 (C).e, .int .i64 (C).d, .int .i64 (C).x, .int .i64 (C).y, .int .i64 (C).z] 30)) (w.heap.size + 1) (Sm.mk sf st rk rp rx ry rz) := (HR.out.later hb).later (Grow.alloc' _ _)
  have KX : Box2 (w6.alloc (.cells #[.int .i64 (C).e, .int .i64 (C).d, .int .i64 (C).x, .int .i64 (C).y, .int .i64 (C).z] 30)) (w.heap.size + 1 + 1) ((x, y)) := (HX.out.later hb).later (Grow.alloc' _ _)
  have KA : Box (w6.alloc (.cells #[.int .i64 (C).e, .int .i64 (C).d, .int .i64 (C).x, .int .i64 (C).y, .int .i64 (C).z] 30)) w4.heap.size (A) := (HA.out.later hb).later (Grow.alloc' _ _)
  have KB : Box (w6.alloc (.cells #[.int .i64 (C).e, .int .i64 (C).d, .int .i64 (C).x, .int .i64 (C).y, .int .i64 (C).z] 30)) w5.heap.size (B) := (HB.out.later hb).later (Grow.alloc' _ _)
  have KC : Box (w6.alloc (.cells #[.int .i64 (C).e, .int .i64 (C).d, .int .i64 (C).x, .int .i64 (C).y, .int .i64 (C).z] 30)) w6.heap.size (C) := Box.new _ _
  have G : Hid (Grow w (w6.alloc (.cells #[.int .i64 (C).e, .int .i64 (C).d, .int .i64 (C).x, .int .i64 (C).y, .int .i64 (C).z] 30))) := hide (Grow.trans' (Grow.trans' G.out hb) (Grow.alloc' _ _))
  clear hb HS HR HX HA HB
  have HS := hide KS
  have HR := hide KR
  have HX := hide KX
  have HA := hide KA
  have HB := hide KB
  have HC := hide KC
  obtain ⟨s_0, s_1, s_2, s_3, s_4, s_5, s_6⟩ := KS
  obtain ⟨r_0, r_1, r_2, r_3, r_4, r_5, r_6⟩ := KR
  obtain ⟨x_0, x_1, x_2, x_3, x_4, x_5, x_6, x_7, x_8, x_9⟩ := KX
  obtain ⟨a_0, a_1, a_2, a_3, a_4⟩ := KA
  obtain ⟨b_0, b_1, b_2, b_3, b_4⟩ := KB
  obtain ⟨c_0, c_1, c_2, c_3, c_4⟩ := KC
  go_wp2_with fail
  refine (refLeC A B p hp.out _).mono ?_
  rintro e w7 ⟨rfl, hb⟩
  clear s_0 s_1 s_2 s_3 s_4 s_5 s_6 r_0 r_1 r_2 r_3 r_4 r_5 r_6 x_0 x_1 x_2 x_3 x_4 x_5 x_6 x_7 x_8 x_9 a_0 a_1 a_2 a_3 a_4 b_0 b_1 b_2 b_3 b_4 c_0 c_1 c_2 c_3 c_4
  have KS : SBox w7 w.heap.size (Sm.mk sf st sk sp sx sy sz) := HS.out.later hb
  have KR : SBox w7 (w.heap.size + 1) (Sm.mk sf st rk rp rx ry rz) := HR.out.later hb
  have KX : Box2 w7 (w.heap.size + 1 + 1) ((x, y)) := HX.out.later hb
  have KA : Box w7 w4.heap.size (A) := HA.out.later hb
  have KB : Box w7 w5.heap.size (B) := HB.out.later hb
  have KC : Box w7 w6.heap.size (C) := HC.out.later hb
  have G : Hid (Grow w w7) := hide (Grow.trans' G.out hb)
  clear hb HS HR HX HA HB HC
  have HS := hide KS
  have HR := hide KR
  have HX := hide KX
  have HA := hide KA
  have HB := hide KB
  have HC := hide KC
  obtain ⟨s_0, s_1, s_2, s_3, s_4, s_5, s_6⟩ := KS
  obtain ⟨r_0, r_1, r_2, r_3, r_4, r_5, r_6⟩ := KR
  obtain ⟨x_0, x_1, x_2, x_3, x_4, x_5, x_6, x_7, x_8, x_9⟩ := KX
  obtain ⟨a_0, a_1, a_2, a_3, a_4⟩ := KA
  obtain ⟨b_0, b_1, b_2, b_3, b_4⟩ := KB
  obtain ⟨c_0, c_1, c_2, c_3, c_4⟩ := KC
  go_wp2_with fail
  refine (refLeC x y true hu.out _).mono ?_
  rintro e w8 ⟨rfl, hb⟩
  clear s_0 s_1 s_2 s_3 s_4 s_5 s_6 r_0 r_1 r_2 r_3 r_4 r_5 r_6 x_0 x_1 x_2 x_3 x_4 x_5 x_6 x_7 x_8 x_9 a_0 a_1 a_2 a_3 a_4 b_0 b_1 b_2 b_3 b_4 c_0 c_1 c_2 c_3 c_4
  have KS : SBox w8 w.heap.size (Sm.mk sf st sk sp sx sy sz) := HS.out.later hb
  have KR : SBox w8 (w.heap.size + 1) (Sm.mk sf st rk rp rx ry rz) := HR.out.later hb
  have KX : Box2 w8 (w.heap.size + 1 + 1) ((x, y)) := HX.out.later hb
  have KA : Box w8 w4.heap.size (A) := HA.out.later hb
  have KB : Box w8 w5.heap.size (B) := HB.out.later hb
  have KC : Box w8 w6.heap.size (C) := HC.out.later hb
  have G : Hid (Grow w w8) := hide (Grow.trans' G.out hb)
  clear hb HS HR HX HA HB HC
  have HS := hide KS
  have HR := hide KR
  have HX := hide KX
  have HA := hide KA
  have HB := hide KB
  have HC := hide KC
  obtain ⟨s_0, s_1, s_2, s_3, s_4, s_5, s_6⟩ := KS
  obtain ⟨r_0, r_1, r_2, r_3, r_4, r_5, r_6⟩ := KR
  obtain ⟨x_0, x_1, x_2, x_3, x_4, x_5, x_6, x_7, x_8, x_9⟩ := KX
  obtain ⟨a_0, a_1, a_2, a_3, a_4⟩ := KA
  obtain ⟨b_0, b_1, b_2, b_3, b_4⟩ := KB
  obtain ⟨c_0, c_1, c_2, c_3, c_4⟩ := KC
  go_wp2_with fail
  refine (refLeC A C m hm.out _).mono ?_
  rintro e w9 ⟨rfl, hb⟩
  clear s_0 s_1 s_2 s_3 s_4 s_5 s_6 r_0 r_1 r_2 r_3 r_4 r_5 r_6 x_0 x_1 x_2 x_3 x_4 x_5 x_6 x_7 x_8 x_9 a_0 a_1 a_2 a_3 a_4 b_0 b_1 b_2 b_3 b_4 c_0 c_1 c_2 c_3 c_4
  have KS : SBox w9 w.heap.size (Sm.mk sf st sk sp sx sy sz) := HS.out.later hb
  have KR : SBox w9 (w.heap.size + 1) (Sm.mk sf st rk rp rx ry rz) := HR.out.later hb
  have KX : Box2 w9 (w.heap.size + 1 + 1) ((x, y)) := HX.out.later hb
  have KA : Box w9 w4.heap.size (A) := HA.out.later hb
  have KB : Box w9 w5.heap.size (B) := HB.out.later hb
  have KC : Box w9 w6.heap.size (C) := HC.out.later hb
  have G : Hid (Grow w w9) := hide (Grow.trans' G.out hb)
  clear hb HS HR HX HA HB HC
  have HS := hide KS
  have HR := hide KR
  have HX := hide KX
  have HA := hide KA
  have HB := hide KB
  have HC := hide KC
  obtain ⟨s_0, s_1, s_2, s_3, s_4, s_5, s_6⟩ := KS
  obtain ⟨r_0, r_1, r_2, r_3, r_4, r_5, r_6⟩ := KR
  obtain ⟨x_0, x_1, x_2, x_3, x_4, x_5, x_6, x_7, x_8, x_9⟩ := KX
  obtain ⟨a_0, a_1, a_2, a_3, a_4⟩ := KA
  obtain ⟨b_0, b_1, b_2, b_3, b_4⟩ := KB
  obtain ⟨c_0, c_1, c_2, c_3, c_4⟩ := KC
  go_wp2_with fail
  refine (sLeC (Sm.mk sf st sk sp sx sy sz) (Sm.mk sf st rk rp rx ry rz) true hl.out _).mono ?_
  rintro e w10 ⟨rfl, hb⟩
  clear s_0 s_1 s_2 s_3 s_4 s_5 s_6 r_0 r_1 r_2 r_3 r_4 r_5 r_6 x_0 x_1 x_2 x_3 x_4 x_5 x_6 x_7 x_8 x_9 a_0 a_1 a_2 a_3 a_4 b_0 b_1 b_2 b_3 b_4 c_0 c_1 c_2 c_3 c_4
  have KS : SBox w10 w.heap.size (Sm.mk sf st sk sp sx sy sz) := HS.out.later hb
  have KR : SBox w10 (w.heap.size + 1) (Sm.mk sf st rk rp rx ry rz) := HR.out.later hb
  have KX : Box2 w10 (w.heap.size + 1 + 1) ((x, y)) := HX.out.later hb
  have KA : Box w10 w4.heap.size (A) := HA.out.later hb
  have KB : Box w10 w5.heap.size (B) := HB.out.later hb
  have KC : Box w10 w6.heap.size (C) := HC.out.later hb
  have G : Hid (Grow w w10) := hide (Grow.trans' G.out hb)
  clear hb HS HR HX HA HB HC
  have HS := hide KS
  have HR := hide KR
  have HX := hide KX
  have HA := hide KA
  have HB := hide KB
  have HC := hide KC
  obtain ⟨s_0, s_1, s_2, s_3, s_4, s_5, s_6⟩ := KS
  obtain ⟨r_0, r_1, r_2, r_3, r_4, r_5, r_6⟩ := KR
  obtain ⟨x_0, x_1, x_2, x_3, x_4, x_5, x_6, x_7, x_8, x_9⟩ := KX
  obtain ⟨a_0, a_1, a_2, a_3, a_4⟩ := KA
  obtain ⟨b_0, b_1, b_2, b_3, b_4⟩ := KB
  obtain ⟨c_0, c_1, c_2, c_3, c_4⟩ := KC
  go_wp2_with fail
  refine (sLeC (Sm.mk sf st sk sp sx sy sz) (Sm.mk sf st rk rp rx ry rz) true hl.out _).mono ?_
  rintro e w11 ⟨rfl, hb⟩
  clear s_0 s_1 s_2 s_3 s_4 s_5 s_6 r_0 r_1 r_2 r_3 r_4 r_5 r_6 x_0 x_1 x_2 x_3 x_4 x_5 x_6 x_7 x_8 x_9 a_0 a_1 a_2 a_3 a_4 b_0 b_1 b_2 b_3 b_4 c_0 c_1 c_2 c_3 c_4
  have KS : SBox w11 w.heap.size (Sm.mk sf st sk sp sx sy sz) := HS.out.later hb
  have KR : SBox w11 (w.heap.size + 1) (Sm.mk sf st rk rp rx ry rz) := HR.out.later hb
  have KX : Box2 w11 (w.heap.size + 1 + 1) ((x, y)) := HX.out.later hb
  have KA : Box w11 w4.heap.size (A) := HA.out.later hb
  have KB : Box w11 w5.heap.size (B) := HB.out.later hb
  have KC : Box w11 w6.heap.size (C) := HC.out.later hb
  have G : Hid (Grow w w11) := hide (Grow.trans' G.out hb)
  clear hb HS HR HX HA HB HC
  have HS := hide KS
  have HR := hide KR
  have HX := hide KX
  have HA := hide KA
  have HB := hide KB
  have HC := hide KC
  obtain ⟨s_0, s_1, s_2, s_3, s_4, s_5, s_6⟩ := KS
  obtain ⟨r_0, r_1, r_2, r_3, r_4, r_5, r_6⟩ := KR
  obtain ⟨x_0, x_1, x_2, x_3, x_4, x_5, x_6, x_7, x_8, x_9⟩ := KX
  obtain ⟨a_0, a_1, a_2, a_3, a_4⟩ := KA
  obtain ⟨b_0, b_1, b_2, b_3, b_4⟩ := KB
  obtain ⟨c_0, c_1, c_2, c_3, c_4⟩ := KC
  go_wp2_with fail
  refine (sLeC (Sm.mk sf st sk sp sx sy sz) (Sm.mk sf st sk sp sx sy sz) true hss.out _).mono ?_
  rintro e w12 ⟨rfl, hb⟩
  clear s_0 s_1 s_2 s_3 s_4 s_5 s_6 r_0 r_1 r_2 r_3 r_4 r_5 r_6 x_0 x_1 x_2 x_3 x_4 x_5 x_6 x_7 x_8 x_9 a_0 a_1 a_2 a_3 a_4 b_0 b_1 b_2 b_3 b_4 c_0 c_1 c_2 c_3 c_4
  have KS : SBox w12 w.heap.size (Sm.mk sf st sk sp sx sy sz) := HS.out.later hb
  have KR : SBox w12 (w.heap.size + 1) (Sm.mk sf st rk rp rx ry rz) := HR.out.later hb
  have KX : Box2 w12 (w.heap.size + 1 + 1) ((x, y)) := HX.out.later hb
  have KA : Box w12 w4.heap.size (A) := HA.out.later hb
  have KB : Box w12 w5.heap.size (B) := HB.out.later hb
  have KC : Box w12 w6.heap.size (C) := HC.out.later hb
  have G : Hid (Grow w w12) := hide (Grow.trans' G.out hb)
  clear hb HS HR HX HA HB HC
  clear KS KR KA KB KC KX
  go_wp2
  go_ret
  exact ⟨rfl, G.out⟩
set_option maxHeartbeats 1000000 in
set_option maxRecDepth 100000 in
theorem SummaryLess_la3 (sf st sk sp sx sy sz rk rp rx ry rz : Int) (x y : Tm) (A B C : Tm) (E F L : Int) (p m : Bool) (w : World) (h1 : Hid (mayS (Sm.mk sf st sk sp sx sy sz) = true)) (h2 : Hid (mayS (Sm.mk sf st rk rp rx ry rz) = true)) (hA : Hid (applyT (Sm.mk sf st sk sp sx sy sz) x = A)) (hE : Hid (applyE (Sm.mk sf st sk sp sx sy sz) x = 0)) (hB : Hid (applyT (Sm.mk sf st rk rp rx ry rz) x = B)) (hF : Hid (applyE (Sm.mk sf st rk rp rx ry rz) x = F)) (hC : Hid (applyT (Sm.mk sf st sk sp sx sy sz) y = C)) (hL : Hid (applyE (Sm.mk sf st sk sp sx sy sz) y = L)) (hp : Hid (leB A B = p)) (hu : Hid (leB x y = false)) (hm : Hid (leB A C = m)) (hl : Hid (leS (Sm.mk sf st sk sp sx sy sz) (Sm.mk sf st rk rp rx ry rz) = true)) (k0 : ¬ F = 0) (hss : Hid (leS (Sm.mk sf st sk sp sx sy sz) (Sm.mk sf st sk sp sx sy sz) = true)) :
    Calls Try.prog 7 #[.agg #[.int .i64 (Sm.mk sf st sk sp sx sy sz).f, .int .i64 (Sm.mk sf st sk sp sx sy sz).t, .int .i64 (Sm.mk sf st sk sp sx sy sz).k, .int .i64 (Sm.mk sf st sk sp sx sy sz).ep, .int .i64 (Sm.mk sf st sk sp sx sy sz).x, .int .i64 (Sm.mk sf st sk sp sx sy sz).y, .int .i64 (Sm.mk sf st sk sp sx sy sz).z], .agg #[.int .i64 (Sm.mk sf st rk rp rx ry rz).f, .int .i64 (Sm.mk sf st rk rp rx ry rz).t, .int .i64 (Sm.mk sf st rk rp rx ry rz).k, .int .i64 (Sm.mk sf st rk rp rx ry rz).ep, .int .i64 (Sm.mk sf st rk rp rx ry rz).x, .int .i64 (Sm.mk sf st rk rp rx ry rz).y, .int .i64 (Sm.mk sf st rk rp rx ry rz).z], .agg #[.int .i64 x.e, .int .i64 x.d, .int .i64 x.x, .int .i64 x.y, .int .i64 x.z, .int .i64 y.e, .int .i64 y.d, .int .i64 y.x, .int .i64 y.y, .int .i64 y.z]] w fun e w' => e = .returned (.bool true) ∧ Below w.heap.size w w' := by
  go_enter Try.func7, Try.ntmps7
  have KS : SBox (((w.alloc (.cells #[.int .i64 (Sm.mk sf st sk sp sx sy sz).f, .int .i64 (Sm.mk sf st sk sp sx sy sz).t, .int .i64 (Sm.mk sf st sk sp sx sy sz).k, .int .i64 (Sm.mk sf st sk sp sx sy sz).ep, .int .i64 (Sm.mk sf st sk sp sx sy sz).x, .int .i64 (Sm.mk sf st sk sp sx sy sz).y, .int .i64 (Sm.mk sf st sk sp sx sy sz).z] 24)).alloc (.cells #[.int .i64 (Sm.mk sf st rk rp rx ry rz).f, .int .i64 (Sm.mk sf st rk rp rx ry rz).t, .int .i64 (Sm.mk sf st rk rp rx ry rz).k, .int .i64 (Sm.mk sf st rk rp rx ry rz).ep, .int .i64 (Sm.mk sf st rk rp rx ry rz).x, .int .i64 (Sm.mk sf st rk rp rx ry rz).y, .int .i64 (Sm.mk sf st rk rp rx ry rz).z] 24)).alloc (.cells #[.int .i64 x.e, .int .i64 x.d, .int .i64 x.x, .int .i64 x.y, .int .i64 x.z, .int .i64 y.e, .int .i64 y.d, .int .i64 y.x, .int .i64 y.y, .int .i64 y.z] 39)) w.heap.size (Sm.mk sf st sk sp sx sy sz) := by simp [SBox, go_sem]
  have KR : SBox (((w.alloc (.cells #[.int .i64 (Sm.mk sf st sk sp sx sy sz).f, .int .i64 (Sm.mk sf st sk sp sx sy sz).t, .int .i64 (Sm.mk sf st sk sp sx sy sz).k, .int .i64 (Sm.mk sf st sk sp sx sy sz).ep, .int .i64 (Sm.mk sf st sk sp sx sy sz).x, .int .i64 (Sm.mk sf st sk sp sx sy sz).y, .int .i64 (Sm.mk sf st sk sp sx sy sz).z] 24)).alloc (.cells #[.int .i64 (Sm.mk sf st rk rp rx ry rz).f, .int .i64 (Sm.mk sf st rk rp rx ry rz).t, .int .i64 (Sm.mk sf st rk rp rx ry rz).k, .int .i64 (Sm.mk sf st rk rp rx ry rz).ep, .int .i64 (Sm.mk sf st rk rp rx ry rz).x, .int .i64 (Sm.mk sf st rk rp rx ry rz).y, .int .i64 (Sm.mk sf st rk rp rx ry rz).z] 24)).alloc (.cells #[.int .i64 x.e, .int .i64 x.d, .int .i64 x.x, .int .i64 x.y, .int .i64 x.z, .int .i64 y.e, .int .i64 y.d, .int .i64 y.x, .int .i64 y.y, .int .i64 y.z] 39)) (w.heap.size + 1) (Sm.mk sf st rk rp rx ry rz) := by simp [SBox, go_sem]
  have KX : Box2 (((w.alloc (.cells #[.int .i64 (Sm.mk sf st sk sp sx sy sz).f, .int .i64 (Sm.mk sf st sk sp sx sy sz).t, .int .i64 (Sm.mk sf st sk sp sx sy sz).k, .int .i64 (Sm.mk sf st sk sp sx sy sz).ep, .int .i64 (Sm.mk sf st sk sp sx sy sz).x, .int .i64 (Sm.mk sf st sk sp sx sy sz).y, .int .i64 (Sm.mk sf st sk sp sx sy sz).z] 24)).alloc (.cells #[.int .i64 (Sm.mk sf st rk rp rx ry rz).f, .int .i64 (Sm.mk sf st rk rp rx ry rz).t, .int .i64 (Sm.mk sf st rk rp rx ry rz).k, .int .i64 (Sm.mk sf st rk rp rx ry rz).ep, .int .i64 (Sm.mk sf st rk rp rx ry rz).x, .int .i64 (Sm.mk sf st rk rp rx ry rz).y, .int .i64 (Sm.mk sf st rk rp rx ry rz).z] 24)).alloc (.cells #[.int .i64 x.e, .int .i64 x.d, .int .i64 x.x, .int .i64 x.y, .int .i64 x.z, .int .i64 y.e, .int .i64 y.d, .int .i64 y.x, .int .i64 y.y, .int .i64 y.z] 39)) (w.heap.size + 1 + 1) (x, y) := by simp [Box2, go_sem]
  have G : Hid (Grow w (((w.alloc (.cells #[.int .i64 (Sm.mk sf st sk sp sx sy sz).f, .int .i64 (Sm.mk sf st sk sp sx sy sz).t, .int .i64 (Sm.mk sf st sk sp sx sy sz).k, .int .i64 (Sm.mk sf st sk sp sx sy sz).ep, .int .i64 (Sm.mk sf st sk sp sx sy sz).x, .int .i64 (Sm.mk sf st sk sp sx sy sz).y, .int .i64 (Sm.mk sf st sk sp sx sy sz).z] 24)).alloc (.cells #[.int .i64 (Sm.mk sf st rk rp rx ry rz).f, .int .i64 (Sm.mk sf st rk rp rx ry rz).t, .int .i64 (Sm.mk sf st rk rp rx ry rz).k, .int .i64 (Sm.mk sf st rk rp rx ry rz).ep, .int .i64 (Sm.mk sf st rk rp rx ry rz).x, .int .i64 (Sm.mk sf st rk rp rx ry rz).y, .int .i64 (Sm.mk sf st rk rp rx ry rz).z] 24)).alloc (.cells #[.int .i64 x.e, .int .i64 x.d, .int .i64 x.x, .int .i64 x.y, .int .i64 x.z, .int .i64 y.e, .int .i64 y.d, .int .i64 y.x, .int .i64 y.y, .int .i64 y.z] 39))) := hide (Grow.trans' (Grow.trans' (Grow.alloc' _ _) (Grow.alloc' _ _)) (Grow.alloc' _ _))
  have HS := hide KS
  have HR := hide KR
  have HX := hide KX
  obtain ⟨s_0, s_1, s_2, s_3, s_4, s_5, s_6⟩ := KS
  obtain ⟨r_0, r_1, r_2, r_3, r_4, r_5, r_6⟩ := KR
  obtain ⟨x_0, x_1, x_2, x_3, x_4, x_5, x_6, x_7, x_8, x_9⟩ := KX
  go_wp2_with fail
  refine (shown_any _).mono ?_
  rintro e w1 ⟨rfl, hb⟩
  clear s_0 s_1 s_2 s_3 s_4 s_5 s_6 r_0 r_1 r_2 r_3 r_4 r_5 r_6 x_0 x_1 x_2 x_3 x_4 x_5 x_6 x_7 x_8 x_9
  have KS : SBox w1 w.heap.size (Sm.mk sf st sk sp sx sy sz) := HS.out.later hb
  have KR : SBox w1 (w.heap.size + 1) (Sm.mk sf st rk rp rx ry rz) := HR.out.later hb
  have KX : Box2 w1 (w.heap.size + 1 + 1) ((x, y)) := HX.out.later hb
  have G : Hid (Grow w w1) := hide (Grow.trans' G.out hb)
  clear hb HS HR HX
  have HS := hide KS
  have HR := hide KR
  have HX := hide KX
  obtain ⟨s_0, s_1, s_2, s_3, s_4, s_5, s_6⟩ := KS
  obtain ⟨r_0, r_1, r_2, r_3, r_4, r_5, r_6⟩ := KR
  obtain ⟨x_0, x_1, x_2, x_3, x_4, x_5, x_6, x_7, x_8, x_9⟩ := KX
  go_wp2_with fail
  refine (sMayC (Sm.mk sf st sk sp sx sy sz) true h1.out _).mono ?_
  rintro e w2 ⟨rfl, hb⟩
  clear s_0 s_1 s_2 s_3 s_4 s_5 s_6 r_0 r_1 r_2 r_3 r_4 r_5 r_6 x_0 x_1 x_2 x_3 x_4 x_5 x_6 x_7 x_8 x_9
  have KS : SBox w2 w.heap.size (Sm.mk sf st sk sp sx sy sz) := HS.out.later hb
  have KR : SBox w2 (w.heap.size + 1) (Sm.mk sf st rk rp rx ry rz) := HR.out.later hb
  have KX : Box2 w2 (w.heap.size + 1 + 1) ((x, y)) := HX.out.later hb
  have G : Hid (Grow w w2) := hide (Grow.trans' G.out hb)
  clear hb HS HR HX
  have HS := hide KS
  have HR := hide KR
  have HX := hide KX
  obtain ⟨s_0, s_1, s_2, s_3, s_4, s_5, s_6⟩ := KS
  obtain ⟨r_0, r_1, r_2, r_3, r_4, r_5, r_6⟩ := KR
  obtain ⟨x_0, x_1, x_2, x_3, x_4, x_5, x_6, x_7, x_8, x_9⟩ := KX
  go_wp2_with fail
  refine (sMayC (Sm.mk sf st rk rp rx ry rz) true h2.out _).mono ?_
  rintro e w3 ⟨rfl, hb⟩
  clear s_0 s_1 s_2 s_3 s_4 s_5 s_6 r_0 r_1 r_2 r_3 r_4 r_5 r_6 x_0 x_1 x_2 x_3 x_4 x_5 x_6 x_7 x_8 x_9
  have KS : SBox w3 w.heap.size (Sm.mk sf st sk sp sx sy sz) := HS.out.later hb
  have KR : SBox w3 (w.heap.size + 1) (Sm.mk sf st rk rp rx ry rz) := HR.out.later hb
  have KX : Box2 w3 (w.heap.size + 1 + 1) ((x, y)) := HX.out.later hb
  have G : Hid (Grow w w3) := hide (Grow.trans' G.out hb)
  clear hb HS HR HX
  have HS := hide KS
  have HR := hide KR
  have HX := hide KX
  obtain ⟨s_0, s_1, s_2, s_3, s_4, s_5, s_6⟩ := KS
  obtain ⟨r_0, r_1, r_2, r_3, r_4, r_5, r_6⟩ := KR
  obtain ⟨x_0, x_1, x_2, x_3, x_4, x_5, x_6, x_7, x_8, x_9⟩ := KX
  go_wp2_with fail
  refine (apply_at (Sm.mk sf st sk sp sx sy sz) x A 0 hA.out hE.out _).mono ?_
  rintro e w4 ⟨rfl, hb⟩
  clear s_0 s_1 s_2 s_3 s_4 s_5 s_6 r_0 r_1 r_2 r_3 r_4 r_5 r_6 x_0 x_1 x_2 x_3 x_4 x_5 x_6 x_7 x_8 x_9
  have KS : SBox (w4.alloc (.cells #[.int .i64 (A).e, .int .i64 (A).d, .int .i64 (A).x, .int .i64 (A).y, .int .i64 (A).z] 30)) w.heap.size (Sm.mk sf st sk sp sx sy sz) := (HS.out.later hb).later (Grow.alloc' _ _)
  have KR : SBox (w4.alloc (.cells #[.int .i64 (A).e, .int .i64 (A).d, .int .i64 (A).x, .int .i64 (A).y, .int .i64 (A).z] 30)) (w.heap.size + 1) (Sm.mk sf st rk rp rx ry rz) := (HR.out.later hb).later (Grow.alloc' _ _)
  have KX : Box2 (w4.alloc (.cells #[.int .i64 (A).e, .int .i64 (A).d, .int .i64 (A).x, .int .i64 (A).y, .int .i64 (A).z] 30)) (w.heap.size + 1 + 1) ((x, y)) := (HX.out.later hb).later (Grow.alloc' _ _)
  have KA : Box (w4.alloc (.cells #[.int .i64 (A).e, .int .i64 (A).d, .int .i64 (A).x, .int .i64 (A).y, .int .i64 (A).z] 30)) w4.heap.size (A) := Box.new _ _
  have G : Hid (Grow w (w4.alloc (.cells #[.int .i64 (A).e, .int .i64 (A).d, .int .i64 (A).x, .int .i64 (A).y, .int .i64 (A).z] 30))) := hide (Grow.trans' (Grow.trans' G.out hb) (Grow.alloc' _ _))
  clear hb HS HR HX
  have HS := hide KS
  have HR := hide KR
  have HX := hide KX
  have HA := hide KA
  obtain ⟨s_0, s_1, s_2, s_3, s_4, s_5, s_6⟩ := KS
  obtain ⟨r_0, r_1, r_2, r_3, r_4, r_5, r_6⟩ := KR
  obtain ⟨x_0, x_1, x_2, x_3, x_4, x_5, x_6, x_7, x_8, x_9⟩ := KX
  obtain ⟨a_0, a_1, a_2, a_3, a_4⟩ := KA
  go_wp2_with fail
  refine (apply_at (Sm.mk sf st rk rp rx ry rz) x B F hB.out hF.out _).mono ?_
  rintro e w5 ⟨rfl, hb⟩
  clear s_0 s_1 s_2 s_3 s_4 s_5 s_6 r_0 r_1 r_2 r_3 r_4 r_5 r_6 x_0 x_1 x_2 x_3 x_4 x_5 x_6 x_7 x_8 x_9 a_0 a_1 a_2 a_3 a_4
  have KS : SBox (w5.alloc (.cells #[.int .i64 (B).e, .int .i64 (B).d, .int .i64 (B).x, .int .i64 (B).y, .int .i64 (B).z] 30)) w.heap.size (Sm.mk sf st sk sp sx sy sz) := (HS.out.later hb).later (Grow.alloc' _ _)
  have KR : SBox (w5.alloc (.cells #[.int .i64 (B).e, .int .i64 (B).d, .int .i64 (B).x, .int .i64 (B).y, .int .i64 (B).z] 30)) (w.heap.size + 1) (Sm.mk sf st rk rp rx ry rz) := (HR.out.later hb).later (Grow.alloc' _ _)
  have KX : Box2 (w5.alloc (.cells #[.int .i64 (B).e, .int .i64 (B).d, .int .i64 (B).x, .int .i64 (B).y, .int .i64 (B).z] 30)) (w.heap.size + 1 + 1) ((x, y)) := (HX.out.later hb).later (Grow.alloc' _ _)
  have KA : Box (w5.alloc (.cells #[.int .i64 (B).e, .int .i64 (B).d, .int .i64 (B).x, .int .i64 (B).y, .int .i64 (B).z] 30)) w4.heap.size (A) := (HA.out.later hb).later (Grow.alloc' _ _)
  have KB : Box (w5.alloc (.cells #[.int .i64 (B).e, .int .i64 (B).d, .int .i64 (B).x, .int .i64 (B).y, .int .i64 (B).z] 30)) w5.heap.size (B) := Box.new _ _
  have G : Hid (Grow w (w5.alloc (.cells #[.int .i64 (B).e, .int .i64 (B).d, .int .i64 (B).x, .int .i64 (B).y, .int .i64 (B).z] 30))) := hide (Grow.trans' (Grow.trans' G.out hb) (Grow.alloc' _ _))
  clear hb HS HR HX HA
  have HS := hide KS
  have HR := hide KR
  have HX := hide KX
  have HA := hide KA
  have HB := hide KB
  obtain ⟨s_0, s_1, s_2, s_3, s_4, s_5, s_6⟩ := KS
  obtain ⟨r_0, r_1, r_2, r_3, r_4, r_5, r_6⟩ := KR
  obtain ⟨x_0, x_1, x_2, x_3, x_4, x_5, x_6, x_7, x_8, x_9⟩ := KX
  obtain ⟨a_0, a_1, a_2, a_3, a_4⟩ := KA
  obtain ⟨b_0, b_1, b_2, b_3, b_4⟩ := KB
  go_wp2_with fail
  refine (apply_at (Sm.mk sf st sk sp sx sy sz) y C L hC.out hL.out _).mono ?_
  rintro e w6 ⟨rfl, hb⟩
  clear s_0 s_1 s_2 s_3 s_4 s_5 s_6 r_0 r_1 r_2 r_3 r_4 r_5 r_6 x_0 x_1 x_2 x_3 x_4 x_5 x_6 x_7 x_8 x_9 a_0 a_1 a_2 a_3 a_4 b_0 b_1 b_2 b_3 b_4
  have KS : SBox (w6.alloc (.cells #[.int .i64 (C).e, .int .i64 (C).d, .int .i64 (C).x, .int .i64 (C).y, .int .i64 (C).z] 30)) w.heap.size (Sm.mk sf st sk sp sx sy sz) := (HS.out.later hb).later (Grow.alloc' _ _)
  have KR : SBox (w6.alloc (.cells #[.int .i64 (C).e, .int .i64 (C).d, .int .i64 (C).x, .int .i64 (C).y, .int .i64 (C).z] 30)) (w.heap.size + 1) (Sm.mk sf st rk rp rx ry rz) := (HR.out.later hb).later (Grow.alloc' _ _)
  have KX : Box2 (w6.alloc (.cells #[.int .i64 (C).e, .int .i64 (C).d, .int .i64 (C).x, .int .i64 (C).y, .int .i64 (C).z] 30)) (w.heap.size + 1 + 1) ((x, y)) := (HX.out.later hb).later (Grow.alloc' _ _)
  have KA : Box (w6.alloc (.cells #[.int .i64 (C).e, .int .i64 (C).d, .int .i64 (C).x, .int .i64 (C).y, .int .i64 (C).z] 30)) w4.heap.size (A) := (HA.out.later hb).later (Grow.alloc' _ _)
  have KB : Box (w6.alloc (.cells #[.int .i64 (C).e, .int .i64 (C).d, .int .i64 (C).x, .int .i64 (C).y, .int .i64 (C).z] 30)) w5.heap.size (B) := (HB.out.later hb).later (Grow.alloc' _ _)
  have KC : Box (w6.alloc (.cells #[.int .i64 (C).e, .int .i64 (C).d, .int .i64 (C).x, .int .i64 (C).y, .int .i64 (C).z] 30)) w6.heap.size (C) := Box.new _ _
  have G : Hid (Grow w (w6.alloc (.cells #[.int .i64 (C).e, .int .i64 (C).d, .int .i64 (C).x, .int .i64 (C).y, .int .i64 (C).z] 30))) := hide (Grow.trans' (Grow.trans' G.out hb) (Grow.alloc' _ _))
  clear hb HS HR HX HA HB
  have HS := hide KS
  have HR := hide KR
  have HX := hide KX
  have HA := hide KA
  have HB := hide KB
  have HC := hide KC
  obtain ⟨s_0, s_1, s_2, s_3, s_4, s_5, s_6⟩ := KS
  obtain ⟨r_0, r_1, r_2, r_3, r_4, r_5, r_6⟩ := KR
  obtain ⟨x_0, x_1, x_2, x_3, x_4, x_5, x_6, x_7, x_8, x_9⟩ := KX
  obtain ⟨a_0, a_1, a_2, a_3, a_4⟩ := KA
  obtain ⟨b_0, b_1, b_2, b_3, b_4⟩ := KB
  obtain ⟨c_0, c_1, c_2, c_3, c_4⟩ := KC
  go_wp2_with fail
  refine (refLeC A B p hp.out _).mono ?_
  rintro e w7 ⟨rfl, hb⟩
  clear s_0 s_1 s_2 s_3 s_4 s_5 s_6 r_0 r_1 r_2 r_3 r_4 r_5 r_6 x_0 x_1 x_2 x_3 x_4 x_5 x_6 x_7 x_8 x_9 a_0 a_1 a_2 a_3 a_4 b_0 b_1 b_2 b_3 b_4 c_0 c_1 c_2 c_3 c_4
  have KS : SBox w7 w.heap.size (Sm.mk sf st sk sp sx sy sz) := HS.out.later hb
  have KR : SBox w7 (w.heap.size + 1) (Sm.mk sf st rk rp rx ry rz) := HR.out.later hb
  have KX : Box2 w7 (w.heap.size + 1 + 1) ((x, y)) := HX.out.later hb
  have KA : Box w7 w4.heap.size (A) := HA.out.later hb
  have KB : Box w7 w5.heap.size (B) := HB.out.later hb
  have KC : Box w7 w6.heap.size (C) := HC.out.later hb
  have G : Hid (Grow w w7) := hide (Grow.trans' G.out hb)
  clear hb HS HR HX HA HB HC
  have HS := hide KS
  have HR := hide KR
  have HX := hide KX
  have HA := hide KA
  have HB := hide KB
  have HC := hide KC
  obtain ⟨s_0, s_1, s_2, s_3, s_4, s_5, s_6⟩ := KS
  obtain ⟨r_0, r_1, r_2, r_3, r_4, r_5, r_6⟩ := KR
  obtain ⟨x_0, x_1, x_2, x_3, x_4, x_5, x_6, x_7, x_8, x_9⟩ := KX
  obtain ⟨a_0, a_1, a_2, a_3, a_4⟩ := KA
  obtain ⟨b_0, b_1, b_2, b_3, b_4⟩ := KB
  obtain ⟨c_0, c_1, c_2, c_3, c_4⟩ := KC
  go_wp2_with fail
  refine (refLeC x y false hu.out _).mono ?_
  rintro e w8 ⟨rfl, hb⟩
  clear s_0 s_1 s_2 s_3 s_4 s_5 s_6 r_0 r_1 r_2 r_3 r_4 r_5 r_6 x_0 x_1 x_2 x_3 x_4 x_5 x_6 x_7 x_8 x_9 a_0 a_1 a_2 a_3 a_4 b_0 b_1 b_2 b_3 b_4 c_0 c_1 c_2 c_3 c_4
  have KS : SBox w8 w.heap.size (Sm.mk sf st sk sp sx sy sz) := HS.out.later hb
  have KR : SBox w8 (w.heap.size + 1) (Sm.mk sf st rk rp rx ry rz) := HR.out.later hb
  have KX : Box2 w8 (w.heap.size + 1 + 1) ((x, y)) := HX.out.later hb
  have KA : Box w8 w4.heap.size (A) := HA.out.later hb
  have KB : Box w8 w5.heap.size (B) := HB.out.later hb
  have KC : Box w8 w6.heap.size (C) := HC.out.later hb
  have G : Hid (Grow w w8) := hide (Grow.trans' G.out hb)
  clear hb HS HR HX HA HB HC
  have HS := hide KS
  have HR := hide KR
  have HX := hide KX
  have HA := hide KA
  have HB := hide KB
  have HC := hide KC
  obtain ⟨s_0, s_1, s_2, s_3, s_4, s_5, s_6⟩ := KS
  obtain ⟨r_0, r_1, r_2, r_3, r_4, r_5, r_6⟩ := KR
  obtain ⟨x_0, x_1, x_2, x_3, x_4, x_5, x_6, x_7, x_8, x_9⟩ := KX
  obtain ⟨a_0, a_1, a_2, a_3, a_4⟩ := KA
  obtain ⟨b_0, b_1, b_2, b_3, b_4⟩ := KB
  obtain ⟨c_0, c_1, c_2, c_3, c_4⟩ := KC
  go_wp2_with fail
  refine (refLeC A C m hm.out _).mono ?_
  rintro e w9 ⟨rfl, hb⟩
  clear s_0 s_1 s_2 s_3 s_4 s_5 s_6 r_0 r_1 r_2 r_3 r_4 r_5 r_6 x_0 x_1 x_2 x_3 x_4 x_5 x_6 x_7 x_8 x_9 a_0 a_1 a_2 a_3 a_4 b_0 b_1 b_2 b_3 b_4 c_0 c_1 c_2 c_3 c_4
  have KS : SBox w9 w.heap.size (Sm.mk sf st sk sp sx sy sz) := HS.out.later hb
  have KR : SBox w9 (w.heap.size + 1) (Sm.mk sf st rk rp rx ry rz) := HR.out.later hb
  have KX : Box2 w9 (w.heap.size + 1 + 1) ((x, y)) := HX.out.later hb
  have KA : Box w9 w4.heap.size (A) := HA.out.later hb
  have KB : Box w9 w5.heap.size (B) := HB.out.later hb
  have KC : Box w9 w6.heap.size (C) := HC.out.later hb
  have G : Hid (Grow w w9) := hide (Grow.trans' G.out hb)
  clear hb HS HR HX HA HB HC
  have HS := hide KS
  have HR := hide KR
  have HX := hide KX
  have HA := hide KA
  have HB := hide KB
  have HC := hide KC
  obtain ⟨s_0, s_1, s_2, s_3, s_4, s_5, s_6⟩ := KS
  obtain ⟨r_0, r_1, r_2, r_3, r_4, r_5, r_6⟩ := KR
  obtain ⟨x_0, x_1, x_2, x_3, x_4, x_5, x_6, x_7, x_8, x_9⟩ := KX
  obtain ⟨a_0, a_1, a_2, a_3, a_4⟩ := KA
  obtain ⟨b_0, b_1, b_2, b_3, b_4⟩ := KB
  obtain ⟨c_0, c_1, c_2, c_3, c_4⟩ := KC
  go_wp2_with fail
  refine (sLeC (Sm.mk sf st sk sp sx sy sz) (Sm.mk sf st rk rp rx ry rz) true hl.out _).mono ?_
  rintro e w10 ⟨rfl, hb⟩
  clear s_0 s_1 s_2 s_3 s_4 s_5 s_6 r_0 r_1 r_2 r_3 r_4 r_5 r_6 x_0 x_1 x_2 x_3 x_4 x_5 x_6 x_7 x_8 x_9 a_0 a_1 a_2 a_3 a_4 b_0 b_1 b_2 b_3 b_4 c_0 c_1 c_2 c_3 c_4
  have KS : SBox w10 w.heap.size (Sm.mk sf st sk sp sx sy sz) := HS.out.later hb
  have KR : SBox w10 (w.heap.size + 1) (Sm.mk sf st rk rp rx ry rz) := HR.out.later hb
  have KX : Box2 w10 (w.heap.size + 1 + 1) ((x, y)) := HX.out.later hb
  have KA : Box w10 w4.heap.size (A) := HA.out.later hb
  have KB : Box w10 w5.heap.size (B) := HB.out.later hb
  have KC : Box w10 w6.heap.size (C) := HC.out.later hb
  have G : Hid (Grow w w10) := hide (Grow.trans' G.out hb)
  clear hb HS HR HX HA HB HC
  have HS := hide KS
  have HR := hide KR
  have HX := hide KX
  have HA := hide KA
  have HB := hide KB
  have HC := hide KC
  obtain ⟨s_0, s_1, s_2, s_3, s_4, s_5, s_6⟩ := KS
  obtain ⟨r_0, r_1, r_2, r_3, r_4, r_5, r_6⟩ := KR
  obtain ⟨x_0, x_1, x_2, x_3, x_4, x_5, x_6, x_7, x_8, x_9⟩ := KX
  obtain ⟨a_0, a_1, a_2, a_3, a_4⟩ := KA
  obtain ⟨b_0, b_1, b_2, b_3, b_4⟩ := KB
  obtain ⟨c_0, c_1, c_2, c_3, c_4⟩ := KC
  go_wp2_with fail
  refine (sLeC (Sm.mk sf st sk sp sx sy sz) (Sm.mk sf st rk rp rx ry rz) true hl.out _).mono ?_
  rintro e w11 ⟨rfl, hb⟩
  clear s_0 s_1 s_2 s_3 s_4 s_5 s_6 r_0 r_1 r_2 r_3 r_4 r_5 r_6 x_0 x_1 x_2 x_3 x_4 x_5 x_6 x_7 x_8 x_9 a_0 a_1 a_2 a_3 a_4 b_0 b_1 b_2 b_3 b_4 c_0 c_1 c_2 c_3 c_4
  have KS : SBox w11 w.heap.size (Sm.mk sf st sk sp sx sy sz) := HS.out.later hb
  have KR : SBox w11 (w.heap.size + 1) (Sm.mk sf st rk rp rx ry rz) := HR.out.later hb
  have KX : Box2 w11 (w.heap.size + 1 + 1) ((x, y)) := HX.out.later hb
  have KA : Box w11 w4.heap.size (A) := HA.out.later hb
  have KB : Box w11 w5.heap.size (B) := HB.out.later hb
  have KC : Box w11 w6.heap.size (C) := HC.out.later hb
  have G : Hid (Grow w w11) := hide (Grow.trans' G.out hb)
  clear hb HS HR HX HA HB HC
  have HS := hide KS
  have HR := hide KR
  have HX := hide KX
  have HA := hide KA
  have HB := hide KB
  have HC := hide KC
  obtain ⟨s_0, s_1, s_2, s_3, s_4, s_5, s_6⟩ := KS
  obtain ⟨r_0, r_1, r_2, r_3, r_4, r_5, r_6⟩ := KR
  obtain ⟨x_0, x_1, x_2, x_3, x_4, x_5, x_6, x_7, x_8, x_9⟩ := KX
  obtain ⟨a_0, a_1, a_2, a_3, a_4⟩ := KA
  obtain ⟨b_0, b_1, b_2, b_3, b_4⟩ := KB
  obtain ⟨c_0, c_1, c_2, c_3, c_4⟩ := KC
  go_wp2_with fail
  refine (sLeC (Sm.mk sf st sk sp sx sy sz) (Sm.mk sf st sk sp sx sy sz) true hss.out _).mono ?_
  rintro e w12 ⟨rfl, hb⟩
  clear s_0 s_1 s_2 s_3 s_4 s_5 s_6 r_0 r_1 r_2 r_3 r_4 r_5 r_6 x_0 x_1 x_2 x_3 x_4 x_5 x_6 x_7 x_8 x_9 a_0 a_1 a_2 a_3 a_4 b_0 b_1 b_2 b_3 b_4 c_0 c_1 c_2 c_3 c_4
  have KS : SBox w12 w.heap.size (Sm.mk sf st sk sp sx sy sz) := HS.out.later hb
  have KR : SBox w12 (w.heap.size + 1) (Sm.mk sf st rk rp rx ry rz) := HR.out.later hb
  have KX : Box2 w12 (w.heap.size + 1 + 1) ((x, y)) := HX.out.later hb
  have KA : Box w12 w4.heap.size (A) := HA.out.later hb
  have KB : Box w12 w5.heap.size (B) := HB.out.later hb
  have KC : Box w12 w6.heap.size (C) := HC.out.later hb
  have G : Hid (Grow w w12) := hide (Grow.trans' G.out hb)
  clear hb HS HR HX HA HB HC
  clear KS KR KA KB KC KX
  go_wp2
  go_ret
  exact ⟨rfl, G.out⟩
set_option maxHeartbeats 1000000 in
set_option maxRecDepth 100000 in
theorem SummaryLess_la4 (sf st sk sp sx sy sz rk rp rx ry rz : Int) (x y : Tm) (A B C : Tm) (E F L : Int) (p m : Bool) (w : World) (h1 : Hid (mayS (Sm.mk sf st sk sp sx sy sz) = true)) (h2 : Hid (mayS (Sm.mk sf st rk rp rx ry rz) = true)) (hA : Hid (applyT (Sm.mk sf st sk sp sx sy sz) x = A)) (hE : Hid (applyE (Sm.mk sf st sk sp sx sy sz) x = 0)) (hB : Hid (applyT (Sm.mk sf st rk rp rx ry rz) x = B)) (hF : Hid (applyE (Sm.mk sf st rk rp rx ry rz) x = F)) (hC : Hid (applyT (Sm.mk sf st sk sp sx sy sz) y = C)) (hL : Hid (applyE (Sm.mk sf st sk sp sx sy sz) y = L)) (hp : Hid (leB A B = p)) (hu : Hid (leB x y = true)) (hm : Hid (leB A C = m)) (hl : Hid (leS (Sm.mk sf st sk sp sx sy sz) (Sm.mk sf st rk rp rx ry rz) = true)) (k0 : ¬ F = 0) (k1 : ¬ L = 0) (hss : Hid (leS (Sm.mk sf st sk sp sx sy sz) (Sm.mk sf st sk sp sx sy sz) = true)) :
    Calls Try.prog 7 #[.agg #[.int .i64 (Sm.mk sf st sk sp sx sy sz).f, .int .i64 (Sm.mk sf st sk sp sx sy sz).t, .int .i64 (Sm.mk sf st sk sp sx sy sz).k, .int .i64 (Sm.mk sf st sk sp sx sy sz).ep, .int .i64 (Sm.mk sf st sk sp sx sy sz).x, .int .i64 (Sm.mk sf st sk sp sx sy sz).y, .int .i64 (Sm.mk sf st sk sp sx sy sz).z], .agg #[.int .i64 (Sm.mk sf st rk rp rx ry rz).f, .int .i64 (Sm.mk sf st rk rp rx ry rz).t, .int .i64 (Sm.mk sf st rk rp rx ry rz).k, .int .i64 (Sm.mk sf st rk rp rx ry rz).ep, .int .i64 (Sm.mk sf st rk rp rx ry rz).x, .int .i64 (Sm.mk sf st rk rp rx ry rz).y, .int .i64 (Sm.mk sf st rk rp rx ry rz).z], .agg #[.int .i64 x.e, .int .i64 x.d, .int .i64 x.x, .int .i64 x.y, .int .i64 x.z, .int .i64 y.e, .int .i64 y.d, .int .i64 y.x, .int .i64 y.y, .int .i64 y.z]] w fun e w' => e = .returned (.bool true) ∧ Below w.heap.size w w' := by
  go_enter Try.func7, Try.ntmps7
  have KS : SBox (((w.alloc (.cells #[.int .i64 (Sm.mk sf st sk sp sx sy sz).f, .int .i64 (Sm.mk sf st sk sp sx sy sz).t, .int .i64 (Sm.mk sf st sk sp sx sy sz).k, .int .i64 (Sm.mk sf st sk sp sx sy sz).ep, .int .i64 (Sm.mk sf st sk sp sx sy sz).x, .int .i64 (Sm.mk sf st sk sp sx sy sz).y, .int .i64 (Sm.mk sf st sk sp sx sy sz).z] 24)).alloc (.cells #[.int .i64 (Sm.mk sf st rk rp rx ry rz).f, .int .i64 (Sm.mk sf st rk rp rx ry rz).t, .int .i64 (Sm.mk sf st rk rp rx ry rz).k, .int .i64 (Sm.mk sf st rk rp rx ry rz).ep, .int .i64 (Sm.mk sf st rk rp rx ry rz).x, .int .i64 (Sm.mk sf st rk rp rx ry rz).y, .int .i64 (Sm.mk sf st rk rp rx ry rz).z] 24)).alloc (.cells #[.int .i64 x.e, .int .i64 x.d, .int .i64 x.x, .int .i64 x.y, .int .i64 x.z, .int .i64 y.e, .int .i64 y.d, .int .i64 y.x, .int .i64 y.y, .int .i64 y.z] 39)) w.heap.size (Sm.mk sf st sk sp sx sy sz) := by simp [SBox, go_sem]
  have KR : SBox (((w.alloc (.cells #[.int .i64 (Sm.mk sf st sk sp sx sy sz).f, .int .i64 (Sm.mk sf st sk sp sx sy sz).t, .int .i64 (Sm.mk sf st sk sp sx sy sz).k, .int .i64 (Sm.mk sf st sk sp sx sy sz).ep, .int .i64 (Sm.mk sf st sk sp sx sy sz).x, .int .i64 (Sm.mk sf st sk sp sx sy sz).y, .int .i64 (Sm.mk sf st sk sp sx sy sz).z] 24)).alloc (.cells #[.int .i64 (Sm.mk sf st rk rp rx ry rz).f, .int .i64 (Sm.mk sf st rk rp rx ry rz).t, .int .i64 (Sm.mk sf st rk rp rx ry rz).k, .int .i64 (Sm.mk sf st rk rp rx ry rz).ep, .int .i64 (Sm.mk sf st rk rp rx ry rz).x, .int .i64 (Sm.mk sf st rk rp rx ry rz).y, .int .i64 (Sm.mk sf st rk rp rx ry rz).z] 24)).alloc (.cells #[.int .i64 x.e, .int .i64 x.d, .int .i64 x.x, .int .i64 x.y, .int .i64 x.z, .int .i64 y.e, .int .i64 y.d, .int .i64 y.x, .int .i64 y.y, .int .i64 y.z] 39)) (w.heap.size + 1) (Sm.mk sf st rk rp rx ry rz) := by simp [SBox, go_sem]
  have KX : Box2 (((w.alloc (.cells #[.int .i64 (Sm.mk sf st sk sp sx sy sz).f, .int .i64 (Sm.mk sf st sk sp sx sy sz).t, .int .i64 (Sm.mk sf st sk sp sx sy sz).k, .int .i64 (Sm.mk sf st sk sp sx sy sz).ep, .int .i64 (Sm.mk sf st sk sp sx sy sz).x, .int .i64 (Sm.mk sf st sk sp sx sy sz).y, .int .i64 (Sm.mk sf st sk sp sx sy sz).z] 24)).alloc (.cells #[.int .i64 (Sm.mk sf st rk rp rx ry rz).f, .int .i64 (Sm.mk sf st rk rp rx ry rz).t, .int .i64 (Sm.mk sf st rk rp rx ry rz).k, .int .i64 (Sm.mk sf st rk rp rx ry rz).ep, .int .i64 (Sm.mk sf st rk rp rx ry rz).x, .int .i64 (Sm.mk sf st rk rp rx ry rz).y, .int .i64 (Sm.mk sf st rk rp rx ry rz).z] 24)).alloc (.cells #[.int .i64 x.e, .int .i64 x.d, .int .i64 x.x, .int .i64 x.y, .int .i64 x.z, .int .i64 y.e, .int .i64 y.d, .int .i64 y.x, .int .i64 y.y, .int .i64 y.z] 39)) (w.heap.size + 1 + 1) (x, y) := by simp [Box2, go_sem]
  have G : Hid (Grow w (((w.alloc (.cells #[.int .i64 (Sm.mk sf st sk sp sx sy sz).f, .int .i64 (Sm.mk sf st sk sp sx sy sz).t, .int .i64 (Sm.mk sf st sk sp sx sy sz).k, .int .i64 (Sm.mk sf st sk sp sx sy sz).ep, .int .i64 (Sm.mk sf st sk sp sx sy sz).x, .int .i64 (Sm.mk sf st sk sp sx sy sz).y, .int .i64 (Sm.mk sf st sk sp sx sy sz).z] 24)).alloc (.cells #[.int .i64 (Sm.mk sf st rk rp rx ry rz).f, .int .i64 (Sm.mk sf st rk rp rx ry rz).t, .int .i64 (Sm.mk sf st rk rp rx ry rz).k, .int .i64 (Sm.mk sf st rk rp rx ry rz).ep, .int .i64 (Sm.mk sf st rk rp rx ry rz).x, .int .i64 (Sm.mk sf st rk rp rx ry rz).y, .int .i64 (Sm.mk sf st rk rp rx ry rz).z] 24)).alloc (.cells #[.int .i64 x.e, .int .i64 x.d, .int .i64 x.x, .int .i64 x.y, .int .i64 x.z, .int .i64 y.e, .int .i64 y.d, .int .i64 y.x, .int .i64 y.y, .int .i64 y.z] 39))) := hide (Grow.trans' (Grow.trans' (Grow.alloc' _ _) (Grow.alloc' _ _)) (Grow.alloc' _ _))
  have HS := hide KS
  have HR := hide KR
  have HX := hide KX
  obtain ⟨s_0, s_1, s_2, s_3, s_4, s_5, s_6⟩ := KS
  obtain ⟨r_0, r_1, r_2, r_3, r_4, r_5, r_6⟩ := KR
  obtain ⟨x_0, x_1, x_2, x_3, x_4, x_5, x_6, x_7, x_8, x_9⟩ := KX
  go_wp2_with fail
  refine (shown_any _).mono ?_
  rintro e w1 ⟨rfl, hb⟩
  clear s_0 s_1 s_2 s_3 s_4 s_5 s_6 r_0 r_1 r_2 r_3 r_4 r_5 r_6 x_0 x_1 x_2 x_3 x_4 x_5 x_6 x_7 x_8 x_9
  have KS : SBox w1 w.heap.size (Sm.mk sf st sk sp sx sy sz) := HS.out.later hb
  have KR : SBox w1 (w.heap.size + 1) (Sm.mk sf st rk rp rx ry rz) := HR.out.later hb
  have KX : Box2 w1 (w.heap.size + 1 + 1) ((x, y)) := HX.out.later hb
  have G : Hid (Grow w w1) := hide (Grow.trans' G.out hb)
  clear hb HS HR HX
  have HS := hide KS
  have HR := hide KR
  have HX := hide KX
  obtain ⟨s_0, s_1, s_2, s_3, s_4, s_5, s_6⟩ := KS
  obtain ⟨r_0, r_1, r_2, r_3, r_4, r_5, r_6⟩ := KR
  obtain ⟨x_0, x_1, x_2, x_3, x_4, x_5, x_6, x_7, x_8, x_9⟩ := KX
  go_wp2_with fail
  refine (sMayC (Sm.mk sf st sk sp sx sy sz) true h1.out _).mono ?_
  rintro e w2 ⟨rfl, hb⟩
  clear s_0 s_1 s_2 s_3 s_4 s_5 s_6 r_0 r_1 r_2 r_3 r_4 r_5 r_6 x_0 x_1 x_2 x_3 x_4 x_5 x_6 x_7 x_8 x_9
  have KS : SBox w2 w.heap.size (Sm.mk sf st sk sp sx sy sz) := HS.out.later hb
  have KR : SBox w2 (w.heap.size + 1) (Sm.mk sf st rk rp rx ry rz) := HR.out.later hb
  have KX : Box2 w2 (w.heap.size + 1 + 1) ((x, y)) := HX.out.later hb
  have G : Hid (Grow w w2) := hide (Grow.trans' G.out hb)
  clear hb HS HR HX
  have HS := hide KS
  have HR := hide KR
  have HX := hide KX
  obtain ⟨s_0, s_1, s_2, s_3, s_4, s_5, s_6⟩ := KS
  obtain ⟨r_0, r_1, r_2, r_3, r_4, r_5, r_6⟩ := KR
  obtain ⟨x_0, x_1, x_2, x_3, x_4, x_5, x_6, x_7, x_8, x_9⟩ := KX
  go_wp2_with fail
  refine (sMayC (Sm.mk sf st rk rp rx ry rz) true h2.out _).mono ?_
  rintro e w3 ⟨rfl, hb⟩
  clear s_0 s_1 s_2 s_3 s_4 s_5 s_6 r_0 r_1 r_2 r_3 r_4 r_5 r_6 x_0 x_1 x_2 x_3 x_4 x_5 x_6 x_7 x_8 x_9
  have KS : SBox w3 w.heap.size (Sm.mk sf st sk sp sx sy sz) := HS.out.later hb
  have KR : SBox w3 (w.heap.size + 1) (Sm.mk sf st rk rp rx ry rz) := HR.out.later hb
  have KX : Box2 w3 (w.heap.size + 1 + 1) ((x, y)) := HX.out.later hb
  have G : Hid (Grow w w3) := hide (Grow.trans' G.out hb)
  clear hb HS HR HX
  have HS := hide KS
  have HR := hide KR
  have HX := hide KX
  obtain ⟨s_0, s_1, s_2, s_3, s_4, s_5, s_6⟩ := KS
  obtain ⟨r_0, r_1, r_2, r_3, r_4, r_5, r_6⟩ := KR
  obtain ⟨x_0, x_1, x_2, x_3, x_4, x_5, x_6, x_7, x_8, x_9⟩ := KX
  go_wp2_with fail
  refine (apply_at (Sm.mk sf st sk sp sx sy sz) x A 0 hA.out hE.out _).mono ?_
  rintro e w4 ⟨rfl, hb⟩
  clear s_0 s_1 s_2 s_3 s_4 s_5 s_6 r_0 r_1 r_2 r_3 r_4 r_5 r_6 x_0 x_1 x_2 x_3 x_4 x_5 x_6 x_7 x_8 x_9
  have KS : SBox (w4.alloc (.cells #[.int .i64 (A).e, .int .i64 (A).d, .int .i64 (A).x, .int .i64 (A).y, .int .i64 (A).z] 30)) w.heap.size (Sm.mk sf st sk sp sx sy sz) := (HS.out.later hb).later (Grow.alloc' _ _)
  have KR : SBox (w4.alloc (.cells #[.int .i64 (A).e, .int .i64 (A).d, .int .i64 (A).x, .int .i64 (A).y, .int .i64 (A).z] 30)) (w.heap.size + 1) (Sm.mk sf st rk rp rx ry rz) := (HR.out.later hb).later (Grow.alloc' _ _)
  have KX : Box2 (w4.alloc (.cells #[.int .i64 (A).e, .int .i64 (A).d, .int .i64 (A).x, .int .i64 (A).y, .int .i64 (A).z] 30)) (w.heap.size + 1 + 1) ((x, y)) := (HX.out.later hb).later (Grow.alloc' _ _)
  have KA : Box (w4.alloc (.cells #[.int .i64 (A).e, .int .i64 (A).d, .int .i64 (A).x, .int .i64 (A).y, .int .i64 (A).z] 30)) w4.heap.size (A) := Box.new _ _
  have G : Hid (Grow w (w4.alloc (.cells #[.int .i64 (A).e, .int .i64 (A).d, .int .i64 (A).x, .int .i64 (A).y, .int .i64 (A).z] 30))) := hide (Grow.trans' (Grow.trans' G.out hb) (Grow.alloc' _ _))
  clear hb HS HR HX
  have HS := hide KS
  have HR := hide KR
  have HX := hide KX
  have HA := hide KA
  obtain ⟨s_0, s_1, s_2, s_3, s_4, s_5, s_6⟩ := KS
  obtain ⟨r_0, r_1, r_2, r_3, r_4, r_5, r_6⟩ := KR
  obtain ⟨x_0, x_1, x_2, x_3, x_4, x_5, x_6, x_7, x_8, x_9⟩ := KX
  obtain ⟨a_0, a_1, a_2, a_3, a_4⟩ := KA
  go_wp2_with fail
  refine (apply_at (Sm.mk sf st rk rp rx ry rz) x B F hB.out hF.out _).mono ?_
  rintro e w5 ⟨rfl, hb⟩
  clear s_0 s_1 s_2 s_3 s_4 s_5 s_6 r_0 r_1 r_2 r_3 r_4 r_5 r_6 x_0 x_1 x_2 x_3 x_4 x_5 x_6 x_7 x_8 x_9 a_0 a_1 a_2 a_3 a_4
  have KS : SBox (w5.alloc (.cells #[.int .i64 (B).e, .int .i64 (B).d, .int .i64 (B).x, .int .i64 (B).y, .int .i64 (B).z] 30)) w.heap.size (Sm.mk sf st sk sp sx sy sz) := (HS.out.later hb).later (Grow.alloc' _ _)
  have KR : SBox (w5.alloc (.cells #[.int .i64 (B).e, .int .i64 (B).d, .int .i64 (B).x, .int .i64 (B).y, .int .i64 (B).z] 30)) (w.heap.size + 1) (Sm.mk sf st rk rp rx ry rz) := (HR.out.later hb).later (Grow.alloc' _ _)
  have KX : Box2 (w5.alloc (.cells #[.int .i64 (B).e, .int .i64 (B).d, .int .i64 (B).x, .int .i64 (B).y, .int .i64 (B).z] 30)) (w.heap.size + 1 + 1) ((x, y)) := (HX.out.later hb).later (Grow.alloc' _ _)
  have KA : Box (w5.alloc (.cells #[.int .i64 (B).e, .int .i64 (B).d, .int .i64 (B).x, .int .i64 (B).y, .int .i64 (B).z] 30)) w4.heap.size (A) := (HA.out.later hb).later (Grow.alloc' _ _)
  have KB : Box (w5.alloc (.cells #[.int .i64 (B).e, .int .i64 (B).d, .int .i64 (B).x, .int .i64 (B).y, .int .i64 (B).z] 30)) w5.heap.size (B) := Box.new _ _
  have G : Hid (Grow w (w5.alloc (.cells #[.int .i64 (B).e, .int .i64 (B).d, .int .i64 (B).x, .int .i64 (B).y, .int .i64 (B).z] 30))) := hide (Grow.trans' (Grow.trans' G.out hb) (Grow.alloc' _ _))
  clear hb HS HR HX HA
  have HS := hide KS
  have HR := hide KR
  have HX := hide KX
  have HA := hide KA
  have HB := hide KB
  obtain ⟨s_0, s_1, s_2, s_3, s_4, s_5, s_6⟩ := KS
  obtain ⟨r_0, r_1, r_2, r_3, r_4, r_5, r_6⟩ := KR
  obtain ⟨x_0, x_1, x_2, x_3, x_4, x_5, x_6, x_7, x_8, x_9⟩ := KX
  obtain ⟨a_0, a_1, a_2, a_3, a_4⟩ := KA
  obtain ⟨b_0, b_1, b_2, b_3, b_4⟩ := KB
  go_wp2_with fail
  refine (apply_at (Sm.mk sf st sk sp sx sy sz) y C L hC.out hL.out _).mono ?_
  rintro e w6 ⟨rfl, hb⟩
  clear s_0 s_1 s_2 s_3 s_4 s_5 s_6 r_0 r_1 r_2 r_3 r_4 r_5 r_6 x_0 x_1 x_2 x_3 x_4 x_5 x_6 x_7 x_8 x_9 a_0 a_1 a_2 a_3 a_4 b_0 b_1 b_2 b_3 b_4
  have KS : SBox (w6.alloc (.cells #[.int .i64 (C).e, .int .i64 (C).d, .int .i64 (C).x, .int .i64 (C).y, .int .i64 (C).z] 30)) w.heap.size (Sm.mk sf st sk sp sx sy sz) := (HS.out.later hb).later (Grow.alloc' _ _)
  have KR : SBox (w6.alloc (.cells #[.int .i64 (C).e, .int .i64 (C).d, .int .i64 (C).x, .int .i64 (C).y, .int .i64 (C).z] 30)) (w.heap.size + 1) (Sm.mk sf st rk rp rx ry rz) := (HR.out.later hb).later (Grow.alloc' _ _)
  have KX : Box2 (w6.alloc (.cells #[.int .i64 (C).e, .int .i64 (C).d, .int .i64 (C).x, .int .i64 (C).y, .int .i64 (C).z] 30)) (w.heap.size + 1 + 1) ((x, y)) := (HX.out.later hb).later (Grow.alloc' _ _)
  have KA : Box (w6.alloc (.cells #[.int .i64 (C).e, .int .i64 (C).d, .int .i64 (C).x, .int .i64 (C).y, .int .i64 (C).z] 30)) w4.heap.size (A) := (HA.out.later hb).later (Grow.alloc' _ _)
  have KB : Box (w6.alloc (.cells #[.int .i64 (C).e, .int .i64 (C).d, .int .i64 (C).x, .int .i64 (C).y, .int .i64 (C).z] 30)) w5.heap.size (B) := (HB.out.later hb).later (Grow.alloc' _ _)
  have KC : Box (w6.alloc (.cells #[.int .i64 (C).e, .int .i64 (C).d, .int .i64 (C).x, .int .i64 (C).y, .int .i64 (C).z] 30)) w6.heap.size (C) := Box.new _ _
  have G : Hid (Grow w (w6.alloc (.cells #[.int .i64 (C).e, .int .i64 (C).d, .int .i64 (C).x, .int .i64 (C).y, .int .i64 (C).z] 30))) := hide (Grow.trans' (Grow.trans' G.out hb) (Grow.alloc' _ _))
  clear hb HS HR HX HA HB
  have HS := hide KS
  have HR := hide KR
  have HX := hide KX
  have HA := hide KA
  have HB := hide KB
  have HC := hide KC
  obtain ⟨s_0, s_1, s_2, s_3, s_4, s_5, s_6⟩ := KS
  obtain ⟨r_0, r_1, r_2, r_3, r_4, r_5, r_6⟩ := KR
  obtain ⟨x_0, x_1, x_2, x_3, x_4, x_5, x_6, x_7, x_8, x_9⟩ := KX
  obtain ⟨a_0, a_1, a_2, a_3, a_4⟩ := KA
  obtain ⟨b_0, b_1, b_2, b_3, b_4⟩ := KB
  obtain ⟨c_0, c_1, c_2, c_3, c_4⟩ := KC
  go_wp2_with fail
  refine (refLeC A B p hp.out _).mono ?_
  rintro e w7 ⟨rfl, hb⟩
  clear s_0 s_1 s_2 s_3 s_4 s_5 s_6 r_0 r_1 r_2 r_3 r_4 r_5 r_6 x_0 x_1 x_2 x_3 x_4 x_5 x_6 x_7 x_8 x_9 a_0 a_1 a_2 a_3 a_4 b_0 b_1 b_2 b_3 b_4 c_0 c_1 c_2 c_3 c_4
  have KS : SBox w7 w.heap.size (Sm.mk sf st sk sp sx sy sz) := HS.out.later hb
  have KR : SBox w7 (w.heap.size + 1) (Sm.mk sf st rk rp rx ry rz) := HR.out.later hb
  have KX : Box2 w7 (w.heap.size + 1 + 1) ((x, y)) := HX.out.later hb
  have KA : Box w7 w4.heap.size (A) := HA.out.later hb
  have KB : Box w7 w5.heap.size (B) := HB.out.later hb
  have KC : Box w7 w6.heap.size (C) := HC.out.later hb
  have G : Hid (Grow w w7) := hide (Grow.trans' G.out hb)
  clear hb HS HR HX HA HB HC
  have HS := hide KS
  have HR := hide KR
  have HX := hide KX
  have HA := hide KA
  have HB := hide KB
  have HC := hide KC
  obtain ⟨s_0, s_1, s_2, s_3, s_4, s_5, s_6⟩ := KS
  obtain ⟨r_0, r_1, r_2, r_3, r_4, r_5, r_6⟩ := KR
  obtain ⟨x_0, x_1, x_2, x_3, x_4, x_5, x_6, x_7, x_8, x_9⟩ := KX
  obtain ⟨a_0, a_1, a_2, a_3, a_4⟩ := KA
  obtain ⟨b_0, b_1, b_2, b_3, b_4⟩ := KB
  obtain ⟨c_0, c_1, c_2, c_3, c_4⟩ := KC
  go_wp2_with fail
  refine (refLeC x y true hu.out _).mono ?_
  rintro e w8 ⟨rfl, hb⟩
  clear s_0 s_1 s_2 s_3 s_4 s_5 s_6 r_0 r_1 r_2 r_3 r_4 r_5 r_6 x_0 x_1 x_2 x_3 x_4 x_5 x_6 x_7 x_8 x_9 a_0 a_1 a_2 a_3 a_4 b_0 b_1 b_2 b_3 b_4 c_0 c_1 c_2 c_3 c_4
  have KS : SBox w8 w.heap.size (Sm.mk sf st sk sp sx sy sz) := HS.out.later hb
  have KR : SBox w8 (w.heap.size + 1) (Sm.mk sf st rk rp rx ry rz) := HR.out.later hb
  have KX : Box2 w8 (w.heap.size + 1 + 1) ((x, y)) := HX.out.later hb
  have KA : Box w8 w4.heap.size (A) := HA.out.later hb
  have KB : Box w8 w5.heap.size (B) := HB.out.later hb
  have KC : Box w8 w6.heap.size (C) := HC.out.later hb
  have G : Hid (Grow w w8) := hide (Grow.trans' G.out hb)
  clear hb HS HR HX HA HB HC
  have HS := hide KS
  have HR := hide KR
  have HX := hide KX
  have HA := hide KA
  have HB := hide KB
  have HC := hide KC
  obtain ⟨s_0, s_1, s_2, s_3, s_4, s_5, s_6⟩ := KS
  obtain ⟨r_0, r_1, r_2, r_3, r_4, r_5, r_6⟩ := KR
  obtain ⟨x_0, x_1, x_2, x_3, x_4, x_5, x_6, x_7, x_8, x_9⟩ := KX
  obtain ⟨a_0, a_1, a_2, a_3, a_4⟩ := KA
  obtain ⟨b_0, b_1, b_2, b_3, b_4⟩ := KB
  obtain ⟨c_0, c_1, c_2, c_3, c_4⟩ := KC
  go_wp2_with fail
  refine (refLeC A C m hm.out _).mono ?_
  rintro e w9 ⟨rfl, hb⟩
  clear s_0 s_1 s_2 s_3 s_4 s_5 s_6 r_0 r_1 r_2 r_3 r_4 r_5 r_6 x_0 x_1 x_2 x_3 x_4 x_5 x_6 x_7 x_8 x_9 a_0 a_1 a_2 a_3 a_4 b_0 b_1 b_2 b_3 b_4 c_0 c_1 c_2 c_3 c_4
  have KS : SBox w9 w.heap.size (Sm.mk sf st sk sp sx sy sz) := HS.out.later hb
  have KR : SBox w9 (w.heap.size + 1) (Sm.mk sf st rk rp rx ry rz) := HR.out.later hb
  have KX : Box2 w9 (w.heap.size + 1 + 1) ((x, y)) := HX.out.later hb
  have KA : Box w9 w4.heap.size (A) := HA.out.later hb
  have KB : Box w9 w5.heap.size (B) := HB.out.later hb
  have KC : Box w9 w6.heap.size (C) := HC.out.later hb
  have G : Hid (Grow w w9) := hide (Grow.trans' G.out hb)
  clear hb HS HR HX HA HB HC
  have HS := hide KS
  have HR := hide KR
  have HX := hide KX
  have HA := hide KA
  have HB := hide KB
  have HC := hide KC
  obtain ⟨s_0, s_1, s_2, s_3, s_4, s_5, s_6⟩ := KS
  obtain ⟨r_0, r_1, r_2, r_3, r_4, r_5, r_6⟩ := KR
  obtain ⟨x_0, x_1, x_2, x_3, x_4, x_5, x_6, x_7, x_8, x_9⟩ := KX
  obtain ⟨a_0, a_1, a_2, a_3, a_4⟩ := KA
  obtain ⟨b_0, b_1, b_2, b_3, b_4⟩ := KB
  obtain ⟨c_0, c_1, c_2, c_3, c_4⟩ := KC
  go_wp2_with fail
  refine (sLeC (Sm.mk sf st sk sp sx sy sz) (Sm.mk sf st rk rp rx ry rz) true hl.out _).mono ?_
  rintro e w10 ⟨rfl, hb⟩
  clear s_0 s_1 s_2 s_3 s_4 s_5 s_6 r_0 r_1 r_2 r_3 r_4 r_5 r_6 x_0 x_1 x_2 x_3 x_4 x_5 x_6 x_7 x_8 x_9 a_0 a_1 a_2 a_3 a_4 b_0 b_1 b_2 b_3 b_4 c_0 c_1 c_2 c_3 c_4
  have KS : SBox w10 w.heap.size (Sm.mk sf st sk sp sx sy sz) := HS.out.later hb
  have KR : SBox w10 (w.heap.size + 1) (Sm.mk sf st rk rp rx ry rz) := HR.out.later hb
  have KX : Box2 w10 (w.heap.size + 1 + 1) ((x, y)) := HX.out.later hb
  have KA : Box w10 w4.heap.size (A) := HA.out.later hb
  have KB : Box w10 w5.heap.size (B) := HB.out.later hb
  have KC : Box w10 w6.heap.size (C) := HC.out.later hb
  have G : Hid (Grow w w10) := hide (Grow.trans' G.out hb)
  clear hb HS HR HX HA HB HC
  have HS := hide KS
  have HR := hide KR
  have HX := hide KX
  have HA := hide KA
  have HB := hide KB
  have HC := hide KC
  obtain ⟨s_0, s_1, s_2, s_3, s_4, s_5, s_6⟩ := KS
  obtain ⟨r_0, r_1, r_2, r_3, r_4, r_5, r_6⟩ := KR
  obtain ⟨x_0, x_1, x_2, x_3, x_4, x_5, x_6, x_7, x_8, x_9⟩ := KX
  obtain ⟨a_0, a_1, a_2, a_3, a_4⟩ := KA
  obtain ⟨b_0, b_1, b_2, b_3, b_4⟩ := KB
  obtain ⟨c_0, c_1, c_2, c_3, c_4⟩ := KC
  go_wp2_with fail
  refine (sLeC (Sm.mk sf st sk sp sx sy sz) (Sm.mk sf st rk rp rx ry rz) true hl.out _).mono ?_
  rintro e w11 ⟨rfl, hb⟩
  clear s_0 s_1 s_2 s_3 s_4 s_5 s_6 r_0 r_1 r_2 r_3 r_4 r_5 r_6 x_0 x_1 x_2 x_3 x_4 x_5 x_6 x_7 x_8 x_9 a_0 a_1 a_2 a_3 a_4 b_0 b_1 b_2 b_3 b_4 c_0 c_1 c_2 c_3 c_4
  have KS : SBox w11 w.heap.size (Sm.mk sf st sk sp sx sy sz) := HS.out.later hb
  have KR : SBox w11 (w.heap.size + 1) (Sm.mk sf st rk rp rx ry rz) := HR.out.later hb
  have KX : Box2 w11 (w.heap.size + 1 + 1) ((x, y)) := HX.out.later hb
  have KA : Box w11 w4.heap.size (A) := HA.out.later hb
  have KB : Box w11 w5.heap.size (B) := HB.out.later hb
  have KC : Box w11 w6.heap.size (C) := HC.out.later hb
  have G : Hid (Grow w w11) := hide (Grow.trans' G.out hb)
  clear hb HS HR HX HA HB HC
  have HS := hide KS
  have HR := hide KR
  have HX := hide KX
  have HA := hide KA
  have HB := hide KB
  have HC := hide KC
  obtain ⟨s_0, s_1, s_2, s_3, s_4, s_5, s_6⟩ := KS
  obtain ⟨r_0, r_1, r_2, r_3, r_4, r_5, r_6⟩ := KR
  obtain ⟨x_0, x_1, x_2, x_3, x_4, x_5, x_6, x_7, x_8, x_9⟩ := KX
  obtain ⟨a_0, a_1, a_2, a_3, a_4⟩ := KA
  obtain ⟨b_0, b_1, b_2, b_3, b_4⟩ := KB
  obtain ⟨c_0, c_1, c_2, c_3, c_4⟩ := KC
  go_wp2_with fail
  refine (sLeC (Sm.mk sf st sk sp sx sy sz) (Sm.mk sf st sk sp sx sy sz) true hss.out _).mono ?_
  rintro e w12 ⟨rfl, hb⟩
  clear s_0 s_1 s_2 s_3 s_4 s_5 s_6 r_0 r_1 r_2 r_3 r_4 r_5 r_6 x_0 x_1 x_2 x_3 x_4 x_5 x_6 x_7 x_8 x_9 a_0 a_1 a_2 a_3 a_4 b_0 b_1 b_2 b_3 b_4 c_0 c_1 c_2 c_3 c_4
  have KS : SBox w12 w.heap.size (Sm.mk sf st sk sp sx sy sz) := HS.out.later hb
  have KR : SBox w12 (w.heap.size + 1) (Sm.mk sf st rk rp rx ry rz) := HR.out.later hb
  have KX : Box2 w12 (w.heap.size + 1 + 1) ((x, y)) := HX.out.later hb
  have KA : Box w12 w4.heap.size (A) := HA.out.later hb
  have KB : Box w12 w5.heap.size (B) := HB.out.later hb
  have KC : Box w12 w6.heap.size (C) := HC.out.later hb
  have G : Hid (Grow w w12) := hide (Grow.trans' G.out hb)
  clear hb HS HR HX HA HB HC
  clear KS KR KA KB KC KX
  go_wp2
  go_ret
  exact ⟨rfl, G.out⟩
set_option maxHeartbeats 1000000 in
set_option maxRecDepth 100000 in
theorem SummaryLess_la5 (sf st sk sp sx sy sz rk rp rx ry rz : Int) (x y : Tm) (A B C : Tm) (E F L : Int) (p m : Bool) (w : World) (h1 : Hid (mayS (Sm.mk sf st sk sp sx sy sz) = true)) (h2 : Hid (mayS (Sm.mk sf st rk rp rx ry rz) = true)) (hA : Hid (applyT (Sm.mk sf st sk sp sx sy sz) x = A)) (hE : Hid (applyE (Sm.mk sf st sk sp sx sy sz) x = 0)) (hB : Hid (applyT (Sm.mk sf st rk rp rx ry rz) x = B)) (hF : Hid (applyE (Sm.mk sf st rk rp rx ry rz) x = F)) (hC : Hid (applyT (Sm.mk sf st sk sp sx sy sz) y = C)) (hL : Hid (applyE (Sm.mk sf st sk sp sx sy sz) y = 0)) (hp : Hid (leB A B = p)) (hu : Hid (leB x y = true)) (hm : Hid (leB A C = true)) (hl : Hid (leS (Sm.mk sf st sk sp sx sy sz) (Sm.mk sf st rk rp rx ry rz) = true)) (k0 : ¬ F = 0) (hss : Hid (leS (Sm.mk sf st sk sp sx sy sz) (Sm.mk sf st sk sp sx sy sz) = true)) :
    Calls Try.prog 7 #[.agg #[.int .i64 (Sm.mk sf st sk sp sx sy sz).f, .int .i64 (Sm.mk sf st sk sp sx sy sz).t, .int .i64 (Sm.mk sf st sk sp sx sy sz).k, .int .i64 (Sm.mk sf st sk sp sx sy sz).ep, .int .i64 (Sm.mk sf st sk sp sx sy sz).x, .int .i64 (Sm.mk sf st sk sp sx sy sz).y, .int .i64 (Sm.mk sf st sk sp sx sy sz).z], .agg #[.int .i64 (Sm.mk sf st rk rp rx ry rz).f, .int .i64 (Sm.mk sf st rk rp rx ry rz).t, .int .i64 (Sm.mk sf st rk rp rx ry rz).k, .int .i64 (Sm.mk sf st rk rp rx ry rz).ep, .int .i64 (Sm.mk sf st rk rp rx ry rz).x, .int .i64 (Sm.mk sf st rk rp rx ry rz).y, .int .i64 (Sm.mk sf st rk rp rx ry rz).z], .agg #[.int .i64 x.e, .int .i64 x.d, .int .i64 x.x, .int .i64 x.y, .int .i64 x.z, .int .i64 y.e, .int .i64 y.d, .int .i64 y.x, .int .i64 y.y, .int .i64 y.z]] w fun e w' => e = .returned (.bool true) ∧ Below w.heap.size w w' := by
  go_enter Try.func7, Try.ntmps7
  have KS : SBox (((w.alloc (.cells #[.int .i64 (Sm.mk sf st sk sp sx sy sz).f, .int .i64 (Sm.mk sf st sk sp sx sy sz).t, .int .i64 (Sm.mk sf st sk sp sx sy sz).k, .int .i64 (Sm.mk sf st sk sp sx sy sz).ep, .int .i64 (Sm.mk sf st sk sp sx sy sz).x, .int .i64 (Sm.mk sf st sk sp sx sy sz).y, .int .i64 (Sm.mk sf st sk sp sx sy sz).z] 24)).alloc (.cells #[.int .i64 (Sm.mk sf st rk rp rx ry rz).f, .int .i64 (Sm.mk sf st rk rp rx ry rz).t, .int .i64 (Sm.mk sf st rk rp rx ry rz).k, .int .i64 (Sm.mk sf st rk rp rx ry rz).ep, .int .i64 (Sm.mk sf st rk rp rx ry rz).x, .int .i64 (Sm.mk sf st rk rp rx ry rz).y, .int .i64 (Sm.mk sf st rk rp rx ry rz).z] 24)).alloc (.cells #[.int .i64 x.e, .int .i64 x.d, .int .i64 x.x, .int .i64 x.y, .int .i64 x.z, .int .i64 y.e, .int .i64 y.d, .int .i64 y.x, .int .i64 y.y, .int .i64 y.z] 39)) w.heap.size (Sm.mk sf st sk sp sx sy sz) := by simp [SBox, go_sem]
  have KR : SBox (((w.alloc (.cells #[.int .i64 (Sm.mk sf st sk sp sx sy sz).f, .int .i64 (Sm.mk sf st sk sp sx sy sz).t, .int .i64 (Sm.mk sf st sk sp sx sy sz).k, .int .i64 (Sm.mk sf st sk sp sx sy sz).ep, .int .i64 (Sm.mk sf st sk sp sx sy sz).x, .int .i64 (Sm.mk sf st sk sp sx sy sz).y, .int .i64 (Sm.mk sf st sk sp sx sy sz).z] 24)).alloc (.cells #[.int .i64 (Sm.mk sf st rk rp rx ry rz).f, .int .i64 (Sm.mk sf st rk rp rx ry rz).t, .int .i64 (Sm.mk sf st rk rp rx ry rz).k, .int .i64 (Sm.mk sf st rk rp rx ry rz).ep, .int .i64 (Sm.mk sf st rk rp rx ry rz).x, .int .i64 (Sm.mk sf st rk rp rx ry rz).y, .int .i64 (Sm.mk sf st rk rp rx ry rz).z] 24)).alloc (.cells #[.int .i64 x.e, .int .i64 x.d, .int .i64 x.x, .int .i64 x.y, .int .i64 x.z, .int .i64 y.e, .int .i64 y.d, .int .i64 y.x, .int .i64 y.y, .int .i64 y.z] 39)) (w.heap.size + 1) (Sm.mk sf st rk rp rx ry rz) := by simp [SBox, go_sem]
  have KX : Box2 (((w.alloc (.cells #[.int .i64 (Sm.mk sf st sk sp sx sy sz).f, .int .i64 (Sm.mk sf st sk sp sx sy sz).t, .int .i64 (Sm.mk sf st sk sp sx sy sz).k, .int .i64 (Sm.mk sf st sk sp sx sy sz).ep, .int .i64 (Sm.mk sf st sk sp sx sy sz).x, .int .i64 (Sm.mk sf st sk sp sx sy sz).y, .int .i64 (Sm.mk sf st sk sp sx sy sz).z] 24)).alloc (.cells #[.int .i64 (Sm.mk sf st rk rp rx ry rz).f, .int .i64 (Sm.mk sf st rk rp rx ry rz).t, .int .i64 (Sm.mk sf st rk rp rx ry rz).k, .int .i64 (Sm.mk sf st rk rp rx ry rz).ep, .int .i64 (Sm.mk sf st rk rp rx ry rz).x, .int .i64 (Sm.mk sf st rk rp rx ry rz).y, .int .i64 (Sm.mk sf st rk rp rx ry rz).z] 24)).alloc (.cells #[.int .i64 x.e, .int .i64 x.d, .int .i64 x.x, .int .i64 x.y, .int .i64 x.z, .int .i64 y.e, .int .i64 y.d, .int .i64 y.x, .int .i64 y.y, .int .i64 y.z] 39)) (w.heap.size + 1 + 1) (x, y) := by simp [Box2, go_sem]
  have G : Hid (Grow w (((w.alloc (.cells #[.int .i64 (Sm.mk sf st sk sp sx sy sz).f, .int .i64 (Sm.mk sf st sk sp sx sy sz).t, .int .i64 (Sm.mk sf st sk sp sx sy sz).k, .int .i64 (Sm.mk sf st sk sp sx sy sz).ep, .int .i64 (Sm.mk sf st sk sp sx sy sz).x, .int .i64 (Sm.mk sf st sk sp sx sy sz).y, .int .i64 (Sm.mk sf st sk sp sx sy sz).z] 24)).alloc (.cells #[.int .i64 (Sm.mk sf st rk rp rx ry rz).f, .int .i64 (Sm.mk sf st rk rp rx ry rz).t, .int .i64 (Sm.mk sf st rk rp rx ry rz).k, .int .i64 (Sm.mk sf st rk rp rx ry rz).ep, .int .i64 (Sm.mk sf st rk rp rx ry rz).x, .int .i64 (Sm.mk sf st rk rp rx ry rz).y, .int .i64 (Sm.mk sf st rk rp rx ry rz).z] 24)).alloc (.cells #[.int .i64 x.e, .int .i64 x.d, .int .i64 x.x, .int .i64 x.y, .int .i64 x.z, .int .i64 y.e, .int .i64 y.d, .int .i64 y.x, .int .i64 y.y, .int .i64 y.z] 39))) := hide (Grow.trans' (Grow.trans' (Grow.alloc' _ _) (Grow.alloc' _ _)) (Grow.alloc' _ _))
  have HS := hide KS
  have HR := hide KR
  have HX := hide KX
  obtain ⟨s_0, s_1, s_2, s_3, s_4, s_5, s_6⟩ := KS
  obtain ⟨r_0, r_1, r_2, r_3, r_4, r_5, r_6⟩ := KR
  obtain ⟨x_0, x_1, x_2, x_3, x_4, x_5, x_6, x_7, x_8, x_9⟩ := KX
  go_wp2_with fail
  refine (shown_any _).mono ?_
  rintro e w1 ⟨rfl, hb⟩
  clear s_0 s_1 s_2 s_3 s_4 s_5 s_6 r_0 r_1 r_2 r_3 r_4 r_5 r_6 x_0 x_1 x_2 x_3 x_4 x_5 x_6 x_7 x_8 x_9
  have KS : SBox w1 w.heap.size (Sm.mk sf st sk sp sx sy sz) := HS.out.later hb
  have KR : SBox w1 (w.heap.size + 1) (Sm.mk sf st rk rp rx ry rz) := HR.out.later hb
  have KX : Box2 w1 (w.heap.size + 1 + 1) ((x, y)) := HX.out.later hb
  have G : Hid (Grow w w1) := hide (Grow.trans' G.out hb)
  clear hb HS HR HX
  have HS := hide KS
  have HR := hide KR
  have HX := hide KX
  obtain ⟨s_0, s_1, s_2, s_3, s_4, s_5, s_6⟩ := KS
  obtain ⟨r_0, r_1, r_2, r_3, r_4, r_5, r_6⟩ := KR
  obtain ⟨x_0, x_1, x_2, x_3, x_4, x_5, x_6, x_7, x_8, x_9⟩ := KX
  go_wp2_with fail
  refine (sMayC (Sm.mk sf st sk sp sx sy sz) true h1.out _).mono ?_
  rintro e w2 ⟨rfl, hb⟩
  clear s_0 s_1 s_2 s_3 s_4 s_5 s_6 r_0 r_1 r_2 r_3 r_4 r_5 r_6 x_0 x_1 x_2 x_3 x_4 x_5 x_6 x_7 x_8 x_9
  have KS : SBox w2 w.heap.size (Sm.mk sf st sk sp sx sy sz) := HS.out.later hb
  have KR : SBox w2 (w.heap.size + 1) (Sm.mk sf st rk rp rx ry rz) := HR.out.later hb
  have KX : Box2 w2 (w.heap.size + 1 + 1) ((x, y)) := HX.out.later hb
  have G : Hid (Grow w w2) := hide (Grow.trans' G.out hb)
  clear hb HS HR HX
  have HS := hide KS
  have HR := hide KR
  have HX := hide KX
  obtain ⟨s_0, s_1, s_2, s_3, s_4, s_5, s_6⟩ := KS
  obtain ⟨r_0, r_1, r_2, r_3, r_4, r_5, r_6⟩ := KR
  obtain ⟨x_0, x_1, x_2, x_3, x_4, x_5, x_6, x_7, x_8, x_9⟩ := KX
  go_wp2_with fail
  refine (sMayC (Sm.mk sf st rk rp rx ry rz) true h2.out _).mono ?_
  rintro e w3 ⟨rfl, hb⟩
  clear s_0 s_1 s_2 s_3 s_4 s_5 s_6 r_0 r_1 r_2 r_3 r_4 r_5 r_6 x_0 x_1 x_2 x_3 x_4 x_5 x_6 x_7 x_8 x_9
  have KS : SBox w3 w.heap.size (Sm.mk sf st sk sp sx sy sz) := HS.out.later hb
  have KR : SBox w3 (w.heap.size + 1) (Sm.mk sf st rk rp rx ry rz) := HR.out.later hb
  have KX : Box2 w3 (w.heap.size + 1 + 1) ((x, y)) := HX.out.later hb
  have G : Hid (Grow w w3) := hide (Grow.trans' G.out hb)
  clear hb HS HR HX
  have HS := hide KS
  have HR := hide KR
  have HX := hide KX
  obtain ⟨s_0, s_1, s_2, s_3, s_4, s_5, s_6⟩ := KS
  obtain ⟨r_0, r_1, r_2, r_3, r_4, r_5, r_6⟩ := KR
  obtain ⟨x_0, x_1, x_2, x_3, x_4, x_5, x_6, x_7, x_8, x_9⟩ := KX
  go_wp2_with fail
  refine (apply_at (Sm.mk sf st sk sp sx sy sz) x A 0 hA.out hE.out _).mono ?_
  rintro e w4 ⟨rfl, hb⟩
  clear s_0 s_1 s_2 s_3 s_4 s_5 s_6 r_0 r_1 r_2 r_3 r_4 r_5 r_6 x_0 x_1 x_2 x_3 x_4 x_5 x_6 x_7 x_8 x_9
  have KS : SBox (w4.alloc (.cells #[.int .i64 (A).e, .int .i64 (A).d, .int .i64 (A).x, .int .i64 (A).y, .int .i64 (A).z] 30)) w.heap.size (Sm.mk sf st sk sp sx sy sz) := (HS.out.later hb).later (Grow.alloc' _ _)
  have KR : SBox (w4.alloc (.cells #[.int .i64 (A).e, .int .i64 (A).d, .int .i64 (A).x, .int .i64 (A).y, .int .i64 (A).z] 30)) (w.heap.size + 1) (Sm.mk sf st rk rp rx ry rz) := (HR.out.later hb).later (Grow.alloc' _ _)
  have KX : Box2 (w4.alloc (.cells #[.int .i64 (A).e, .int .i64 (A).d, .int .i64 (A).x, .int .i64 (A).y, .int .i64 (A).z] 30)) (w.heap.size + 1 + 1) ((x, y)) := (HX.out.later hb).later (Grow.alloc' _ _)
  have KA : Box (w4.alloc (.cells #[.int .i64 (A).e, .int .i64 (A).d, .int .i64 (A).x, .int .i64 (A).y, .int .i64 (A).z] 30)) w4.heap.size (A) := Box.new _ _
  have G : Hid (Grow w (w4.alloc (.cells #[.int .i64 (A).e, .int .i64 (A).d, .int .i64 (A).x, .int .i64 (A).y, .int .i64 (A).z] 30))) := hide (Grow.trans' (Grow.trans' G.out hb) (Grow.alloc' _ _))
  clear hb HS HR HX
  have HS := hide KS
  have HR := hide KR
  have HX := hide KX
  have HA := hide KA
  obtain ⟨s_0, s_1, s_2, s_3, s_4, s_5, s_6⟩ := KS
  obtain ⟨r_0, r_1, r_2, r_3, r_4, r_5, r_6⟩ := KR
  obtain ⟨x_0, x_1, x_2, x_3, x_4, x_5, x_6, x_7, x_8, x_9⟩ := KX
  obtain ⟨a_0, a_1, a_2, a_3, a_4⟩ := KA
  go_wp2_with fail
  refine (apply_at (Sm.mk sf st rk rp rx ry rz) x B F hB.out hF.out _).mono ?_
  rintro e w5 ⟨rfl, hb⟩
  clear s_0 s_1 s_2 s_3 s_4 s_5 s_6 r_0 r_1 r_2 r_3 r_4 r_5 r_6 x_0 x_1 x_2 x_3 x_4 x_5 x_6 x_7 x_8 x_9 a_0 a_1 a_2 a_3 a_4
  have KS : SBox (w5.alloc (.cells #[.int .i64 (B).e, .int .i64 (B).d, .int .i64 (B).x, .int .i64 (B).y, .int .i64 (B).z] 30)) w.heap.size (Sm.mk sf st sk sp sx sy sz) := (HS.out.later hb).later (Grow.alloc' _ _)
  have KR : SBox (w5.alloc (.cells #[.int .i64 (B).e, .int .i64 (B).d, .int .i64 (B).x, .int .i64 (B).y, .int .i64 (B).z] 30)) (w.heap.size + 1) (Sm.mk sf st rk rp rx ry rz) := (HR.out.later hb).later (Grow.alloc' _ _)
  have KX : Box2 (w5.alloc (.cells #[.int .i64 (B).e, .int .i64 (B).d, .int .i64 (B).x, .int .i64 (B).y, .int .i64 (B).z] 30)) (w.heap.size + 1 + 1) ((x, y)) := (HX.out.later hb).later (Grow.alloc' _ _)
  have KA : Box (w5.alloc (.cells #[.int .i64 (B).e, .int .i64 (B).d, .int .i64 (B).x, .int .i64 (B).y, .int .i64 (B).z] 30)) w4.heap.size (A) := (HA.out.later hb).later (Grow.alloc' _ _)
  have KB : Box (w5.alloc (.cells #[.int .i64 (B).e, .int .i64 (B).d, .int .i64 (B).x, .int .i64 (B).y, .int .i64 (B).z] 30)) w5.heap.size (B) := Box.new _ _
  have G : Hid (Grow w (w5.alloc (.cells #[.int .i64 (B).e, .int .i64 (B).d, .int .i64 (B).x, .int .i64 (B).y, .int .i64 (B).z] 30))) := hide (Grow.trans' (Grow.trans' G.out hb) (Grow.alloc' _ _))
  clear hb HS HR HX HA
  have HS := hide KS
  have HR := hide KR
  have HX := hide KX
  have HA := hide KA
  have HB := hide KB
  obtain ⟨s_0, s_1, s_2, s_3, s_4, s_5, s_6⟩ := KS
  obtain ⟨r_0, r_1, r_2, r_3, r_4, r_5, r_6⟩ := KR
  obtain ⟨x_0, x_1, x_2, x_3, x_4, x_5, x_6, x_7, x_8, x_9⟩ := KX
  obtain ⟨a_0, a_1, a_2, a_3, a_4⟩ := KA
  obtain ⟨b_0, b_1, b_2, b_3, b_4⟩ := KB
  go_wp2_with fail
  refine (apply_at (Sm.mk sf st sk sp sx sy sz) y C 0 hC.out hL.out _).mono ?_
  rintro e w6 ⟨rfl, hb⟩
  clear s_0 s_1 s_2 s_3 s_4 s_5 s_6 r_0 r_1 r_2 r_3 r_4 r_5 r_6 x_0 x_1 x_2 x_3 x_4 x_5 x_6 x_7 x_8 x_9 a_0 a_1 a_2 a_3 a_4 b_0 b_1 b_2 b_3 b_4
  have KS : SBox (w6.alloc (.cells #[.int .i64 (C).e, .int .i64 (C).d, .int .i64 (C).x, .int .i64 (C).y, .int .i64 (C).z] 30)) w.heap.size (Sm.mk sf st sk sp sx sy sz) := (HS.out.later hb).later (Grow.alloc' _ _)
  have KR : SBox (w6.alloc (.cells #[.int .i64 (C).e, .int .i64 (C).d, .int .i64 (C).x, .int .i64 (C).y, .int .i64 (C).z] 30)) (w.heap.size + 1) (Sm.mk sf st rk rp rx ry rz) := (HR.out.later hb).later (Grow.alloc' _ _)
  have KX : Box2 (w6.alloc (.cells #[.int .i64 (C).e, .int .i64 (C).d, .int .i64 (C).x, .int .i64 (C).y, .int .i64 (C).z] 30)) (w.heap.size + 1 + 1) ((x, y)) := (HX.out.later hb).later (Grow.alloc' _ _)
  have KA : Box (w6.alloc (.cells #[.int .i64 (C).e, .int .i64 (C).d, .int .i64 (C).x, .int .i64 (C).y, .int .i64 (C).z] 30)) w4.heap.size (A) := (HA.out.later hb).later (Grow.alloc' _ _)
  have KB : Box (w6.alloc (.cells #[.int .i64 (C).e, .int .i64 (C).d, .int .i64 (C).x, .int .i64 (C).y, .int .i64 (C).z] 30)) w5.heap.size (B) := (HB.out.later hb).later (Grow.alloc' _ _)
  have KC : Box (w6.alloc (.cells #[.int .i64 (C).e, .int .i64 (C).d, .int .i64 (C).x, .int .i64 (C).y, .int .i64 (C).z] 30)) w6.heap.size (C) := Box.new _ _
  have G : Hid (Grow w (w6.alloc (.cells #[.int .i64 (C).e, .int .i64 (C).d, .int .i64 (C).x, .int .i64 (C).y, .int .i64 (C).z] 30))) := hide (Grow.trans' (Grow.trans' G.out hb) (Grow.alloc' _ _))
  clear hb HS HR HX HA HB
  have HS := hide KS
  have HR := hide KR
  have HX := hide KX
  have HA := hide KA
  have HB := hide KB
  have HC := hide KC
  obtain ⟨s_0, s_1, s_2, s_3, s_4, s_5, s_6⟩ := KS
  obtain ⟨r_0, r_1, r_2, r_3, r_4, r_5, r_6⟩ := KR
  obtain ⟨x_0, x_1, x_2, x_3, x_4, x_5, x_6, x_7, x_8, x_9⟩ := KX
  obtain ⟨a_0, a_1, a_2, a_3, a_4⟩ := KA
  obtain ⟨b_0, b_1, b_2, b_3, b_4⟩ := KB
  obtain ⟨c_0, c_1, c_2, c_3, c_4⟩ := KC
  go_wp2_with fail
  refine (refLeC A B p hp.out _).mono ?_
  rintro e w7 ⟨rfl, hb⟩
  clear s_0 s_1 s_2 s_3 s_4 s_5 s_6 r_0 r_1 r_2 r_3 r_4 r_5 r_6 x_0 x_1 x_2 x_3 x_4 x_5 x_6 x_7 x_8 x_9 a_0 a_1 a_2 a_3 a_4 b_0 b_1 b_2 b_3 b_4 c_0 c_1 c_2 c_3 c_4
  have KS : SBox w7 w.heap.size (Sm.mk sf st sk sp sx sy sz) := HS.out.later hb
  have KR : SBox w7 (w.heap.size + 1) (Sm.mk sf st rk rp rx ry rz) := HR.out.later hb
  have KX : Box2 w7 (w.heap.size + 1 + 1) ((x, y)) := HX.out.later hb
  have KA : Box w7 w4.heap.size (A) := HA.out.later hb
  have KB : Box w7 w5.heap.size (B) := HB.out.later hb
  have KC : Box w7 w6.heap.size (C) := HC.out.later hb
  have G : Hid (Grow w w7) := hide (Grow.trans' G.out hb)
  clear hb HS HR HX HA HB HC
  have HS := hide KS
  have HR := hide KR
  have HX := hide KX
  have HA := hide KA
  have HB := hide KB
  have HC := hide KC
  obtain ⟨s_0, s_1, s_2, s_3, s_4, s_5, s_6⟩ := KS
  obtain ⟨r_0, r_1, r_2, r_3, r_4, r_5, r_6⟩ := KR
  obtain ⟨x_0, x_1, x_2, x_3, x_4, x_5, x_6, x_7, x_8, x_9⟩ := KX
  obtain ⟨a_0, a_1, a_2, a_3, a_4⟩ := KA
  obtain ⟨b_0, b_1, b_2, b_3, b_4⟩ := KB
  obtain ⟨c_0, c_1, c_2, c_3, c_4⟩ := KC
  go_wp2_with fail
  refine (refLeC x y true hu.out _).mono ?_
  rintro e w8 ⟨rfl, hb⟩
  clear s_0 s_1 s_2 s_3 s_4 s_5 s_6 r_0 r_1 r_2 r_3 r_4 r_5 r_6 x_0 x_1 x_2 x_3 x_4 x_5 x_6 x_7 x_8 x_9 a_0 a_1 a_2 a_3 a_4 b_0 b_1 b_2 b_3 b_4 c_0 c_1 c_2 c_3 c_4
  have KS : SBox w8 w.heap.size (Sm.mk sf st sk sp sx sy sz) := HS.out.later hb
  have KR : SBox w8 (w.heap.size + 1) (Sm.mk sf st rk rp rx ry rz) := HR.out.later hb
  have KX : Box2 w8 (w.heap.size + 1 + 1) ((x, y)) := HX.out.later hb
  have KA : Box w8 w4.heap.size (A) := HA.out.later hb
  have KB : Box w8 w5.heap.size (B) := HB.out.later hb
  have KC : Box w8 w6.heap.size (C) := HC.out.later hb
  have G : Hid (Grow w w8) := hide (Grow.trans' G.out hb)
  clear hb HS HR HX HA HB HC
  have HS := hide KS
  have HR := hide KR
  have HX := hide KX
  have HA := hide KA
  have HB := hide KB
  have HC := hide KC
  obtain ⟨s_0, s_1, s_2, s_3, s_4, s_5, s_6⟩ := KS
  obtain ⟨r_0, r_1, r_2, r_3, r_4, r_5, r_6⟩ := KR
  obtain ⟨x_0, x_1, x_2, x_3, x_4, x_5, x_6, x_7, x_8, x_9⟩ := KX
  obtain ⟨a_0, a_1, a_2, a_3, a_4⟩ := KA
  obtain ⟨b_0, b_1, b_2, b_3, b_4⟩ := KB
  obtain ⟨c_0, c_1, c_2, c_3, c_4⟩ := KC
  go_wp2_with fail
  refine (refLeC A C true hm.out _).mono ?_
  rintro e w9 ⟨rfl, hb⟩
  clear s_0 s_1 s_2 s_3 s_4 s_5 s_6 r_0 r_1 r_2 r_3 r_4 r_5 r_6 x_0 x_1 x_2 x_3 x_4 x_5 x_6 x_7 x_8 x_9 a_0 a_1 a_2 a_3 a_4 b_0 b_1 b_2 b_3 b_4 c_0 c_1 c_2 c_3 c_4
  have KS : SBox w9 w.heap.size (Sm.mk sf st sk sp sx sy sz) := HS.out.later hb
  have KR : SBox w9 (w.heap.size + 1) (Sm.mk sf st rk rp rx ry rz) := HR.out.later hb
  have KX : Box2 w9 (w.heap.size + 1 + 1) ((x, y)) := HX.out.later hb
  have KA : Box w9 w4.heap.size (A) := HA.out.later hb
  have KB : Box w9 w5.heap.size (B) := HB.out.later hb
  have KC : Box w9 w6.heap.size (C) := HC.out.later hb
  have G : Hid (Grow w w9) := hide (Grow.trans' G.out hb)
  clear hb HS HR HX HA HB HC
  have HS := hide KS
  have HR := hide KR
  have HX := hide KX
  have HA := hide KA
  have HB := hide KB
  have HC := hide KC
  obtain ⟨s_0, s_1, s_2, s_3, s_4, s_5, s_6⟩ := KS
  obtain ⟨r_0, r_1, r_2, r_3, r_4, r_5, r_6⟩ := KR
  obtain ⟨x_0, x_1, x_2, x_3, x_4, x_5, x_6, x_7, x_8, x_9⟩ := KX
  obtain ⟨a_0, a_1, a_2, a_3, a_4⟩ := KA
  obtain ⟨b_0, b_1, b_2, b_3, b_4⟩ := KB
  obtain ⟨c_0, c_1, c_2, c_3, c_4⟩ := KC
  go_wp2_with fail
  refine (sLeC (Sm.mk sf st sk sp sx sy sz) (Sm.mk sf st rk rp rx ry rz) true hl.out _).mono ?_
  rintro e w10 ⟨rfl, hb⟩
  clear s_0 s_1 s_2 s_3 s_4 s_5 s_6 r_0 r_1 r_2 r_3 r_4 r_5 r_6 x_0 x_1 x_2 x_3 x_4 x_5 x_6 x_7 x_8 x_9 a_0 a_1 a_2 a_3 a_4 b_0 b_1 b_2 b_3 b_4 c_0 c_1 c_2 c_3 c_4
  have KS : SBox w10 w.heap.size (Sm.mk sf st sk sp sx sy sz) := HS.out.later hb
  have KR : SBox w10 (w.heap.size + 1) (Sm.mk sf st rk rp rx ry rz) := HR.out.later hb
  have KX : Box2 w10 (w.heap.size + 1 + 1) ((x, y)) := HX.out.later hb
  have KA : Box w10 w4.heap.size (A) := HA.out.later hb
  have KB : Box w10 w5.heap.size (B) := HB.out.later hb
  have KC : Box w10 w6.heap.size (C) := HC.out.later hb
  have G : Hid (Grow w w10) := hide (Grow.trans' G.out hb)
  clear hb HS HR HX HA HB HC
  have HS := hide KS
  have HR := hide KR
  have HX := hide KX
  have HA := hide KA
  have HB := hide KB
  have HC := hide KC
  obtain ⟨s_0, s_1, s_2, s_3, s_4, s_5, s_6⟩ := KS
  obtain ⟨r_0, r_1, r_2, r_3, r_4, r_5, r_6⟩ := KR
  obtain ⟨x_0, x_1, x_2, x_3, x_4, x_5, x_6, x_7, x_8, x_9⟩ := KX
  obtain ⟨a_0, a_1, a_2, a_3, a_4⟩ := KA
  obtain ⟨b_0, b_1, b_2, b_3, b_4⟩ := KB
  obtain ⟨c_0, c_1, c_2, c_3, c_4⟩ := KC
  go_wp2_with fail
  refine (sLeC (Sm.mk sf st sk sp sx sy sz) (Sm.mk sf st rk rp rx ry rz) true hl.out _).mono ?_
  rintro e w11 ⟨rfl, hb⟩
  clear s_0 s_1 s_2 s_3 s_4 s_5 s_6 r_0 r_1 r_2 r_3 r_4 r_5 r_6 x_0 x_1 x_2 x_3 x_4 x_5 x_6 x_7 x_8 x_9 a_0 a_1 a_2 a_3 a_4 b_0 b_1 b_2 b_3 b_4 c_0 c_1 c_2 c_3 c_4
  have KS : SBox w11 w.heap.size (Sm.mk sf st sk sp sx sy sz) := HS.out.later hb
  have KR : SBox w11 (w.heap.size + 1) (Sm.mk sf st rk rp rx ry rz) := HR.out.later hb
  have KX : Box2 w11 (w.heap.size + 1 + 1) ((x, y)) := HX.out.later hb
  have KA : Box w11 w4.heap.size (A) := HA.out.later hb
  have KB : Box w11 w5.heap.size (B) := HB.out.later hb
  have KC : Box w11 w6.heap.size (C) := HC.out.later hb
  have G : Hid (Grow w w11) := hide (Grow.trans' G.out hb)
  clear hb HS HR HX HA HB HC
  have HS := hide KS
  have HR := hide KR
  have HX := hide KX
  have HA := hide KA
  have HB := hide KB
  have HC := hide KC
  obtain ⟨s_0, s_1, s_2, s_3, s_4, s_5, s_6⟩ := KS
  obtain ⟨r_0, r_1, r_2, r_3, r_4, r_5, r_6⟩ := KR
  obtain ⟨x_0, x_1, x_2, x_3, x_4, x_5, x_6, x_7, x_8, x_9⟩ := KX
  obtain ⟨a_0, a_1, a_2, a_3, a_4⟩ := KA
  obtain ⟨b_0, b_1, b_2, b_3, b_4⟩ := KB
  obtain ⟨c_0, c_1, c_2, c_3, c_4⟩ := KC
  go_wp2_with fail
  refine (sLeC (Sm.mk sf st sk sp sx sy sz) (Sm.mk sf st sk sp sx sy sz) true hss.out _).mono ?_
  rintro e w12 ⟨rfl, hb⟩
  clear s_0 s_1 s_2 s_3 s_4 s_5 s_6 r_0 r_1 r_2 r_3 r_4 r_5 r_6 x_0 x_1 x_2 x_3 x_4 x_5 x_6 x_7 x_8 x_9 a_0 a_1 a_2 a_3 a_4 b_0 b_1 b_2 b_3 b_4 c_0 c_1 c_2 c_3 c_4
  have KS : SBox w12 w.heap.size (Sm.mk sf st sk sp sx sy sz) := HS.out.later hb
  have KR : SBox w12 (w.heap.size + 1) (Sm.mk sf st rk rp rx ry rz) := HR.out.later hb
  have KX : Box2 w12 (w.heap.size + 1 + 1) ((x, y)) := HX.out.later hb
  have KA : Box w12 w4.heap.size (A) := HA.out.later hb
  have KB : Box w12 w5.heap.size (B) := HB.out.later hb
  have KC : Box w12 w6.heap.size (C) := HC.out.later hb
  have G : Hid (Grow w w12) := hide (Grow.trans' G.out hb)
  clear hb HS HR HX HA HB HC
  clear KS KR KA KB KC KX
  go_wp2
  go_ret
  exact ⟨rfl, G.out⟩
set_option maxHeartbeats 1000000 in
set_option maxRecDepth 100000 in
theorem SummaryLess_lb3 (sf st sk sp sx sy sz rk rp rx ry rz : Int) (x y : Tm) (A B C : Tm) (E F L : Int) (p m : Bool) (w : World) (h1 : Hid (mayS (Sm.mk sf st sk sp sx sy sz) = true)) (h2 : Hid (mayS (Sm.mk sf st rk rp rx ry rz) = true)) (hA : Hid (applyT (Sm.mk sf st sk sp sx sy sz) x = A)) (hE : Hid (applyE (Sm.mk sf st sk sp sx sy sz) x = 0)) (hB : Hid (applyT (Sm.mk sf st rk rp rx ry rz) x = B)) (hF : Hid (applyE (Sm.mk sf st rk rp rx ry rz) x = 0)) (hC : Hid (applyT (Sm.mk sf st sk sp sx sy sz) y = C)) (hL : Hid (applyE (Sm.mk sf st sk sp sx sy sz) y = L)) (hp : Hid (leB A B = true)) (hu : Hid (leB x y = false)) (hm : Hid (leB A C = m)) (hl : Hid (leS (Sm.mk sf st sk sp sx sy sz) (Sm.mk sf st rk rp rx ry rz) = true)) (hss : Hid (leS (Sm.mk sf st sk sp sx sy sz) (Sm.mk sf st sk sp sx sy sz) = true)) :
    Calls Try.prog 7 #[.agg #[.int .i64 (Sm.mk sf st sk sp sx sy sz).f, .int .i64 (Sm.mk sf st sk sp sx sy sz).t, .int .i64 (Sm.mk sf st sk sp sx sy sz).k, .int .i64 (Sm.mk sf st sk sp sx sy sz).ep, .int .i64 (Sm.mk sf st sk sp sx sy sz).x, .int .i64 (Sm.mk sf st sk sp sx sy sz).y, .int .i64 (Sm.mk sf st sk sp sx sy sz).z], .agg #[.int .i64 (Sm.mk sf st rk rp rx ry rz).f, .int .i64 (Sm.mk sf st rk rp rx ry rz).t, .int .i64 (Sm.mk sf st rk rp rx ry rz).k, .int .i64 (Sm.mk sf st rk rp rx ry rz).ep, .int .i64 (Sm.mk sf st rk rp rx ry rz).x, .int .i64 (Sm.mk sf st rk rp rx ry rz).y, .int .i64 (Sm.mk sf st rk rp rx ry rz).z], .agg #[.int .i64 x.e, .int .i64 x.d, .int .i64 x.x, .int .i64 x.y, .int .i64 x.z, .int .i64 y.e, .int .i64 y.d, .int .i64 y.x, .int .i64 y.y, .int .i64 y.z]] w fun e w' => e = .returned (.bool true) ∧ Below w.heap.size w w' := by
  go_enter Try.func7, Try.ntmps7
  have KS : SBox (((w.alloc (.cells #[.int .i64 (Sm.mk sf st sk sp sx sy sz).f, .int .i64 (Sm.mk sf st sk sp sx sy sz).t, .int .i64 (Sm.mk sf st sk sp sx sy sz).k, .int .i64 (Sm.mk sf st sk sp sx sy sz).ep, .int .i64 (Sm.mk sf st sk sp sx sy sz).x, .int .i64 (Sm.mk sf st sk sp sx sy sz).y, .int .i64 (Sm.mk sf st sk sp sx sy sz).z] 24)).alloc (.cells #[.int .i64 (Sm.mk sf st rk rp rx ry rz).f, .int .i64 (Sm.mk sf st rk rp rx ry rz).t, .int .i64 (Sm.mk sf st rk rp rx ry rz).k, .int .i64 (Sm.mk sf st rk rp rx ry rz).ep, .int .i64 (Sm.mk sf st rk rp rx ry rz).x, .int .i64 (Sm.mk sf st rk rp rx ry rz).y, .int .i64 (Sm.mk sf st rk rp rx ry rz).z] 24)).alloc (.cells #[.int .i64 x.e, .int .i64 x.d, .int .i64 x.x, .int .i64 x.y, .int .i64 x.z, .int .i64 y.e, .int .i64 y.d, .int .i64 y.x, .int .i64 y.y, .int .i64 y.z] 39)) w.heap.size (Sm.mk sf st sk sp sx sy sz) := by simp [SBox, go_sem]
  have KR : SBox (((w.alloc (.cells #[.int .i64 (Sm.mk sf st sk sp sx sy sz).f, .int .i64 (Sm.mk sf st sk sp sx sy sz).t, .int .i64 (Sm.mk sf st sk sp sx sy sz).k, .int .i64 (Sm.mk sf st sk sp sx sy sz).ep, .int .i64 (Sm.mk sf st sk sp sx sy sz).x, .int .i64 (Sm.mk sf st sk sp sx sy sz).y, .int .i64 (Sm.mk sf st sk sp sx sy sz).z] 24)).alloc (.cells #[.int .i64 (Sm.mk sf st rk rp rx ry rz).f, .int .i64 (Sm.mk sf st rk rp rx ry rz).t, .int .i64 (Sm.mk sf st rk rp rx ry rz).k, .int .i64 (Sm.mk sf st rk rp rx ry rz).ep, .int .i64 (Sm.mk sf st rk rp rx ry rz).x, .int .i64 (Sm.mk sf st rk rp rx ry rz).y, .int .i64 (Sm.mk sf st rk rp rx ry rz).z] 24)).alloc (.cells #[.int .i64 x.e, .int .i64 x.d, .int .i64 x.x, .int .i64 x.y, .int .i64 x.z, .int .i64 y.e, .int .i64 y.d, .int .i64 y.x, .int .i64 y.y, .int .i64 y.z] 39)) (w.heap.size + 1) (Sm.mk sf st rk rp rx ry rz) := by simp [SBox, go_sem]
  have KX : Box2 (((w.alloc (.cells #[.int .i64 (Sm.mk sf st sk sp sx sy sz).f, .int .i64 (Sm.mk sf st sk sp sx sy sz).t, .int .i64 (Sm.mk sf st sk sp sx sy sz).k, .int .i64 (Sm.mk sf st sk sp sx sy sz).ep, .int .i64 (Sm.mk sf st sk sp sx sy sz).x, .int .i64 (Sm.mk sf st sk sp sx sy sz).y, .int .i64 (Sm.mk sf st sk sp sx sy sz).z] 24)).alloc (.cells #[.int .i64 (Sm.mk sf st rk rp rx ry rz).f, .int .i64 (Sm.mk sf st rk rp rx ry rz).t, .int .i64 (Sm.mk sf st rk rp rx ry rz).k, .int .i64 (Sm.mk sf st rk rp rx ry rz).ep, .int .i64 (Sm.mk sf st rk rp rx ry rz).x, .int .i64 (Sm.mk sf st rk rp rx ry rz).y, .int .i64 (Sm.mk sf st rk rp rx ry rz).z] 24)).alloc (.cells #[.int .i64 x.e, .int .i64 x.d, .int .i64 x.x, .int .i64 x.y, .int .i64 x.z, .int .i64 y.e, .int .i64 y.d, .int .i64 y.x, .int .i64 y.y, .int .i64 y.z] 39)) (w.heap.size + 1 + 1) (x, y) := by simp [Box2, go_sem]
  have G : Hid (Grow w (((w.alloc (.cells #[.int .i64 (Sm.mk sf st sk sp sx sy sz).f, .int .i64 (Sm.mk sf st sk sp sx sy sz).t, .int .i64 (Sm.mk sf st sk sp sx sy sz).k, .int .i64 (Sm.mk sf st sk sp sx sy sz).ep, .int .i64 (Sm.mk sf st sk sp sx sy sz).x, .int .i64 (Sm.mk sf st sk sp sx sy sz).y, .int .i64 (Sm.mk sf st sk sp sx sy sz).z] 24)).alloc (.cells #[.int .i64 (Sm.mk sf st rk rp rx ry rz).f, .int .i64 (Sm.mk sf st rk rp rx ry rz).t, .int .i64 (Sm.mk sf st rk rp rx ry rz).k, .int .i64 (Sm.mk sf st rk rp rx ry rz).ep, .int .i64 (Sm.mk sf st rk rp rx ry rz).x, .int .i64 (Sm.mk sf st rk rp rx ry rz).y, .int .i64 (Sm.mk sf st rk rp rx ry rz).z] 24)).alloc (.cells #[.int .i64 x.e, .int .i64 x.d, .int .i64 x.x, .int .i64 x.y, .int .i64 x.z, .int .i64 y.e, .int .i64 y.d, .int .i64 y.x, .int .i64 y.y, .int .i64 y.z] 39))) := hide (Grow.trans' (Grow.trans' (Grow.alloc' _ _) (Grow.alloc' _ _)) (Grow.alloc' _ _))
  have HS := hide KS
  have HR := hide KR
  have HX := hide KX
  obtain ⟨s_0, s_1, s_2, s_3, s_4, s_5, s_6⟩ := KS
  obtain ⟨r_0, r_1, r_2, r_3, r_4, r_5, r_6⟩ := KR
  obtain ⟨x_0, x_1, x_2, x_3, x_4, x_5, x_6, x_7, x_8, x_9⟩ := KX
  go_wp2_with fail
  refine (shown_any _).mono ?_
  rintro e w1 ⟨rfl, hb⟩
  clear s_0 s_1 s_2 s_3 s_4 s_5 s_6 r_0 r_1 r_2 r_3 r_4 r_5 r_6 x_0 x_1 x_2 x_3 x_4 x_5 x_6 x_7 x_8 x_9
  have KS : SBox w1 w.heap.size (Sm.mk sf st sk sp sx sy sz) := HS.out.later hb
  have KR : SBox w1 (w.heap.size + 1) (Sm.mk sf st rk rp rx ry rz) := HR.out.later hb
  have KX : Box2 w1 (w.heap.size + 1 + 1) ((x, y)) := HX.out.later hb
  have G : Hid (Grow w w1) := hide (Grow.trans' G.out hb)
  clear hb HS HR HX
  have HS := hide KS
  have HR := hide KR
  have HX := hide KX
  obtain ⟨s_0, s_1, s_2, s_3, s_4, s_5, s_6⟩ := KS
  obtain ⟨r_0, r_1, r_2, r_3, r_4, r_5, r_6⟩ := KR
  obtain ⟨x_0, x_1, x_2, x_3, x_4, x_5, x_6, x_7, x_8, x_9⟩ := KX
  go_wp2_with fail
  refine (sMayC (Sm.mk sf st sk sp sx sy sz) true h1.out _).mono ?_
  rintro e w2 ⟨rfl, hb⟩
  clear s_0 s_1 s_2 s_3 s_4 s_5 s_6 r_0 r_1 r_2 r_3 r_4 r_5 r_6 x_0 x_1 x_2 x_3 x_4 x_5 x_6 x_7 x_8 x_9
  have KS : SBox w2 w.heap.size (Sm.mk sf st sk sp sx sy sz) := HS.out.later hb
  have KR : SBox w2 (w.heap.size + 1) (Sm.mk sf st rk rp rx ry rz) := HR.out.later hb
  have KX : Box2 w2 (w.heap.size + 1 + 1) ((x, y)) := HX.out.later hb
  have G : Hid (Grow w w2) := hide (Grow.trans' G.out hb)
  clear hb HS HR HX
  have HS := hide KS
  have HR := hide KR
  have HX := hide KX
  obtain ⟨s_0, s_1, s_2, s_3, s_4, s_5, s_6⟩ := KS
  obtain ⟨r_0, r_1, r_2, r_3, r_4, r_5, r_6⟩ := KR
  obtain ⟨x_0, x_1, x_2, x_3, x_4, x_5, x_6, x_7, x_8, x_9⟩ := KX
  go_wp2_with fail
  refine (sMayC (Sm.mk sf st rk rp rx ry rz) true h2.out _).mono ?_
  rintro e w3 ⟨rfl, hb⟩
  clear s_0 s_1 s_2 s_3 s_4 s_5 s_6 r_0 r_1 r_2 r_3 r_4 r_5 r_6 x_0 x_1 x_2 x_3 x_4 x_5 x_6 x_7 x_8 x_9
  have KS : SBox w3 w.heap.size (Sm.mk sf st sk sp sx sy sz) := HS.out.later hb
  have KR : SBox w3 (w.heap.size + 1) (Sm.mk sf st rk rp rx ry rz) := HR.out.later hb
  have KX : Box2 w3 (w.heap.size + 1 + 1) ((x, y)) := HX.out.later hb
  have G : Hid (Grow w w3) := hide (Grow.trans' G.out hb)
  clear hb HS HR HX
  have HS := hide KS
  have HR := hide KR
  have HX := hide KX
  obtain ⟨s_0, s_1, s_2, s_3, s_4, s_5, s_6⟩ := KS
  obtain ⟨r_0, r_1, r_2, r_3, r_4, r_5, r_6⟩ := KR
  obtain ⟨x_0, x_1, x_2, x_3, x_4, x_5, x_6, x_7, x_8, x_9⟩ := KX
  go_wp2_with fail
  refine (apply_at (Sm.mk sf st sk sp sx sy sz) x A 0 hA.out hE.out _).mono ?_
  rintro e w4 ⟨rfl, hb⟩
  clear s_0 s_1 s_2 s_3 s_4 s_5 s_6 r_0 r_1 r_2 r_3 r_4 r_5 r_6 x_0 x_1 x_2 x_3 x_4 x_5 x_6 x_7 x_8 x_9
  have KS : SBox (w4.alloc (.cells #[.int .i64 (A).e, .int .i64 (A).d, .int .i64 (A).x, .int .i64 (A).y, .int .i64 (A).z] 30)) w.heap.size (Sm.mk sf st sk sp sx sy sz) := (HS.out.later hb).later (Grow.alloc' _ _)
  have KR : SBox (w4.alloc (.cells #[.int .i64 (A).e, .int .i64 (A).d, .int .i64 (A).x, .int .i64 (A).y, .int .i64 (A).z] 30)) (w.heap.size + 1) (Sm.mk sf st rk rp rx ry rz) := (HR.out.later hb).later (Grow.alloc' _ _)
  have KX : Box2 (w4.alloc (.cells #[.int .i64 (A).e, .int .i64 (A).d, .int .i64 (A).x, .int .i64 (A).y, .int .i64 (A).z] 30)) (w.heap.size + 1 + 1) ((x, y)) := (HX.out.later hb).later (Grow.alloc' _ _)
  have KA : Box (w4.alloc (.cells #[.int .i64 (A).e, .int .i64 (A).d, .int .i64 (A).x, .int .i64 (A).y, .int .i64 (A).z] 30)) w4.heap.size (A) := Box.new _ _
  have G : Hid (Grow w (w4.alloc (.cells #[.int .i64 (A).e, .int .i64 (A).d, .int .i64 (A).x, .int .i64 (A).y, .int .i64 (A).z] 30))) := hide (Grow.trans' (Grow.trans' G.out hb) (Grow.alloc' _ _))
  clear hb HS HR HX
  have HS := hide KS
  have HR := hide KR
  have HX := hide KX
  have HA := hide KA
  obtain ⟨s_0, s_1, s_2, s_3, s_4, s_5, s_6⟩ := KS
  obtain ⟨r_0, r_1, r_2, r_3, r_4, r_5, r_6⟩ := KR
  obtain ⟨x_0, x_1, x_2, x_3, x_4, x_5, x_6, x_7, x_8, x_9⟩ := KX
  obtain ⟨a_0, a_1, a_2, a_3, a_4⟩ := KA
  go_wp2_with fail
  refine (apply_at (Sm.mk sf st rk rp rx ry rz) x B 0 hB.out hF.out _).mono ?_
  rintro e w5 ⟨rfl, hb⟩
  clear s_0 s_1 s_2 s_3 s_4 s_5 s_6 r_0 r_1 r_2 r_3 r_4 r_5 r_6 x_0 x_1 x_2 x_3 x_4 x_5 x_6 x_7 x_8 x_9 a_0 a_1 a_2 a_3 a_4
  have KS : SBox (w5.alloc (.cells #[.int .i64 (B).e, .int .i64 (B).d, .int .i64 (B).x, .int .i64 (B).y, .int .i64 (B).z] 30)) w.heap.size (Sm.mk sf st sk sp sx sy sz) := (HS.out.later hb).later (Grow.alloc' _ _)
  have KR : SBox (w5.alloc (.cells #[.int .i64 (B).e, .int .i64 (B).d, .int .i64 (B).x, .int .i64 (B).y, .int .i64 (B).z] 30)) (w.heap.size + 1) (Sm.mk sf st rk rp rx ry rz) := (HR.out.later hb).later (Grow.alloc' _ _)
  have KX : Box2 (w5.alloc (.cells #[.int .i64 (B).e, .int .i64 (B).d, .int .i64 (B).x, .int .i64 (B).y, .int .i64 (B).z] 30)) (w.heap.size + 1 + 1) ((x, y)) := (HX.out.later hb).later (Grow.alloc' _ _)
  have KA : Box (w5.alloc (.cells #[.int .i64 (B).e, .int .i64 (B).d, .int .i64 (B).x, .int .i64 (B).y, .int .i64 (B).z] 30)) w4.heap.size (A) := (HA.out.later hb).later (Grow.alloc' _ _)
  have KB : Box (w5.alloc (.cells #[.int .i64 (B).e, .int .i64 (B).d, .int .i64 (B).x, .int .i64 (B).y, .int .i64 (B).z] 30)) w5.heap.size (B) := Box.new _ _
  have G : Hid (Grow w (w5.alloc (.cells #[.int .i64 (B).e, .int .i64 (B).d, .int .i64 (B).x, .int .i64 (B).y, .int .i64 (B).z] 30))) := hide (Grow.trans' (Grow.trans' G.out hb) (Grow.alloc' _ _))
  clear hb HS HR HX HA
  have HS := hide KS
  have HR := hide KR
  have HX := hide KX
  have HA := hide KA
  have HB := hide KB
  obtain ⟨s_0, s_1, s_2, s_3, s_4, s_5, s_6⟩ := KS
  obtain ⟨r_0, r_1, r_2, r_3, r_4, r_5, r_6⟩ := KR
  obtain ⟨x_0, x_1, x_2, x_3, x_4, x_5, x_6, x_7, x_8, x_9⟩ := KX
  obtain ⟨a_0, a_1, a_2, a_3, a_4⟩ := KA
  obtain ⟨b_0, b_1, b_2, b_3, b_4⟩ := KB
  go_wp2_with fail
  refine (apply_at (Sm.mk sf st sk sp sx sy sz) y C L hC.out hL.out _).mono ?_
  rintro e w6 ⟨rfl, hb⟩
  clear s_0 s_1 s_2 s_3 s_4 s_5 s_6 r_0 r_1 r_2 r_3 r_4 r_5 r_6 x_0 x_1 x_2 x_3 x_4 x_5 x_6 x_7 x_8 x_9 a_0 a_1 a_2 a_3 a_4 b_0 b_1 b_2 b_3 b_4
  have KS : SBox (w6.alloc (.cells #[.int .i64 (C).e, .int .i64 (C).d, .int .i64 (C).x, .int .i64 (C).y, .int .i64 (C).z] 30)) w.heap.size (Sm.mk sf st sk sp sx sy sz) := (HS.out.later hb).later (Grow.alloc' _ _)
  have KR : SBox (w6.alloc (.cells #[.int .i64 (C).e, .int .i64 (C).d, .int .i64 (C).x, .int .i64 (C).y, .int .i64 (C).z] 30)) (w.heap.size + 1) (Sm.mk sf st rk rp rx ry rz) := (HR.out.later hb).later (Grow.alloc' _ _)
  have KX : Box2 (w6.alloc (.cells #[.int .i64 (C).e, .int .i64 (C).d, .int .i64 (C).x, .int .i64 (C).y, .int .i64 (C).z] 30)) (w.heap.size + 1 + 1) ((x, y)) := (HX.out.later hb).later (Grow.alloc' _ _)
  have KA : Box (w6.alloc (.cells #[.int .i64 (C).e, .int .i64 (C).d, .int .i64 (C).x, .int .i64 (C).y, .int .i64 (C).z] 30)) w4.heap.size (A) := (HA.out.later hb).later (Grow.alloc' _ _)
  have KB : Box (w6.alloc (.cells #[.int .i64 (C).e, .int .i64 (C).d, .int .i64 (C).x, .int .i64 (C).y, .int .i64 (C).z] 30)) w5.heap.size (B) := (HB.out.later hb).later (Grow.alloc' _ _)
  have KC : Box (w6.alloc (.cells #[.int .i64 (C).e, .int .i64 (C).d, .int .i64 (C).x, .int .i64 (C).y, .int .i64 (C).z] 30)) w6.heap.size (C) := Box.new _ _
  have G : Hid (Grow w (w6.alloc (.cells #[.int .i64 (C).e, .int .i64 (C).d, .int .i64 (C).x, .int .i64 (C).y, .int .i64 (C).z] 30))) := hide (Grow.trans' (Grow.trans' G.out hb) (Grow.alloc' _ _))
  clear hb HS HR HX HA HB
  have HS := hide KS
  have HR := hide KR
  have HX := hide KX
  have HA := hide KA
  have HB := hide KB
  have HC := hide KC
  obtain ⟨s_0, s_1, s_2, s_3, s_4, s_5, s_6⟩ := KS
  obtain ⟨r_0, r_1, r_2, r_3, r_4, r_5, r_6⟩ := KR
  obtain ⟨x_0, x_1, x_2, x_3, x_4, x_5, x_6, x_7, x_8, x_9⟩ := KX
  obtain ⟨a_0, a_1, a_2, a_3, a_4⟩ := KA
  obtain ⟨b_0, b_1, b_2, b_3, b_4⟩ := KB
  obtain ⟨c_0, c_1, c_2, c_3, c_4⟩ := KC
  go_wp2_with fail
  refine (refLeC A B true hp.out _).mono ?_
  rintro e w7 ⟨rfl, hb⟩
  clear s_0 s_1 s_2 s_3 s_4 s_5 s_6 r_0 r_1 r_2 r_3 r_4 r_5 r_6 x_0 x_1 x_2 x_3 x_4 x_5 x_6 x_7 x_8 x_9 a_0 a_1 a_2 a_3 a_4 b_0 b_1 b_2 b_3 b_4 c_0 c_1 c_2 c_3 c_4
  have KS : SBox w7 w.heap.size (Sm.mk sf st sk sp sx sy sz) := HS.out.later hb
  have KR : SBox w7 (w.heap.size + 1) (Sm.mk sf st rk rp rx ry rz) := HR.out.later hb
  have KX : Box2 w7 (w.heap.size + 1 + 1) ((x, y)) := HX.out.later hb
  have KA : Box w7 w4.heap.size (A) := HA.out.later hb
  have KB : Box w7 w5.heap.size (B) := HB.out.later hb
  have KC : Box w7 w6.heap.size (C) := HC.out.later hb
  have G : Hid (Grow w w7) := hide (Grow.trans' G.out hb)
  clear hb HS HR HX HA HB HC
  have HS := hide KS
  have HR := hide KR
  have HX := hide KX
  have HA := hide KA
  have HB := hide KB
  have HC := hide KC
  obtain ⟨s_0, s_1, s_2, s_3, s_4, s_5, s_6⟩ := KS
  obtain ⟨r_0, r_1, r_2, r_3, r_4, r_5, r_6⟩ := KR
  obtain ⟨x_0, x_1, x_2, x_3, x_4, x_5, x_6, x_7, x_8, x_9⟩ := KX
  obtain ⟨a_0, a_1, a_2, a_3, a_4⟩ := KA
  obtain ⟨b_0, b_1, b_2, b_3, b_4⟩ := KB
  obtain ⟨c_0, c_1, c_2, c_3, c_4⟩ := KC
  go_wp2_with fail
  refine (refLeC x y false hu.out _).mono ?_
  rintro e w8 ⟨rfl, hb⟩
  clear s_0 s_1 s_2 s_3 s_4 s_5 s_6 r_0 r_1 r_2 r_3 r_4 r_5 r_6 x_0 x_1 x_2 x_3 x_4 x_5 x_6 x_7 x_8 x_9 a_0 a_1 a_2 a_3 a_4 b_0 b_1 b_2 b_3 b_4 c_0 c_1 c_2 c_3 c_4
  have KS : SBox w8 w.heap.size (Sm.mk sf st sk sp sx sy sz) := HS.out.later hb
  have KR : SBox w8 (w.heap.size + 1) (Sm.mk sf st rk rp rx ry rz) := HR.out.later hb
  have KX : Box2 w8 (w.heap.size + 1 + 1) ((x, y)) := HX.out.later hb
  have KA : Box w8 w4.heap.size (A) := HA.out.later hb
  have KB : Box w8 w5.heap.size (B) := HB.out.later hb
  have KC : Box w8 w6.heap.size (C) := HC.out.later hb
  have G : Hid (Grow w w8) := hide (Grow.trans' G.out hb)
  clear hb HS HR HX HA HB HC
  have HS := hide KS
  have HR := hide KR
  have HX := hide KX
  have HA := hide KA
  have HB := hide KB
  have HC := hide KC
  obtain ⟨s_0, s_1, s_2, s_3, s_4, s_5, s_6⟩ := KS
  obtain ⟨r_0, r_1, r_2, r_3, r_4, r_5, r_6⟩ := KR
  obtain ⟨x_0, x_1, x_2, x_3, x_4, x_5, x_6, x_7, x_8, x_9⟩ := KX
  obtain ⟨a_0, a_1, a_2, a_3, a_4⟩ := KA
  obtain ⟨b_0, b_1, b_2, b_3, b_4⟩ := KB
  obtain ⟨c_0, c_1, c_2, c_3, c_4⟩ := KC
  go_wp2_with fail
  refine (refLeC A C m hm.out _).mono ?_
  rintro e w9 ⟨rfl, hb⟩
  clear s_0 s_1 s_2 s_3 s_4 s_5 s_6 r_0 r_1 r_2 r_3 r_4 r_5 r_6 x_0 x_1 x_2 x_3 x_4 x_5 x_6 x_7 x_8 x_9 a_0 a_1 a_2 a_3 a_4 b_0 b_1 b_2 b_3 b_4 c_0 c_1 c_2 c_3 c_4
  have KS : SBox w9 w.heap.size (Sm.mk sf st sk sp sx sy sz) := HS.out.later hb
  have KR : SBox w9 (w.heap.size + 1) (Sm.mk sf st rk rp rx ry rz) := HR.out.later hb
  have KX : Box2 w9 (w.heap.size + 1 + 1) ((x, y)) := HX.out.later hb
  have KA : Box w9 w4.heap.size (A) := HA.out.later hb
  have KB : Box w9 w5.heap.size (B) := HB.out.later hb
  have KC : Box w9 w6.heap.size (C) := HC.out.later hb
  have G : Hid (Grow w w9) := hide (Grow.trans' G.out hb)
  clear hb HS HR HX HA HB HC
  have HS := hide KS
  have HR := hide KR
  have HX := hide KX
  have HA := hide KA
  have HB := hide KB
  have HC := hide KC
  obtain ⟨s_0, s_1, s_2, s_3, s_4, s_5, s_6⟩ := KS
  obtain ⟨r_0, r_1, r_2, r_3, r_4, r_5, r_6⟩ := KR
  obtain ⟨x_0, x_1, x_2, x_3, x_4, x_5, x_6, x_7, x_8, x_9⟩ := KX
  obtain ⟨a_0, a_1, a_2, a_3, a_4⟩ := KA
  obtain ⟨b_0, b_1, b_2, b_3, b_4⟩ := KB
  obtain ⟨c_0, c_1, c_2, c_3, c_4⟩ := KC
  go_wp2_with fail
  refine (sLeC (Sm.mk sf st sk sp sx sy sz) (Sm.mk sf st rk rp rx ry rz) true hl.out _).mono ?_
  rintro e w10 ⟨rfl, hb⟩
  clear s_0 s_1 s_2 s_3 s_4 s_5 s_6 r_0 r_1 r_2 r_3 r_4 r_5 r_6 x_0 x_1 x_2 x_3 x_4 x_5 x_6 x_7 x_8 x_9 a_0 a_1 a_2 a_3 a_4 b_0 b_1 b_2 b_3 b_4 c_0 c_1 c_2 c_3 c_4
  have KS : SBox w10 w.heap.size (Sm.mk sf st sk sp sx sy sz) := HS.out.later hb
  have KR : SBox w10 (w.heap.size + 1) (Sm.mk sf st rk rp rx ry rz) := HR.out.later hb
  have KX : Box2 w10 (w.heap.size + 1 + 1) ((x, y)) := HX.out.later hb
  have KA : Box w10 w4.heap.size (A) := HA.out.later hb
  have KB : Box w10 w5.heap.size (B) := HB.out.later hb
  have KC : Box w10 w6.heap.size (C) := HC.out.later hb
  have G : Hid (Grow w w10) := hide (Grow.trans' G.out hb)
  clear hb HS HR HX HA HB HC
  have HS := hide KS
  have HR := hide KR
  have HX := hide KX
  have HA := hide KA
  have HB := hide KB
  have HC := hide KC
  obtain ⟨s_0, s_1, s_2, s_3, s_4, s_5, s_6⟩ := KS
  obtain ⟨r_0, r_1, r_2, r_3, r_4, r_5, r_6⟩ := KR
  obtain ⟨x_0, x_1, x_2, x_3, x_4, x_5, x_6, x_7, x_8, x_9⟩ := KX
  obtain ⟨a_0, a_1, a_2, a_3, a_4⟩ := KA
  obtain ⟨b_0, b_1, b_2, b_3, b_4⟩ := KB
  obtain ⟨c_0, c_1, c_2, c_3, c_4⟩ := KC
  go_wp2_with fail
  refine (sLeC (Sm.mk sf st sk sp sx sy sz) (Sm.mk sf st rk rp rx ry rz) true hl.out _).mono ?_
  rintro e w11 ⟨rfl, hb⟩
  clear s_0 s_1 s_2 s_3 s_4 s_5 s_6 r_0 r_1 r_2 r_3 r_4 r_5 r_6 x_0 x_1 x_2 x_3 x_4 x_5 x_6 x_7 x_8 x_9 a_0 a_1 a_2 a_3 a_4 b_0 b_1 b_2 b_3 b_4 c_0 c_1 c_2 c_3 c_4
  have KS : SBox w11 w.heap.size (Sm.mk sf st sk sp sx sy sz) := HS.out.later hb
  have KR : SBox w11 (w.heap.size + 1) (Sm.mk sf st rk rp rx ry rz) := HR.out.later hb
  have KX : Box2 w11 (w.heap.size + 1 + 1) ((x, y)) := HX.out.later hb
  have KA : Box w11 w4.heap.size (A) := HA.out.later hb
  have KB : Box w11 w5.heap.size (B) := HB.out.later hb
  have KC : Box w11 w6.heap.size (C) := HC.out.later hb
  have G : Hid (Grow w w11) := hide (Grow.trans' G.out hb)
  clear hb HS HR HX HA HB HC
  have HS := hide KS
  have HR := hide KR
  have HX := hide KX
  have HA := hide KA
  have HB := hide KB
  have HC := hide KC
  obtain ⟨s_0, s_1, s_2, s_3, s_4, s_5, s_6⟩ := KS
  obtain ⟨r_0, r_1, r_2, r_3, r_4, r_5, r_6⟩ := KR
  obtain ⟨x_0, x_1, x_2, x_3, x_4, x_5, x_6, x_7, x_8, x_9⟩ := KX
  obtain ⟨a_0, a_1, a_2, a_3, a_4⟩ := KA
  obtain ⟨b_0, b_1, b_2, b_3, b_4⟩ := KB
  obtain ⟨c_0, c_1, c_2, c_3, c_4⟩ := KC
  go_wp2_with fail
  refine (sLeC (Sm.mk sf st sk sp sx sy sz) (Sm.mk sf st sk sp sx sy sz) true hss.out _).mono ?_
  rintro e w12 ⟨rfl, hb⟩
  clear s_0 s_1 s_2 s_3 s_4 s_5 s_6 r_0 r_1 r_2 r_3 r_4 r_5 r_6 x_0 x_1 x_2 x_3 x_4 x_5 x_6 x_7 x_8 x_9 a_0 a_1 a_2 a_3 a_4 b_0 b_1 b_2 b_3 b_4 c_0 c_1 c_2 c_3 c_4
  have KS : SBox w12 w.heap.size (Sm.mk sf st sk sp sx sy sz) := HS.out.later hb
  have KR : SBox w12 (w.heap.size + 1) (Sm.mk sf st rk rp rx ry rz) := HR.out.later hb
  have KX : Box2 w12 (w.heap.size + 1 + 1) ((x, y)) := HX.out.later hb
  have KA : Box w12 w4.heap.size (A) := HA.out.later hb
  have KB : Box w12 w5.heap.size (B) := HB.out.later hb
  have KC : Box w12 w6.heap.size (C) := HC.out.later hb
  have G : Hid (Grow w w12) := hide (Grow.trans' G.out hb)
  clear hb HS HR HX HA HB HC
  clear KS KR KA KB KC KX
  go_wp2
  go_ret
  exact ⟨rfl, G.out⟩
set_option maxHeartbeats 1000000 in
set_option maxRecDepth 100000 in
theorem SummaryLess_lb4 (sf st sk sp sx sy sz rk rp rx ry rz : Int) (x y : Tm) (A B C : Tm) (E F L : Int) (p m : Bool) (w : World) (h1 : Hid (mayS (Sm.mk sf st sk sp sx sy sz) = true)) (h2 : Hid (mayS (Sm.mk sf st rk rp rx ry rz) = true)) (hA : Hid (applyT (Sm.mk sf st sk sp sx sy sz) x = A)) (hE : Hid (applyE (Sm.mk sf st sk sp sx sy sz) x = 0)) (hB : Hid (applyT (Sm.mk sf st rk rp rx ry rz) x = B)) (hF : Hid (applyE (Sm.mk sf st rk rp rx ry rz) x = 0)) (hC : Hid (applyT (Sm.mk sf st sk sp sx sy sz) y = C)) (hL : Hid (applyE (Sm.mk sf st sk sp sx sy sz) y = L)) (hp : Hid (leB A B = true)) (hu : Hid (leB x y = true)) (hm : Hid (leB A C = m)) (hl : Hid (leS (Sm.mk sf st sk sp sx sy sz) (Sm.mk sf st rk rp rx ry rz) = true)) (k1 : ¬ L = 0) (hss : Hid (leS (Sm.mk sf st sk sp sx sy sz) (Sm.mk sf st sk sp sx sy sz) = true)) :
    Calls Try.prog 7 #[.agg #[.int .i64 (Sm.mk sf st sk sp sx sy sz).f, .int .i64 (Sm.mk sf st sk sp sx sy sz).t, .int .i64 (Sm.mk sf st sk sp sx sy sz).k, .int .i64 (Sm.mk sf st sk sp sx sy sz).ep, .int .i64 (Sm.mk sf st sk sp sx sy sz).x, .int .i64 (Sm.mk sf st sk sp sx sy sz).y, .int .i64 (Sm.mk sf st sk sp sx sy sz).z], .agg #[.int .i64 (Sm.mk sf st rk rp rx ry rz).f, .int .i64 (Sm.mk sf st rk rp rx ry rz).t, .int .i64 (Sm.mk sf st rk rp rx ry rz).k, .int .i64 (Sm.mk sf st rk rp rx ry rz).ep, .int .i64 (Sm.mk sf st rk rp rx ry rz).x, .int .i64 (Sm.mk sf st rk rp rx ry rz).y, .int .i64 (Sm.mk sf st rk rp rx ry rz).z], .agg #[.int .i64 x.e, .int .i64 x.d, .int .i64 x.x, .int .i64 x.y, .int .i64 x.z, .int .i64 y.e, .int .i64 y.d, .int .i64 y.x, .int .i64 y.y, .int .i64 y.z]] w fun e w' => e = .returned (.bool true) ∧ Below w.heap.size w w' := by
  go_enter Try.func7, Try.ntmps7
  have KS : SBox (((w.alloc (.cells #[.int .i64 (Sm.mk sf st sk sp sx sy sz).f, .int .i64 (Sm.mk sf st sk sp sx sy sz).t, .int .i64 (Sm.mk sf st sk sp sx sy sz).k, .int .i64 (Sm.mk sf st sk sp sx sy sz).ep, .int .i64 (Sm.mk sf st sk sp sx sy sz).x, .int .i64 (Sm.mk sf st sk sp sx sy sz).y, .int .i64 (Sm.mk sf st sk sp sx sy sz).z] 24)).alloc (.cells #[.int .i64 (Sm.mk sf st rk rp rx ry rz).f, .int .i64 (Sm.mk sf st rk rp rx ry rz).t, .int .i64 (Sm.mk sf st rk rp rx ry rz).k, .int .i64 (Sm.mk sf st rk rp rx ry rz).ep, .int .i64 (Sm.mk sf st rk rp rx ry rz).x, .int .i64 (Sm.mk sf st rk rp rx ry rz).y, .int .i64 (Sm.mk sf st rk rp rx ry rz).z] 24)).alloc (.cells #[.int .i64 x.e, .int .i64 x.d, .int .i64 x.x, .int .i64 x.y, .int .i64 x.z, .int .i64 y.e, .int .i64 y.d, .int .i64 y.x, .int .i64 y.y, .int .i64 y.z] 39)) w.heap.size (Sm.mk sf st sk sp sx sy sz) := by simp [SBox, go_sem]
  have KR : SBox (((w.alloc (.cells #[.int .i64 (Sm.mk sf st sk sp sx sy sz).f, .int .i64 (Sm.mk sf st sk sp sx sy sz).t, .int .i64 (Sm.mk sf st sk sp sx sy sz).k, .int .i64 (Sm.mk sf st sk sp sx sy sz).ep, .int .i64 (Sm.mk sf st sk sp sx sy sz).x, .int .i64 (Sm.mk sf st sk sp sx sy sz).y, .int .i64 (Sm.mk sf st sk sp sx sy sz).z] 24)).alloc (.cells #[.int .i64 (Sm.mk sf st rk rp rx ry rz).f, .int .i64 (Sm.mk sf st rk rp rx ry rz).t, .int .i64 (Sm.mk sf st rk rp rx ry rz).k, .int .i64 (Sm.mk sf st rk rp rx ry rz).ep, .int .i64 (Sm.mk sf st rk rp rx ry rz).x, .int .i64 (Sm.mk sf st rk rp rx ry rz).y, .int .i64 (Sm.mk sf st rk rp rx ry rz).z] 24)).alloc (.cells #[.int .i64 x.e, .int .i64 x.d, .int .i64 x.x, .int .i64 x.y, .int .i64 x.z, .int .i64 y.e, .int .i64 y.d, .int .i64 y.x, .int .i64 y.y, .int .i64 y.z] 39)) (w.heap.size + 1) (Sm.mk sf st rk rp rx ry rz) := by simp [SBox, go_sem]
  have KX : Box2 (((w.alloc (.cells #[.int .i64 (Sm.mk sf st sk sp sx sy sz).f, .int .i64 (Sm.mk sf st sk sp sx sy sz).t, .int .i64 (Sm.mk sf st sk sp sx sy sz).k, .int .i64 (Sm.mk sf st sk sp sx sy sz).ep, .int .i64 (Sm.mk sf st sk sp sx sy sz).x, .int .i64 (Sm.mk sf st sk sp sx sy sz).y, .int .i64 (Sm.mk sf st sk sp sx sy sz).z] 24)).alloc (.cells #[.int .i64 (Sm.mk sf st rk rp rx ry rz).f, .int .i64 (Sm.mk sf st rk rp rx ry rz).t, .int .i64 (Sm.mk sf st rk rp rx ry rz).k, .int .i64 (Sm.mk sf st rk rp rx ry rz).ep, .int .i64 (Sm.mk sf st rk rp rx ry rz).x, .int .i64 (Sm.mk sf st rk rp rx ry rz).y, .int .i64 (Sm.mk sf st rk rp rx ry rz).z] 24)).alloc (.cells #[.int .i64 x.e, .int .i64 x.d, .int .i64 x.x, .int .i64 x.y, .int .i64 x.z, .int .i64 y.e, .int .i64 y.d, .int .i64 y.x, .int .i64 y.y, .int .i64 y.z] 39)) (w.heap.size + 1 + 1) (x, y) := by simp [Box2, go_sem]
  have G : Hid (Grow w (((w.alloc (.cells #[.int .i64 (Sm.mk sf st sk sp sx sy sz).f, .int .i64 (Sm.mk sf st sk sp sx sy sz).t, .int .i64 (Sm.mk sf st sk sp sx sy sz).k, .int .i64 (Sm.mk sf st sk sp sx sy sz).ep, .int .i64 (Sm.mk sf st sk sp sx sy sz).x, .int .i64 (Sm.mk sf st sk sp sx sy sz).y, .int .i64 (Sm.mk sf st sk sp sx sy sz).z] 24)).alloc (.cells #[.int .i64 (Sm.mk sf st rk rp rx ry rz).f, .int .i64 (Sm.mk sf st rk rp rx ry rz).t, .int .i64 (Sm.mk sf st rk rp rx ry rz).k, .int .i64 (Sm.mk sf st rk rp rx ry rz).ep, .int .i64 (Sm.mk sf st rk rp rx ry rz).x, .int .i64 (Sm.mk sf st rk rp rx ry rz).y, .int .i64 (Sm.mk sf st rk rp rx ry rz).z] 24)).alloc (.cells #[.int .i64 x.e, .int .i64 x.d, .int .i64 x.x, .int .i64 x.y, .int .i64 x.z, .int .i64 y.e, .int .i64 y.d, .int .i64 y.x, .int .i64 y.y, .int .i64 y.z] 39))) := hide (Grow.trans' (Grow.trans' (Grow.alloc' _ _) (Grow.alloc' _ _)) (Grow.alloc' _ _))
  have HS := hide KS
  have HR := hide KR
  have HX := hide KX
  obtain ⟨s_0, s_1, s_2, s_3, s_4, s_5, s_6⟩ := KS
  obtain ⟨r_0, r_1, r_2, r_3, r_4, r_5, r_6⟩ := KR
  obtain ⟨x_0, x_1, x_2, x_3, x_4, x_5, x_6, x_7, x_8, x_9⟩ := KX
  go_wp2_with fail
  refine (shown_any _).mono ?_
  rintro e w1 ⟨rfl, hb⟩
  clear s_0 s_1 s_2 s_3 s_4 s_5 s_6 r_0 r_1 r_2 r_3 r_4 r_5 r_6 x_0 x_1 x_2 x_3 x_4 x_5 x_6 x_7 x_8 x_9
  have KS : SBox w1 w.heap.size (Sm.mk sf st sk sp sx sy sz) := HS.out.later hb
  have KR : SBox w1 (w.heap.size + 1) (Sm.mk sf st rk rp rx ry rz) := HR.out.later hb
  have KX : Box2 w1 (w.heap.size + 1 + 1) ((x, y)) := HX.out.later hb
  have G : Hid (Grow w w1) := hide (Grow.trans' G.out hb)
  clear hb HS HR HX
  have HS := hide KS
  have HR := hide KR
  have HX := hide KX
  obtain ⟨s_0, s_1, s_2, s_3, s_4, s_5, s_6⟩ := KS
  obtain ⟨r_0, r_1, r_2, r_3, r_4, r_5, r_6⟩ := KR
  obtain ⟨x_0, x_1, x_2, x_3, x_4, x_5, x_6, x_7, x_8, x_9⟩ := KX
  go_wp2_with fail
  refine (sMayC (Sm.mk sf st sk sp sx sy sz) true h1.out _).mono ?_
  rintro e w2 ⟨rfl, hb⟩
  clear s_0 s_1 s_2 s_3 s_4 s_5 s_6 r_0 r_1 r_2 r_3 r_4 r_5 r_6 x_0 x_1 x_2 x_3 x_4 x_5 x_6 x_7 x_8 x_9
  have KS : SBox w2 w.heap.size (Sm.mk sf st sk sp sx sy sz) := HS.out.later hb
  have KR : SBox w2 (w.heap.size + 1) (Sm.mk sf st rk rp rx ry rz) := HR.out.later hb
  have KX : Box2 w2 (w.heap.size + 1 + 1) ((x, y)) := HX.out.later hb
  have G : Hid (Grow w w2) := hide (Grow.trans' G.out hb)
  clear hb HS HR HX
  have HS := hide KS
  have HR := hide KR
  have HX := hide KX
  obtain ⟨s_0, s_1, s_2, s_3, s_4, s_5, s_6⟩ := KS
  obtain ⟨r_0, r_1, r_2, r_3, r_4, r_5, r_6⟩ := KR
  obtain ⟨x_0, x_1, x_2, x_3, x_4, x_5, x_6, x_7, x_8, x_9⟩ := KX
  go_wp2_with fail
  refine (sMayC (Sm.mk sf st rk rp rx ry rz) true h2.out _).mono ?_
  rintro e w3 ⟨rfl, hb⟩
  clear s_0 s_1 s_2 s_3 s_4 s_5 s_6 r_0 r_1 r_2 r_3 r_4 r_5 r_6 x_0 x_1 x_2 x_3 x_4 x_5 x_6 x_7 x_8 x_9
  have KS : SBox w3 w.heap.size (Sm.mk sf st sk sp sx sy sz) := HS.out.later hb
  have KR : SBox w3 (w.heap.size + 1) (Sm.mk sf st rk rp rx ry rz) := HR.out.later hb
  have KX : Box2 w3 (w.heap.size + 1 + 1) ((x, y)) := HX.out.later hb
  have G : Hid (Grow w w3) := hide (Grow.trans' G.out hb)
  clear hb HS HR HX
  have HS := hide KS
  have HR := hide KR
  have HX := hide KX
  obtain ⟨s_0, s_1, s_2, s_3, s_4, s_5, s_6⟩ := KS
  obtain ⟨r_0, r_1, r_2, r_3, r_4, r_5, r_6⟩ := KR
  obtain ⟨x_0, x_1, x_2, x_3, x_4, x_5, x_6, x_7, x_8, x_9⟩ := KX
  go_wp2_with fail
  refine (apply_at (Sm.mk sf st sk sp sx sy sz) x A 0 hA.out hE.out _).mono ?_
  rintro e w4 ⟨rfl, hb⟩
  clear s_0 s_1 s_2 s_3 s_4 s_5 s_6 r_0 r_1 r_2 r_3 r_4 r_5 r_6 x_0 x_1 x_2 x_3 x_4 x_5 x_6 x_7 x_8 x_9
  have KS : SBox (w4.alloc (.cells #[.int .i64 (A).e, .int .i64 (A).d, .int .i64 (A).x, .int .i64 (A).y, .int .i64 (A).z] 30)) w.heap.size (Sm.mk sf st sk sp sx sy sz) := (HS.out.later hb).later (Grow.alloc' _ _)
  have KR : SBox (w4.alloc (.cells #[.int .i64 (A).e, .int .i64 (A).d, .int .i64 (A).x, .int .i64 (A).y, .int .i64 (A).z] 30)) (w.heap.size + 1) (Sm.mk sf st rk rp rx ry rz) := (HR.out.later hb).later (Grow.alloc' _ _)
  have KX : Box2 (w4.alloc (.cells #[.int .i64 (A).e, .int .i64 (A).d, .int .i64 (A).x, .int .i64 (A).y, .int .i64 (A).z] 30)) (w.heap.size + 1 + 1) ((x, y)) := (HX.out.later hb).later (Grow.alloc' _ _)
  have KA : Box (w4.alloc (.cells #[.int .i64 (A).e, .int .i64 (A).d, .int .i64 (A).x, .int .i64 (A).y, .int .i64 (A).z] 30)) w4.heap.size (A) := Box.new _ _
  have G : Hid (Grow w (w4.alloc (.cells #[.int .i64 (A).e, .int .i64 (A).d, .int .i64 (A).x, .int .i64 (A).y, .int .i64 (A).z] 30))) := hide (Grow.trans' (Grow.trans' G.out hb) (Grow.alloc' _ _))
  clear hb HS HR HX
  have HS := hide KS
  have HR := hide KR
  have HX := hide KX
  have HA := hide KA
  obtain ⟨s_0, s_1, s_2, s_3, s_4, s_5, s_6⟩ := KS
  obtain ⟨r_0, r_1, r_2, r_3, r_4, r_5, r_6⟩ := KR
  obtain ⟨x_0, x_1, x_2, x_3, x_4, x_5, x_6, x_7, x_8, x_9⟩ := KX
  obtain ⟨a_0, a_1, a_2, a_3, a_4⟩ := KA
  go_wp2_with fail
  refine (apply_at (Sm.mk sf st rk rp rx ry rz) x B 0 hB.out hF.out _).mono ?_
  rintro e w5 ⟨rfl, hb⟩
  clear s_0 s_1 s_2 s_3 s_4 s_5 s_6 r_0 r_1 r_2 r_3 r_4 r_5 r_6 x_0 x_1 x_2 x_3 x_4 x_5 x_6 x_7 x_8 x_9 a_0 a_1 a_2 a_3 a_4
  have KS : SBox (w5.alloc (.cells #[.int .i64 (B).e, .int .i64 (B).d, .int .i64 (B).x, .int .i64 (B).y, .int .i64 (B).z] 30)) w.heap.size (Sm.mk sf st sk sp sx sy sz) := (HS.out.later hb).later (Grow.alloc' _ _)
  have KR : SBox (w5.alloc (.cells #[.int .i64 (B).e, .int .i64 (B).d, .int .i64 (B).x, .int .i64 (B).y, .int .i64 (B).z] 30)) (w.heap.size + 1) (Sm.mk sf st rk rp rx ry rz) := (HR.out.later hb).later (Grow.alloc' _ _)
  have KX : Box2 (w5.alloc (.cells #[.int .i64 (B).e, .int .i64 (B).d, .int .i64 (B).x, .int .i64 (B).y, .int .i64 (B).z] 30)) (w.heap.size + 1 + 1) ((x, y)) := (HX.out.later hb).later (Grow.alloc' _ _)
  have KA : Box (w5.alloc (.cells #[.int .i64 (B).e, .int .i64 (B).d, .int .i64 (B).x, .int .i64 (B).y, .int .i64 (B).z] 30)) w4.heap.size (A) := (HA.out.later hb).later (Grow.alloc' _ _)
  have KB : Box (w5.alloc (.cells #[.int .i64 (B).e, .int .i64 (B).d, .int .i64 (B).x, .int .i64 (B).y, .int .i64 (B).z] 30)) w5.heap.size (B) := Box.new _ _
  have G : Hid (Grow w (w5.alloc (.cells #[.int .i64 (B).e, .int .i64 (B).d, .int .i64 (B).x, .int .i64 (B).y, .int .i64 (B).z] 30))) := hide (Grow.trans' (Grow.trans' G.out hb) (Grow.alloc' _ _))
  clear hb HS HR HX HA
  have HS := hide KS
  have HR := hide KR
  have HX := hide KX
  have HA := hide KA
  have HB := hide KB
  obtain ⟨s_0, s_1, s_2, s_3, s_4, s_5, s_6⟩ := KS
  obtain ⟨r_0, r_1, r_2, r_3, r_4, r_5, r_6⟩ := KR
  obtain ⟨x_0, x_1, x_2, x_3, x_4, x_5, x_6, x_7, x_8, x_9⟩ := KX
  obtain ⟨a_0, a_1, a_2, a_3, a_4⟩ := KA
  obtain ⟨b_0, b_1, b_2, b_3, b_4⟩ := KB
  go_wp2_with fail
  refine (apply_at (Sm.mk sf st sk sp sx sy sz) y C L hC.out hL.out _).mono ?_
  rintro e w6 ⟨rfl, hb⟩
  clear s_0 s_1 s_2 s_3 s_4 s_5 s_6 r_0 r_1 r_2 r_3 r_4 r_5 r_6 x_0 x_1 x_2 x_3 x_4 x_5 x_6 x_7 x_8 x_9 a_0 a_1 a_2 a_3 a_4 b_0 b_1 b_2 b_3 b_4
  have KS : SBox (w6.alloc (.cells #[.int .i64 (C).e, .int .i64 (C).d, .int .i64 (C).x, .int .i64 (C).y, .int .i64 (C).z] 30)) w.heap.size (Sm.mk sf st sk sp sx sy sz) := (HS.out.later hb).later (Grow.alloc' _ _)
  have KR : SBox (w6.alloc (.cells #[.int .i64 (C).e, .int .i64 (C).d, .int .i64 (C).x, .int .i64 (C).y, .int .i64 (C).z] 30)) (w.heap.size + 1) (Sm.mk sf st rk rp rx ry rz) := (HR.out.later hb).later (Grow.alloc' _ _)
  have KX : Box2 (w6.alloc (.cells #[.int .i64 (C).e, .int .i64 (C).d, .int .i64 (C).x, .int .i64 (C).y, .int .i64 (C).z] 30)) (w.heap.size + 1 + 1) ((x, y)) := (HX.out.later hb).later (Grow.alloc' _ _)
  have KA : Box (w6.alloc (.cells #[.int .i64 (C).e, .int .i64 (C).d, .int .i64 (C).x, .int .i64 (C).y, .int .i64 (C).z] 30)) w4.heap.size (A) := (HA.out.later hb).later (Grow.alloc' _ _)
  have KB : Box (w6.alloc (.cells #[.int .i64 (C).e, .int .i64 (C).d, .int .i64 (C).x, .int .i64 (C).y, .int .i64 (C).z] 30)) w5.heap.size (B) := (HB.out.later hb).later (Grow.alloc' _ _)
  have KC : Box (w6.alloc (.cells #[.int .i64 (C).e, .int .i64 (C).d, .int .i64 (C).x, .int .i64 (C).y, .int .i64 (C).z] 30)) w6.heap.size (C) := Box.new _ _
  have G : Hid (Grow w (w6.alloc (.cells #[.int .i64 (C).e, .int .i64 (C).d, .int .i64 (C).x, .int .i64 (C).y, .int .i64 (C).z] 30))) := hide (Grow.trans' (Grow.trans' G.out hb) (Grow.alloc' _ _))
  clear hb HS HR HX HA HB
  have HS := hide KS
  have HR := hide KR
  have HX := hide KX
  have HA := hide KA
  have HB := hide KB
  have HC := hide KC
  obtain ⟨s_0, s_1, s_2, s_3, s_4, s_5, s_6⟩ := KS
  obtain ⟨r_0, r_1, r_2, r_3, r_4, r_5, r_6⟩ := KR
  obtain ⟨x_0, x_1, x_2, x_3, x_4, x_5, x_6, x_7, x_8, x_9⟩ := KX
  obtain ⟨a_0, a_1, a_2, a_3, a_4⟩ := KA
  obtain ⟨b_0, b_1, b_2, b_3, b_4⟩ := KB
  obtain ⟨c_0, c_1, c_2, c_3, c_4⟩ := KC
  go_wp2_with fail
  refine (refLeC A B true hp.out _).mono ?_
  rintro e w7 ⟨rfl, hb⟩
  clear s_0 s_1 s_2 s_3 s_4 s_5 s_6 r_0 r_1 r_2 r_3 r_4 r_5 r_6 x_0 x_1 x_2 x_3 x_4 x_5 x_6 x_7 x_8 x_9 a_0 a_1 a_2 a_3 a_4 b_0 b_1 b_2 b_3 b_4 c_0 c_1 c_2 c_3 c_4
  have KS : SBox w7 w.heap.size (Sm.mk sf st sk sp sx sy sz) := HS.out.later hb
  have KR : SBox w7 (w.heap.size + 1) (Sm.mk sf st rk rp rx ry rz) := HR.out.later hb
  have KX : Box2 w7 (w.heap.size + 1 + 1) ((x, y)) := HX.out.later hb
  have KA : Box w7 w4.heap.size (A) := HA.out.later hb
  have KB : Box w7 w5.heap.size (B) := HB.out.later hb
  have KC : Box w7 w6.heap.size (C) := HC.out.later hb
  have G : Hid (Grow w w7) := hide (Grow.trans' G.out hb)
  clear hb HS HR HX HA HB HC
  have HS := hide KS
  have HR := hide KR
  have HX := hide KX
  have HA := hide KA
  have HB := hide KB
  have HC := hide KC
  obtain ⟨s_0, s_1, s_2, s_3, s_4, s_5, s_6⟩ := KS
  obtain ⟨r_0, r_1, r_2, r_3, r_4, r_5, r_6⟩ := KR
  obtain ⟨x_0, x_1, x_2, x_3, x_4, x_5, x_6, x_7, x_8, x_9⟩ := KX
  obtain ⟨a_0, a_1, a_2, a_3, a_4⟩ := KA
  obtain ⟨b_0, b_1, b_2, b_3, b_4⟩ := KB
  obtain ⟨c_0, c_1, c_2, c_3, c_4⟩ := KC
  go_wp2_with fail
  refine (refLeC x y true hu.out _).mono ?_
  rintro e w8 ⟨rfl, hb⟩
  clear s_0 s_1 s_2 s_3 s_4 s_5 s_6 r_0 r_1 r_2 r_3 r_4 r_5 r_6 x_0 x_1 x_2 x_3 x_4 x_5 x_6 x_7 x_8 x_9 a_0 a_1 a_2 a_3 a_4 b_0 b_1 b_2 b_3 b_4 c_0 c_1 c_2 c_3 c_4
  have KS : SBox w8 w.heap.size (Sm.mk sf st sk sp sx sy sz) := HS.out.later hb
  have KR : SBox w8 (w.heap.size + 1) (Sm.mk sf st rk rp rx ry rz) := HR.out.later hb
  have KX : Box2 w8 (w.heap.size + 1 + 1) ((x, y)) := HX.out.later hb
  have KA : Box w8 w4.heap.size (A) := HA.out.later hb
  have KB : Box w8 w5.heap.size (B) := HB.out.later hb
  have KC : Box w8 w6.heap.size (C) := HC.out.later hb
  have G : Hid (Grow w w8) := hide (Grow.trans' G.out hb)
  clear hb HS HR HX HA HB HC
  have HS := hide KS
  have HR := hide KR
  have HX := hide KX
  have HA := hide KA
  have HB := hide KB
  have HC := hide KC
  obtain ⟨s_0, s_1, s_2, s_3, s_4, s_5, s_6⟩ := KS
  obtain ⟨r_0, r_1, r_2, r_3, r_4, r_5, r_6⟩ := KR
  obtain ⟨x_0, x_1, x_2, x_3, x_4, x_5, x_6, x_7, x_8, x_9⟩ := KX
  obtain ⟨a_0, a_1, a_2, a_3, a_4⟩ := KA
  obtain ⟨b_0, b_1, b_2, b_3, b_4⟩ := KB
  obtain ⟨c_0, c_1, c_2, c_3, c_4⟩ := KC
  go_wp2_with fail
  refine (refLeC A C m hm.out _).mono ?_
  rintro e w9 ⟨rfl, hb⟩
  clear s_0 s_1 s_2 s_3 s_4 s_5 s_6 r_0 r_1 r_2 r_3 r_4 r_5 r_6 x_0 x_1 x_2 x_3 x_4 x_5 x_6 x_7 x_8 x_9 a_0 a_1 a_2 a_3 a_4 b_0 b_1 b_2 b_3 b_4 c_0 c_1 c_2 c_3 c_4
  have KS : SBox w9 w.heap.size (Sm.mk sf st sk sp sx sy sz) := HS.out.later hb
  have KR : SBox w9 (w.heap.size + 1) (Sm.mk sf st rk rp rx ry rz) := HR.out.later hb
  have KX : Box2 w9 (w.heap.size + 1 + 1) ((x, y)) := HX.out.later hb
  have KA : Box w9 w4.heap.size (A) := HA.out.later hb
  have KB : Box w9 w5.heap.size (B) := HB.out.later hb
  have KC : Box w9 w6.heap.size (C) := HC.out.later hb
  have G : Hid (Grow w w9) := hide (Grow.trans' G.out hb)
  clear hb HS HR HX HA HB HC
  have HS := hide KS
  have HR := hide KR
  have HX := hide KX
  have HA := hide KA
  have HB := hide KB
  have HC := hide KC
  obtain ⟨s_0, s_1, s_2, s_3, s_4, s_5, s_6⟩ := KS
  obtain ⟨r_0, r_1, r_2, r_3, r_4, r_5, r_6⟩ := KR
  obtain ⟨x_0, x_1, x_2, x_3, x_4, x_5, x_6, x_7, x_8, x_9⟩ := KX
  obtain ⟨a_0, a_1, a_2, a_3, a_4⟩ := KA
  obtain ⟨b_0, b_1, b_2, b_3, b_4⟩ := KB
  obtain ⟨c_0, c_1, c_2, c_3, c_4⟩ := KC
  go_wp2_with fail
  refine (sLeC (Sm.mk sf st sk sp sx sy sz) (Sm.mk sf st rk rp rx ry rz) true hl.out _).mono ?_
  rintro e w10 ⟨rfl, hb⟩
  clear s_0 s_1 s_2 s_3 s_4 s_5 s_6 r_0 r_1 r_2 r_3 r_4 r_5 r_6 x_0 x_1 x_2 x_3 x_4 x_5 x_6 x_7 x_8 x_9 a_0 a_1 a_2 a_3 a_4 b_0 b_1 b_2 b_3 b_4 c_0 c_1 c_2 c_3 c_4
  have KS : SBox w10 w.heap.size (Sm.mk sf st sk sp sx sy sz) := HS.out.later hb
  have KR : SBox w10 (w.heap.size + 1) (Sm.mk sf st rk rp rx ry rz) := HR.out.later hb
  have KX : Box2 w10 (w.heap.size + 1 + 1) ((x, y)) := HX.out.later hb
  have KA : Box w10 w4.heap.size (A) := HA.out.later hb
  have KB : Box w10 w5.heap.size (B) := HB.out.later hb
  have KC : Box w10 w6.heap.size (C) := HC.out.later hb
  have G : Hid (Grow w w10) := hide (Grow.trans' G.out hb)
  clear hb HS HR HX HA HB HC
  have HS := hide KS
  have HR := hide KR
  have HX := hide KX
  have HA := hide KA
  have HB := hide KB
  have HC := hide KC
  obtain ⟨s_0, s_1, s_2, s_3, s_4, s_5, s_6⟩ := KS
  obtain ⟨r_0, r_1, r_2, r_3, r_4, r_5, r_6⟩ := KR
  obtain ⟨x_0, x_1, x_2, x_3, x_4, x_5, x_6, x_7, x_8, x_9⟩ := KX
  obtain ⟨a_0, a_1, a_2, a_3, a_4⟩ := KA
  obtain ⟨b_0, b_1, b_2, b_3, b_4⟩ := KB
  obtain ⟨c_0, c_1, c_2, c_3, c_4⟩ := KC
  go_wp2_with fail
  refine (sLeC (Sm.mk sf st sk sp sx sy sz) (Sm.mk sf st rk rp rx ry rz) true hl.out _).mono ?_
  rintro e w11 ⟨rfl, hb⟩
  clear s_0 s_1 s_2 s_3 s_4 s_5 s_6 r_0 r_1 r_2 r_3 r_4 r_5 r_6 x_0 x_1 x_2 x_3 x_4 x_5 x_6 x_7 x_8 x_9 a_0 a_1 a_2 a_3 a_4 b_0 b_1 b_2 b_3 b_4 c_0 c_1 c_2 c_3 c_4
  have KS : SBox w11 w.heap.size (Sm.mk sf st sk sp sx sy sz) := HS.out.later hb
  have KR : SBox w11 (w.heap.size + 1) (Sm.mk sf st rk rp rx ry rz) := HR.out.later hb
  have KX : Box2 w11 (w.heap.size + 1 + 1) ((x, y)) := HX.out.later hb
  have KA : Box w11 w4.heap.size (A) := HA.out.later hb
  have KB : Box w11 w5.heap.size (B) := HB.out.later hb
  have KC : Box w11 w6.heap.size (C) := HC.out.later hb
  have G : Hid (Grow w w11) := hide (Grow.trans' G.out hb)
  clear hb HS HR HX HA HB HC
  have HS := hide KS
  have HR := hide KR
  have HX := hide KX
  have HA := hide KA
  have HB := hide KB
  have HC := hide KC
  obtain ⟨s_0, s_1, s_2, s_3, s_4, s_5, s_6⟩ := KS
  obtain ⟨r_0, r_1, r_2, r_3, r_4, r_5, r_6⟩ := KR
  obtain ⟨x_0, x_1, x_2, x_3, x_4, x_5, x_6, x_7, x_8, x_9⟩ := KX
  obtain ⟨a_0, a_1, a_2, a_3, a_4⟩ := KA
  obtain ⟨b_0, b_1, b_2, b_3, b_4⟩ := KB
  obtain ⟨c_0, c_1, c_2, c_3, c_4⟩ := KC
  go_wp2_with fail
  refine (sLeC (Sm.mk sf st sk sp sx sy sz) (Sm.mk sf st sk sp sx sy sz) true hss.out _).mono ?_
  rintro e w12 ⟨rfl, hb⟩
  clear s_0 s_1 s_2 s_3 s_4 s_5 s_6 r_0 r_1 r_2 r_3 r_4 r_5 r_6 x_0 x_1 x_2 x_3 x_4 x_5 x_6 x_7 x_8 x_9 a_0 a_1 a_2 a_3 a_4 b_0 b_1 b_2 b_3 b_4 c_0 c_1 c_2 c_3 c_4
  have KS : SBox w12 w.heap.size (Sm.mk sf st sk sp sx sy sz) := HS.out.later hb
  have KR : SBox w12 (w.heap.size + 1) (Sm.mk sf st rk rp rx ry rz) := HR.out.later hb
  have KX : Box2 w12 (w.heap.size + 1 + 1) ((x, y)) := HX.out.later hb
  have KA : Box w12 w4.heap.size (A) := HA.out.later hb
  have KB : Box w12 w5.heap.size (B) := HB.out.later hb
  have KC : Box w12 w6.heap.size (C) := HC.out.later hb
  have G : Hid (Grow w w12) := hide (Grow.trans' G.out hb)
  clear hb HS HR HX HA HB HC
  clear KS KR KA KB KC KX
  go_wp2
  go_ret
  exact ⟨rfl, G.out⟩
set_option maxHeartbeats 1000000 in
set_option maxRecDepth 100000 in
theorem SummaryLess_lb5 (sf st sk sp sx sy sz rk rp rx ry rz : Int) (x y : Tm) (A B C : Tm) (E F L : Int) (p m : Bool) (w : World) (h1 : Hid (mayS (Sm.mk sf st sk sp sx sy sz) = true)) (h2 : Hid (mayS (Sm.mk sf st rk rp rx ry rz) = true)) (hA : Hid (applyT (Sm.mk sf st sk sp sx sy sz) x = A)) (hE : Hid (applyE (Sm.mk sf st sk sp sx sy sz) x = 0)) (hB : Hid (applyT (Sm.mk sf st rk rp rx ry rz) x = B)) (hF : Hid (applyE (Sm.mk sf st rk rp rx ry rz) x = 0)) (hC : Hid (applyT (Sm.mk sf st sk sp sx sy sz) y = C)) (hL : Hid (applyE (Sm.mk sf st sk sp sx sy sz) y = 0)) (hp : Hid (leB A B = true)) (hu : Hid (leB x y = true)) (hm : Hid (leB A C = true)) (hl : Hid (leS (Sm.mk sf st sk sp sx sy sz) (Sm.mk sf st rk rp rx ry rz) = true)) (hss : Hid (leS (Sm.mk sf st sk sp sx sy sz) (Sm.mk sf st sk sp sx sy sz) = true)) :
    Calls Try.prog 7 #[.agg #[.int .i64 (Sm.mk sf st sk sp sx sy sz).f, .int .i64 (Sm.mk sf st sk sp sx sy sz).t, .int .i64 (Sm.mk sf st sk sp sx sy sz).k, .int .i64 (Sm.mk sf st sk sp sx sy sz).ep, .int .i64 (Sm.mk sf st sk sp sx sy sz).x, .int .i64 (Sm.mk sf st sk sp sx sy sz).y, .int .i64 (Sm.mk sf st sk sp sx sy sz).z], .agg #[.int .i64 (Sm.mk sf st rk rp rx ry rz).f, .int .i64 (Sm.mk sf st rk rp rx ry rz).t, .int .i64 (Sm.mk sf st rk rp rx ry rz).k, .int .i64 (Sm.mk sf st rk rp rx ry rz).ep, .int .i64 (Sm.mk sf st rk rp rx ry rz).x, .int .i64 (Sm.mk sf st rk rp rx ry rz).y, .int .i64 (Sm.mk sf st rk rp rx ry rz).z], .agg #[.int .i64 x.e, .int .i64 x.d, .int .i64 x.x, .int .i64 x.y, .int .i64 x.z, .int .i64 y.e, .int .i64 y.d, .int .i64 y.x, .int .i64 y.y, .int .i64 y.z]] w fun e w' => e = .returned (.bool true) ∧ Below w.heap.size w w' := by
  go_enter Try.func7, Try.ntmps7
  have KS : SBox (((w.alloc (.cells #[.int .i64 (Sm.mk sf st sk sp sx sy sz).f, .int .i64 (Sm.mk sf st sk sp sx sy sz).t, .int .i64 (Sm.mk sf st sk sp sx sy sz).k, .int .i64 (Sm.mk sf st sk sp sx sy sz).ep, .int .i64 (Sm.mk sf st sk sp sx sy sz).x, .int .i64 (Sm.mk sf st sk sp sx sy sz).y, .int .i64 (Sm.mk sf st sk sp sx sy sz).z] 24)).alloc (.cells #[.int .i64 (Sm.mk sf st rk rp rx ry rz).f, .int .i64 (Sm.mk sf st rk rp rx ry rz).t, .int .i64 (Sm.mk sf st rk rp rx ry rz).k, .int .i64 (Sm.mk sf st rk rp rx ry rz).ep, .int .i64 (Sm.mk sf st rk rp rx ry rz).x, .int .i64 (Sm.mk sf st rk rp rx ry rz).y, .int .i64 (Sm.mk sf st rk rp rx ry rz).z] 24)).alloc (.cells #[.int .i64 x.e, .int .i64 x.d, .int .i64 x.x, .int .i64 x.y, .int .i64 x.z, .int .i64 y.e, .int .i64 y.d, .int .i64 y.x, .int .i64 y.y, .int .i64 y.z] 39)) w.heap.size (Sm.mk sf st sk sp sx sy sz) := by simp [SBox, go_sem]
  have KR : SBox (((w.alloc (.cells #[.int .i64 (Sm.mk sf st sk sp sx sy sz).f, .int .i64 (Sm.mk sf st sk sp sx sy sz).t, .int .i64 (Sm.mk sf st sk sp sx sy sz).k, .int .i64 (Sm.mk sf st sk sp sx sy sz).ep, .int .i64 (Sm.mk sf st sk sp sx sy sz).x, .int .i64 (Sm.mk sf st sk sp sx sy sz).y, .int .i64 (Sm.mk sf st sk sp sx sy sz).z] 24)).alloc (.cells #[.int .i64 (Sm.mk sf st rk rp rx ry rz).f, .int .i64 (Sm.mk sf st rk rp rx ry rz).t, .int .i64 (Sm.mk sf st rk rp rx ry rz).k, .int .i64 (Sm.mk sf st rk rp rx ry rz).ep, .int .i64 (Sm.mk sf st rk rp rx ry rz).x, .int .i64 (Sm.mk sf st rk rp rx ry rz).y, .int .i64 (Sm.mk sf st rk rp rx ry rz).z] 24)).alloc (.cells #[.int .i64 x.e, .int .i64 x.d, .int .i64 x.x, .int .i64 x.y, .int .i64 x.z, .int .i64 y.e, .int .i64 y.d, .int .i64 y.x, .int .i64 y.y, .int .i64 y.z] 39)) (w.heap.size + 1) (Sm.mk sf st rk rp rx ry rz) := by simp [SBox, go_sem]
  have KX : Box2 (((w.alloc (.cells #[.int .i64 (Sm.mk sf st sk sp sx sy sz).f, .int .i64 (Sm.mk sf st sk sp sx sy sz).t, .int .i64 (Sm.mk sf st sk sp sx sy sz).k, .int .i64 (Sm.mk sf st sk sp sx sy sz).ep, .int .i64 (Sm.mk sf st sk sp sx sy sz).x, .int .i64 (Sm.mk sf st sk sp sx sy sz).y, .int .i64 (Sm.mk sf st sk sp sx sy sz).z] 24)).alloc (.cells #[.int .i64 (Sm.mk sf st rk rp rx ry rz).f, .int .i64 (Sm.mk sf st rk rp rx ry rz).t, .int .i64 (Sm.mk sf st rk rp rx ry rz).k, .int .i64 (Sm.mk sf st rk rp rx ry rz).ep, .int .i64 (Sm.mk sf st rk rp rx ry rz).x, .int .i64 (Sm.mk sf st rk rp rx ry rz).y, .int .i64 (Sm.mk sf st rk rp rx ry rz).z] 24)).alloc (.cells #[.int .i64 x.e, .int .i64 x.d, .int .i64 x.x, .int .i64 x.y, .int .i64 x.z, .int .i64 y.e, .int .i64 y.d, .int .i64 y.x, .int .i64 y.y, .int .i64 y.z] 39)) (w.heap.size + 1 + 1) (x, y) := by simp [Box2, go_sem]
  have G : Hid (Grow w (((w.alloc (.cells #[.int .i64 (Sm.mk sf st sk sp sx sy sz).f, .int .i64 (Sm.mk sf st sk sp sx sy sz).t, .int .i64 (Sm.mk sf st sk sp sx sy sz).k, .int .i64 (Sm.mk sf st sk sp sx sy sz).ep, .int .i64 (Sm.mk sf st sk sp sx sy sz).x, .int .i64 (Sm.mk sf st sk sp sx sy sz).y, .int .i64 (Sm.mk sf st sk sp sx sy sz).z] 24)).alloc (.cells #[.int .i64 (Sm.mk sf st rk rp rx ry rz).f, .int .i64 (Sm.mk sf st rk rp rx ry rz).t, .int .i64 (Sm.mk sf st rk rp rx ry rz).k, .int .i64 (Sm.mk sf st rk rp rx ry rz).ep, .int .i64 (Sm.mk sf st rk rp rx ry rz).x, .int .i64 (Sm.mk sf st rk rp rx ry rz).y, .int .i64 (Sm.mk sf st rk rp rx ry rz).z] 24)).alloc (.cells #[.int .i64 x.e, .int .i64 x.d, .int .i64 x.x, .int .i64 x.y, .int .i64 x.z, .int .i64 y.e, .int .i64 y.d, .int .i64 y.x, .int .i64 y.y, .int .i64 y.z] 39))) := hide (Grow.trans' (Grow.trans' (Grow.alloc' _ _) (Grow.alloc' _ _)) (Grow.alloc' _ _))
  have HS := hide KS
  have HR := hide KR
  have HX := hide KX
  obtain ⟨s_0, s_1, s_2, s_3, s_4, s_5, s_6⟩ := KS
  obtain ⟨r_0, r_1, r_2, r_3, r_4, r_5, r_6⟩ := KR
  obtain ⟨x_0, x_1, x_2, x_3, x_4, x_5, x_6, x_7, x_8, x_9⟩ := KX
  go_wp2_with fail
  refine (shown_any _).mono ?_
  rintro e w1 ⟨rfl, hb⟩
  clear s_0 s_1 s_2 s_3 s_4 s_5 s_6 r_0 r_1 r_2 r_3 r_4 r_5 r_6 x_0 x_1 x_2 x_3 x_4 x_5 x_6 x_7 x_8 x_9
  have KS : SBox w1 w.heap.size (Sm.mk sf st sk sp sx sy sz) := HS.out.later hb
  have KR : SBox w1 (w.heap.size + 1) (Sm.mk sf st rk rp rx ry rz) := HR.out.later hb
  have KX : Box2 w1 (w.heap.size + 1 + 1) ((x, y)) := HX.out.later hb
  have G : Hid (Grow w w1) := hide (Grow.trans' G.out hb)
  clear hb HS HR HX
  have HS := hide KS
  have HR := hide KR
  have HX := hide KX
  obtain ⟨s_0, s_1, s_2, s_3, s_4, s_5, s_6⟩ := KS
  obtain ⟨r_0, r_1, r_2, r_3, r_4, r_5, r_6⟩ := KR
  obtain ⟨x_0, x_1, x_2, x_3, x_4, x_5, x_6, x_7, x_8, x_9⟩ := KX
  go_wp2_with fail
  refine (sMayC (Sm.mk sf st sk sp sx sy sz) true h1.out _).mono ?_
  rintro e w2 ⟨rfl, hb⟩
  clear s_0 s_1 s_2 s_3 s_4 s_5 s_6 r_0 r_1 r_2 r_3 r_4 r_5 r_6 x_0 x_1 x_2 x_3 x_4 x_5 x_6 x_7 x_8 x_9
  have KS : SBox w2 w.heap.size (Sm.mk sf st sk sp sx sy sz) := HS.out.later hb
  have KR : SBox w2 (w.heap.size + 1) (Sm.mk sf st rk rp rx ry rz) := HR.out.later hb
  have KX : Box2 w2 (w.heap.size + 1 + 1) ((x, y)) := HX.out.later hb
  have G : Hid (Grow w w2) := hide (Grow.trans' G.out hb)
  clear hb HS HR HX
  have HS := hide KS
  have HR := hide KR
  have HX := hide KX
  obtain ⟨s_0, s_1, s_2, s_3, s_4, s_5, s_6⟩ := KS
  obtain ⟨r_0, r_1, r_2, r_3, r_4, r_5, r_6⟩ := KR
  obtain ⟨x_0, x_1, x_2, x_3, x_4, x_5, x_6, x_7, x_8, x_9⟩ := KX
  go_wp2_with fail
  refine (sMayC (Sm.mk sf st rk rp rx ry rz) true h2.out _).mono ?_
  rintro e w3 ⟨rfl, hb⟩
  clear s_0 s_1 s_2 s_3 s_4 s_5 s_6 r_0 r_1 r_2 r_3 r_4 r_5 r_6 x_0 x_1 x_2 x_3 x_4 x_5 x_6 x_7 x_8 x_9
  have KS : SBox w3 w.heap.size (Sm.mk sf st sk sp sx sy sz) := HS.out.later hb
  have KR : SBox w3 (w.heap.size + 1) (Sm.mk sf st rk rp rx ry rz) := HR.out.later hb
  have KX : Box2 w3 (w.heap.size + 1 + 1) ((x, y)) := HX.out.later hb
  have G : Hid (Grow w w3) := hide (Grow.trans' G.out hb)
  clear hb HS HR HX
  have HS := hide KS
  have HR := hide KR
  have HX := hide KX
  obtain ⟨s_0, s_1, s_2, s_3, s_4, s_5, s_6⟩ := KS
  obtain ⟨r_0, r_1, r_2, r_3, r_4, r_5, r_6⟩ := KR
  obtain ⟨x_0, x_1, x_2, x_3, x_4, x_5, x_6, x_7, x_8, x_9⟩ := KX
  go_wp2_with fail
  refine (apply_at (Sm.mk sf st sk sp sx sy sz) x A 0 hA.out hE.out _).mono ?_
  rintro e w4 ⟨rfl, hb⟩
  clear s_0 s_1 s_2 s_3 s_4 s_5 s_6 r_0 r_1 r_2 r_3 r_4 r_5 r_6 x_0 x_1 x_2 x_3 x_4 x_5 x_6 x_7 x_8 x_9
  have KS : SBox (w4.alloc (.cells #[.int .i64 (A).e, .int .i64 (A).d, .int .i64 (A).x, .int .i64 (A).y, .int .i64 (A).z] 30)) w.heap.size (Sm.mk sf st sk sp sx sy sz) := (HS.out.later hb).later (Grow.alloc' _ _)
  have KR : SBox (w4.alloc (.cells #[.int .i64 (A).e, .int .i64 (A).d, .int .i64 (A).x, .int .i64 (A).y, .int .i64 (A).z] 30)) (w.heap.size + 1) (Sm.mk sf st rk rp rx ry rz) := (HR.out.later hb).later (Grow.alloc' _ _)
  have KX : Box2 (w4.alloc (.cells #[.int .i64 (A).e, .int .i64 (A).d, .int .i64 (A).x, .int .i64 (A).y, .int .i64 (A).z] 30)) (w.heap.size + 1 + 1) ((x, y)) := (HX.out.later hb).later (Grow.alloc' _ _)
  have KA : Box (w4.alloc (.cells #[.int .i64 (A).e, .int .i64 (A).d, .int .i64 (A).x, .int .i64 (A).y, .int .i64 (A).z] 30)) w4.heap.size (A) := Box.new _ _
  have G : Hid (Grow w (w4.alloc (.cells #[.int .i64 (A).e, .int .i64 (A).d, .int .i64 (A).x, .int .i64 (A).y, .int .i64 (A).z] 30))) := hide (Grow.trans' (Grow.trans' G.out hb) (Grow.alloc' _ _))
  clear hb HS HR HX
  have HS := hide KS
  have HR := hide KR
  have HX := hide KX
  have HA := hide KA
  obtain ⟨s_0, s_1, s_2, s_3, s_4, s_5, s_6⟩ := KS
  obtain ⟨r_0, r_1, r_2, r_3, r_4, r_5, r_6⟩ := KR
  obtain ⟨x_0, x_1, x_2, x_3, x_4, x_5, x_6, x_7, x_8, x_9⟩ := KX
  obtain ⟨a_0, a_1, a_2, a_3, a_4⟩ := KA
  go_wp2_with fail
  refine (apply_at (Sm.mk sf st rk rp rx ry rz) x B 0 hB.out hF.out _).mono ?_
  rintro e w5 ⟨rfl, hb⟩
  clear s_0 s_1 s_2 s_3 s_4 s_5 s_6 r_0 r_1 r_2 r_3 r_4 r_5 r_6 x_0 x_1 x_2 x_3 x_4 x_5 x_6 x_7 x_8 x_9 a_0 a_1 a_2 a_3 a_4
  have KS : SBox (w5.alloc (.cells #[.int .i64 (B).e, .int .i64 (B).d, .int .i64 (B).x, .int .i64 (B).y, .int .i64 (B).z] 30)) w.heap.size (Sm.mk sf st sk sp sx sy sz) := (HS.out.later hb).later (Grow.alloc' _ _)
  have KR : SBox (w5.alloc (.cells #[.int .i64 (B).e, .int .i64 (B).d, .int .i64 (B).x, .int .i64 (B).y, .int .i64 (B).z] 30)) (w.heap.size + 1) (Sm.mk sf st rk rp rx ry rz) := (HR.out.later hb).later (Grow.alloc' _ _)
  have KX : Box2 (w5.alloc (.cells #[.int .i64 (B).e, .int .i64 (B).d, .int .i64 (B).x, .int .i64 (B).y, .int .i64 (B).z] 30)) (w.heap.size + 1 + 1) ((x, y)) := (HX.out.later hb).later (Grow.alloc' _ _)
  have KA : Box (w5.alloc (.cells #[.int .i64 (B).e, .int .i64 (B).d, .int .i64 (B).x, .int .i64 (B).y, .int .i64 (B).z] 30)) w4.heap.size (A) := (HA.out.later hb).later (Grow.alloc' _ _)
  have KB : Box (w5.alloc (.cells #[.int .i64 (B).e, .int .i64 (B).d, .int .i64 (B).x, .int .i64 (B).y, .int .i64 (B).z] 30)) w5.heap.size (B) := Box.new _ _
  have G : Hid (Grow w (w5.alloc (.cells #[.int .i64 (B).e, .int .i64 (B).d, .int .i64 (B).x, .int .i64 (B).y, .int .i64 (B).z] 30))) := hide (Grow.trans' (Grow.trans' G.out hb) (Grow.alloc' _ _))
  clear hb HS HR HX HA
  have HS := hide KS
  have HR := hide KR
  have HX := hide KX
  have HA := hide KA
  have HB := hide KB
  obtain ⟨s_0, s_1, s_2, s_3, s_4, s_5, s_6⟩ := KS
  obtain ⟨r_0, r_1, r_2, r_3, r_4, r_5, r_6⟩ := KR
  obtain ⟨x_0, x_1, x_2, x_3, x_4, x_5, x_6, x_7, x_8, x_9⟩ := KX
  obtain ⟨a_0, a_1, a_2, a_3, a_4⟩ := KA
  obtain ⟨b_0, b_1, b_2, b_3, b_4⟩ := KB
  go_wp2_with fail
  refine (apply_at (Sm.mk sf st sk sp sx sy sz) y C 0 hC.out hL.out _).mono ?_
  rintro e w6 ⟨rfl, hb⟩
  clear s_0 s_1 s_2 s_3 s_4 s_5 s_6 r_0 r_1 r_2 r_3 r_4 r_5 r_6 x_0 x_1 x_2 x_3 x_4 x_5 x_6 x_7 x_8 x_9 a_0 a_1 a_2 a_3 a_4 b_0 b_1 b_2 b_3 b_4
  have KS : SBox (w6.alloc (.cells #[.int .i64 (C).e, .int .i64 (C).d, .int .i64 (C).x, .int .i64 (C).y, .int .i64 (C).z] 30)) w.heap.size (Sm.mk sf st sk sp sx sy sz) := (HS.out.later hb).later (Grow.alloc' _ _)
  have KR : SBox (w6.alloc (.cells #[.int .i64 (C).e, .int .i64 (C).d, .int .i64 (C).x, .int .i64 (C).y, .int .i64 (C).z] 30)) (w.heap.size + 1) (Sm.mk sf st rk rp rx ry rz) := (HR.out.later hb).later (Grow.alloc' _ _)
  have KX : Box2 (w6.alloc (.cells #[.int .i64 (C).e, .int .i64 (C).d, .int .i64 (C).x, .int .i64 (C).y, .int .i64 (C).z] 30)) (w.heap.size + 1 + 1) ((x, y)) := (HX.out.later hb).later (Grow.alloc' _ _)
  have KA : Box (w6.alloc (.cells #[.int .i64 (C).e, .int .i64 (C).d, .int .i64 (C).x, .int .i64 (C).y, .int .i64 (C).z] 30)) w4.heap.size (A) := (HA.out.later hb).later (Grow.alloc' _ _)
  have KB : Box (w6.alloc (.cells #[.int .i64 (C).e, .int .i64 (C).d, .int .i64 (C).x, .int .i64 (C).y, .int .i64 (C).z] 30)) w5.heap.size (B) := (HB.out.later hb).later (Grow.alloc' _ _)
  have KC : Box (w6.alloc (.cells #[.int .i64 (C).e, .int .i64 (C).d, .int .i64 (C).x, .int .i64 (C).y, .int .i64 (C).z] 30)) w6.heap.size (C) := Box.new _ _
  have G : Hid (Grow w (w6.alloc (.cells #[.int .i64 (C).e, .int .i64 (C).d, .int .i64 (C).x, .int .i64 (C).y, .int .i64 (C).z] 30))) := hide (Grow.trans' (Grow.trans' G.out hb) (Grow.alloc' _ _))
  clear hb HS HR HX HA HB
  have HS := hide KS
  have HR := hide KR
  have HX := hide KX
  have HA := hide KA
  have HB := hide KB
  have HC := hide KC
  obtain ⟨s_0, s_1, s_2, s_3, s_4, s_5, s_6⟩ := KS
  obtain ⟨r_0, r_1, r_2, r_3, r_4, r_5, r_6⟩ := KR
  obtain ⟨x_0, x_1, x_2, x_3, x_4, x_5, x_6, x_7, x_8, x_9⟩ := KX
  obtain ⟨a_0, a_1, a_2, a_3, a_4⟩ := KA
  obtain ⟨b_0, b_1, b_2, b_3, b_4⟩ := KB
  obtain ⟨c_0, c_1, c_2, c_3, c_4⟩ := KC
  go_wp2_with fail
  refine (refLeC A B true hp.out _).mono ?_
  rintro e w7 ⟨rfl, hb⟩
  clear s_0 s_1 s_2 s_3 s_4 s_5 s_6 r_0 r_1 r_2 r_3 r_4 r_5 r_6 x_0 x_1 x_2 x_3 x_4 x_5 x_6 x_7 x_8 x_9 a_0 a_1 a_2 a_3 a_4 b_0 b_1 b_2 b_3 b_4 c_0 c_1 c_2 c_3 c_4
  have KS : SBox w7 w.heap.size (Sm.mk sf st sk sp sx sy sz) := HS.out.later hb
  have KR : SBox w7 (w.heap.size + 1) (Sm.mk sf st rk rp rx ry rz) := HR.out.later hb
  have KX : Box2 w7 (w.heap.size + 1 + 1) ((x, y)) := HX.out.later hb
  have KA : Box w7 w4.heap.size (A) := HA.out.later hb
  have KB : Box w7 w5.heap.size (B) := HB.out.later hb
  have KC : Box w7 w6.heap.size (C) := HC.out.later hb
  have G : Hid (Grow w w7) := hide (Grow.trans' G.out hb)
  clear hb HS HR HX HA HB HC
  have HS := hide KS
  have HR := hide KR
  have HX := hide KX
  have HA := hide KA
  have HB := hide KB
  have HC := hide KC
  obtain ⟨s_0, s_1, s_2, s_3, s_4, s_5, s_6⟩ := KS
  obtain ⟨r_0, r_1, r_2, r_3, r_4, r_5, r_6⟩ := KR
  obtain ⟨x_0, x_1, x_2, x_3, x_4, x_5, x_6, x_7, x_8, x_9⟩ := KX
  obtain ⟨a_0, a_1, a_2, a_3, a_4⟩ := KA
  obtain ⟨b_0, b_1, b_2, b_3, b_4⟩ := KB
  obtain ⟨c_0, c_1, c_2, c_3, c_4⟩ := KC
  go_wp2_with fail
  refine (refLeC x y true hu.out _).mono ?_
  rintro e w8 ⟨rfl, hb⟩
  clear s_0 s_1 s_2 s_3 s_4 s_5 s_6 r_0 r_1 r_2 r_3 r_4 r_5 r_6 x_0 x_1 x_2 x_3 x_4 x_5 x_6 x_7 x_8 x_9 a_0 a_1 a_2 a_3 a_4 b_0 b_1 b_2 b_3 b_4 c_0 c_1 c_2 c_3 c_4
  have KS : SBox w8 w.heap.size (Sm.mk sf st sk sp sx sy sz) := HS.out.later hb
  have KR : SBox w8 (w.heap.size + 1) (Sm.mk sf st rk rp rx ry rz) := HR.out.later hb
  have KX : Box2 w8 (w.heap.size + 1 + 1) ((x, y)) := HX.out.later hb
  have KA : Box w8 w4.heap.size (A) := HA.out.later hb
  have KB : Box w8 w5.heap.size (B) := HB.out.later hb
  have KC : Box w8 w6.heap.size (C) := HC.out.later hb
  have G : Hid (Grow w w8) := hide (Grow.trans' G.out hb)
  clear hb HS HR HX HA HB HC
  have HS := hide KS
  have HR := hide KR
  have HX := hide KX
  have HA := hide KA
  have HB := hide KB
  have HC := hide KC
  obtain ⟨s_0, s_1, s_2, s_3, s_4, s_5, s_6⟩ := KS
  obtain ⟨r_0, r_1, r_2, r_3, r_4, r_5, r_6⟩ := KR
  obtain ⟨x_0, x_1, x_2, x_3, x_4, x_5, x_6, x_7, x_8, x_9⟩ := KX
  obtain ⟨a_0, a_1, a_2, a_3, a_4⟩ := KA
  obtain ⟨b_0, b_1, b_2, b_3, b_4⟩ := KB
  obtain ⟨c_0, c_1, c_2, c_3, c_4⟩ := KC
  go_wp2_with fail
  refine (refLeC A C true hm.out _).mono ?_
  rintro e w9 ⟨rfl, hb⟩
  clear s_0 s_1 s_2 s_3 s_4 s_5 s_6 r_0 r_1 r_2 r_3 r_4 r_5 r_6 x_0 x_1 x_2 x_3 x_4 x_5 x_6 x_7 x_8 x_9 a_0 a_1 a_2 a_3 a_4 b_0 b_1 b_2 b_3 b_4 c_0 c_1 c_2 c_3 c_4
  have KS : SBox w9 w.heap.size (Sm.mk sf st sk sp sx sy sz) := HS.out.later hb
  have KR : SBox w9 (w.heap.size + 1) (Sm.mk sf st rk rp rx ry rz) := HR.out.later hb
  have KX : Box2 w9 (w.heap.size + 1 + 1) ((x, y)) := HX.out.later hb
  have KA : Box w9 w4.heap.size (A) := HA.out.later hb
  have KB : Box w9 w5.heap.size (B) := HB.out.later hb
  have KC : Box w9 w6.heap.size (C) := HC.out.later hb
  have G : Hid (Grow w w9) := hide (Grow.trans' G.out hb)
  clear hb HS HR HX HA HB HC
  have HS := hide KS
  have HR := hide KR
  have HX := hide KX
  have HA := hide KA
  have HB := hide KB
  have HC := hide KC
  obtain ⟨s_0, s_1, s_2, s_3, s_4, s_5, s_6⟩ := KS
  obtain ⟨r_0, r_1, r_2, r_3, r_4, r_5, r_6⟩ := KR
  obtain ⟨x_0, x_1, x_2, x_3, x_4, x_5, x_6, x_7, x_8, x_9⟩ := KX
  obtain ⟨a_0, a_1, a_2, a_3, a_4⟩ := KA
  obtain ⟨b_0, b_1, b_2, b_3, b_4⟩ := KB
  obtain ⟨c_0, c_1, c_2, c_3, c_4⟩ := KC
  go_wp2_with fail
  refine (sLeC (Sm.mk sf st sk sp sx sy sz) (Sm.mk sf st rk rp rx ry rz) true hl.out _).mono ?_
  rintro e w10 ⟨rfl, hb⟩
  clear s_0 s_1 s_2 s_3 s_4 s_5 s_6 r_0 r_1 r_2 r_3 r_4 r_5 r_6 x_0 x_1 x_2 x_3 x_4 x_5 x_6 x_7 x_8 x_9 a_0 a_1 a_2 a_3 a_4 b_0 b_1 b_2 b_3 b_4 c_0 c_1 c_2 c_3 c_4
  have KS : SBox w10 w.heap.size (Sm.mk sf st sk sp sx sy sz) := HS.out.later hb
  have KR : SBox w10 (w.heap.size + 1) (Sm.mk sf st rk rp rx ry rz) := HR.out.later hb
  have KX : Box2 w10 (w.heap.size + 1 + 1) ((x, y)) := HX.out.later hb
  have KA : Box w10 w4.heap.size (A) := HA.out.later hb
  have KB : Box w10 w5.heap.size (B) := HB.out.later hb
  have KC : Box w10 w6.heap.size (C) := HC.out.later hb
  have G : Hid (Grow w w10) := hide (Grow.trans' G.out hb)
  clear hb HS HR HX HA HB HC
  have HS := hide KS
  have HR := hide KR
  have HX := hide KX
  have HA := hide KA
  have HB := hide KB
  have HC := hide KC
  obtain ⟨s_0, s_1, s_2, s_3, s_4, s_5, s_6⟩ := KS
  obtain ⟨r_0, r_1, r_2, r_3, r_4, r_5, r_6⟩ := KR
  obtain ⟨x_0, x_1, x_2, x_3, x_4, x_5, x_6, x_7, x_8, x_9⟩ := KX
  obtain ⟨a_0, a_1, a_2, a_3, a_4⟩ := KA
  obtain ⟨b_0, b_1, b_2, b_3, b_4⟩ := KB
  obtain ⟨c_0, c_1, c_2, c_3, c_4⟩ := KC
  go_wp2_with fail
  refine (sLeC (Sm.mk sf st sk sp sx sy sz) (Sm.mk sf st rk rp rx ry rz) true hl.out _).mono ?_
  rintro e w11 ⟨rfl, hb⟩
  clear s_0 s_1 s_2 s_3 s_4 s_5 s_6 r_0 r_1 r_2 r_3 r_4 r_5 r_6 x_0 x_1 x_2 x_3 x_4 x_5 x_6 x_7 x_8 x_9 a_0 a_1 a_2 a_3 a_4 b_0 b_1 b_2 b_3 b_4 c_0 c_1 c_2 c_3 c_4
  have KS : SBox w11 w.heap.size (Sm.mk sf st sk sp sx sy sz) := HS.out.later hb
  have KR : SBox w11 (w.heap.size + 1) (Sm.mk sf st rk rp rx ry rz) := HR.out.later hb
  have KX : Box2 w11 (w.heap.size + 1 + 1) ((x, y)) := HX.out.later hb
  have KA : Box w11 w4.heap.size (A) := HA.out.later hb
  have KB : Box w11 w5.heap.size (B) := HB.out.later hb
  have KC : Box w11 w6.heap.size (C) := HC.out.later hb
  have G : Hid (Grow w w11) := hide (Grow.trans' G.out hb)
  clear hb HS HR HX HA HB HC
  have HS := hide KS
  have HR := hide KR
  have HX := hide KX
  have HA := hide KA
  have HB := hide KB
  have HC := hide KC
  obtain ⟨s_0, s_1, s_2, s_3, s_4, s_5, s_6⟩ := KS
  obtain ⟨r_0, r_1, r_2, r_3, r_4, r_5, r_6⟩ := KR
  obtain ⟨x_0, x_1, x_2, x_3, x_4, x_5, x_6, x_7, x_8, x_9⟩ := KX
  obtain ⟨a_0, a_1, a_2, a_3, a_4⟩ := KA
  obtain ⟨b_0, b_1, b_2, b_3, b_4⟩ := KB
  obtain ⟨c_0, c_1, c_2, c_3, c_4⟩ := KC
  go_wp2_with fail
  refine (sLeC (Sm.mk sf st sk sp sx sy sz) (Sm.mk sf st sk sp sx sy sz) true hss.out _).mono ?_
  rintro e w12 ⟨rfl, hb⟩
  clear s_0 s_1 s_2 s_3 s_4 s_5 s_6 r_0 r_1 r_2 r_3 r_4 r_5 r_6 x_0 x_1 x_2 x_3 x_4 x_5 x_6 x_7 x_8 x_9 a_0 a_1 a_2 a_3 a_4 b_0 b_1 b_2 b_3 b_4 c_0 c_1 c_2 c_3 c_4
  have KS : SBox w12 w.heap.size (Sm.mk sf st sk sp sx sy sz) := HS.out.later hb
  have KR : SBox w12 (w.heap.size + 1) (Sm.mk sf st rk rp rx ry rz) := HR.out.later hb
  have KX : Box2 w12 (w.heap.size + 1 + 1) ((x, y)) := HX.out.later hb
  have KA : Box w12 w4.heap.size (A) := HA.out.later hb
  have KB : Box w12 w5.heap.size (B) := HB.out.later hb
  have KC : Box w12 w6.heap.size (C) := HC.out.later hb
  have G : Hid (Grow w w12) := hide (Grow.trans' G.out hb)
  clear hb HS HR HX HA HB HC
  clear KS KR KA KB KC KX
  go_wp2
  go_ret
  exact ⟨rfl, G.out⟩

end Go.Proofs.Ythidpjjphieedaa
