/-
  The law SummaryLess, where the first summary is not less, from depth 3.
-/
import Derived.Test.YthidpjjphieedaaLLessH
namespace Go.Proofs.Ythidpjjphieedaa
open Go.RowKit Go.Sort
set_option linter.unusedVariables false

set_option maxHeartbeats 4000000 in
set_option maxRecDepth 100000 in
theorem SummaryLess_3_1 (st sk sp sx sy sz rk rp rx ry rz : Int) (x y : Tm) (A B C : Tm) (E F L : Int) (p m : Bool) (w : World) (h1 : Hid (mayS (Sm.mk 3 st sk sp sx sy sz) = true)) (h2 : Hid (mayS (Sm.mk 3 st rk rp rx ry rz) = true)) (hA : Hid (applyT (Sm.mk 3 st sk sp sx sy sz) x = A)) (hE : Hid (applyE (Sm.mk 3 st sk sp sx sy sz) x = E)) (hB : Hid (applyT (Sm.mk 3 st rk rp rx ry rz) x = B)) (hF : Hid (applyE (Sm.mk 3 st rk rp rx ry rz) x = F)) (hC : Hid (applyT (Sm.mk 3 st sk sp sx sy sz) y = C)) (hL : Hid (applyE (Sm.mk 3 st sk sp sx sy sz) y = L)) (hp : Hid (leB A B = p)) (hu : Hid (leB x y = false)) (hm : Hid (leB A C = m)) (hl : Hid (leS (Sm.mk 3 st sk sp sx sy sz) (Sm.mk 3 st rk rp rx ry rz) = false)) (P Q U V : Tm) (H K : Int) (one two : Bool) (hP : Hid (applyT (Sm.mk 3 st sk sp sx sy sz) (Tm.mk 0 3 500 500 500) = P)) (hH : Hid (applyE (Sm.mk 3 st sk sp sx sy sz) (Tm.mk 0 3 500 500 500) = H)) (hQ : Hid (applyT (Sm.mk 3 st rk rp rx ry rz) (Tm.mk 0 3 500 500 500) = Q)) (hK : Hid (applyE (Sm.mk 3 st rk rp rx ry rz) (Tm.mk 0 3 500 500 500) = K)) (hU : Hid (applyT (Sm.mk 3 st sk sp sx sy sz) (Tm.mk 0 3 0 0 0) = U)) (hUE : Hid (applyE (Sm.mk 3 st sk sp sx sy sz) (Tm.mk 0 3 0 0 0) = 0)) (hV : Hid (applyT (Sm.mk 3 st rk rp rx ry rz) (Tm.mk 0 3 0 0 0) = V)) (hVE : Hid (applyE (Sm.mk 3 st rk rp rx ry rz) (Tm.mk 0 3 0 0 0) = 0)) (h1o : Hid (leB P Q = one)) (h2o : Hid (leB U V = two)) (hhi : Hid (two = true → H = 0 → K = 0 → one = true → highS (Sm.mk 3 st rk rp rx ry rz) = true)) :
    Calls Try.prog 7 #[.agg #[.int .i64 (Sm.mk 3 st sk sp sx sy sz).f, .int .i64 (Sm.mk 3 st sk sp sx sy sz).t, .int .i64 (Sm.mk 3 st sk sp sx sy sz).k, .int .i64 (Sm.mk 3 st sk sp sx sy sz).ep, .int .i64 (Sm.mk 3 st sk sp sx sy sz).x, .int .i64 (Sm.mk 3 st sk sp sx sy sz).y, .int .i64 (Sm.mk 3 st sk sp sx sy sz).z], .agg #[.int .i64 (Sm.mk 3 st rk rp rx ry rz).f, .int .i64 (Sm.mk 3 st rk rp rx ry rz).t, .int .i64 (Sm.mk 3 st rk rp rx ry rz).k, .int .i64 (Sm.mk 3 st rk rp rx ry rz).ep, .int .i64 (Sm.mk 3 st rk rp rx ry rz).x, .int .i64 (Sm.mk 3 st rk rp rx ry rz).y, .int .i64 (Sm.mk 3 st rk rp rx ry rz).z], .agg #[.int .i64 x.e, .int .i64 x.d, .int .i64 x.x, .int .i64 x.y, .int .i64 x.z, .int .i64 y.e, .int .i64 y.d, .int .i64 y.x, .int .i64 y.y, .int .i64 y.z]] w fun e w' => e = .returned (.bool true) ∧ Below w.heap.size w w' := by
  go_enter Try.func7, Try.ntmps7
  have KS : SBox (((w.alloc (.cells #[.int .i64 (Sm.mk 3 st sk sp sx sy sz).f, .int .i64 (Sm.mk 3 st sk sp sx sy sz).t, .int .i64 (Sm.mk 3 st sk sp sx sy sz).k, .int .i64 (Sm.mk 3 st sk sp sx sy sz).ep, .int .i64 (Sm.mk 3 st sk sp sx sy sz).x, .int .i64 (Sm.mk 3 st sk sp sx sy sz).y, .int .i64 (Sm.mk 3 st sk sp sx sy sz).z] 24)).alloc (.cells #[.int .i64 (Sm.mk 3 st rk rp rx ry rz).f, .int .i64 (Sm.mk 3 st rk rp rx ry rz).t, .int .i64 (Sm.mk 3 st rk rp rx ry rz).k, .int .i64 (Sm.mk 3 st rk rp rx ry rz).ep, .int .i64 (Sm.mk 3 st rk rp rx ry rz).x, .int .i64 (Sm.mk 3 st rk rp rx ry rz).y, .int .i64 (Sm.mk 3 st rk rp rx ry rz).z] 24)).alloc (.cells #[.int .i64 x.e, .int .i64 x.d, .int .i64 x.x, .int .i64 x.y, .int .i64 x.z, .int .i64 y.e, .int .i64 y.d, .int .i64 y.x, .int .i64 y.y, .int .i64 y.z] 39)) w.heap.size (Sm.mk 3 st sk sp sx sy sz) := by simp [SBox, go_sem]
  have KR : SBox (((w.alloc (.cells #[.int .i64 (Sm.mk 3 st sk sp sx sy sz).f, .int .i64 (Sm.mk 3 st sk sp sx sy sz).t, .int .i64 (Sm.mk 3 st sk sp sx sy sz).k, .int .i64 (Sm.mk 3 st sk sp sx sy sz).ep, .int .i64 (Sm.mk 3 st sk sp sx sy sz).x, .int .i64 (Sm.mk 3 st sk sp sx sy sz).y, .int .i64 (Sm.mk 3 st sk sp sx sy sz).z] 24)).alloc (.cells #[.int .i64 (Sm.mk 3 st rk rp rx ry rz).f, .int .i64 (Sm.mk 3 st rk rp rx ry rz).t, .int .i64 (Sm.mk 3 st rk rp rx ry rz).k, .int .i64 (Sm.mk 3 st rk rp rx ry rz).ep, .int .i64 (Sm.mk 3 st rk rp rx ry rz).x, .int .i64 (Sm.mk 3 st rk rp rx ry rz).y, .int .i64 (Sm.mk 3 st rk rp rx ry rz).z] 24)).alloc (.cells #[.int .i64 x.e, .int .i64 x.d, .int .i64 x.x, .int .i64 x.y, .int .i64 x.z, .int .i64 y.e, .int .i64 y.d, .int .i64 y.x, .int .i64 y.y, .int .i64 y.z] 39)) (w.heap.size + 1) (Sm.mk 3 st rk rp rx ry rz) := by simp [SBox, go_sem]
  have KX : Box2 (((w.alloc (.cells #[.int .i64 (Sm.mk 3 st sk sp sx sy sz).f, .int .i64 (Sm.mk 3 st sk sp sx sy sz).t, .int .i64 (Sm.mk 3 st sk sp sx sy sz).k, .int .i64 (Sm.mk 3 st sk sp sx sy sz).ep, .int .i64 (Sm.mk 3 st sk sp sx sy sz).x, .int .i64 (Sm.mk 3 st sk sp sx sy sz).y, .int .i64 (Sm.mk 3 st sk sp sx sy sz).z] 24)).alloc (.cells #[.int .i64 (Sm.mk 3 st rk rp rx ry rz).f, .int .i64 (Sm.mk 3 st rk rp rx ry rz).t, .int .i64 (Sm.mk 3 st rk rp rx ry rz).k, .int .i64 (Sm.mk 3 st rk rp rx ry rz).ep, .int .i64 (Sm.mk 3 st rk rp rx ry rz).x, .int .i64 (Sm.mk 3 st rk rp rx ry rz).y, .int .i64 (Sm.mk 3 st rk rp rx ry rz).z] 24)).alloc (.cells #[.int .i64 x.e, .int .i64 x.d, .int .i64 x.x, .int .i64 x.y, .int .i64 x.z, .int .i64 y.e, .int .i64 y.d, .int .i64 y.x, .int .i64 y.y, .int .i64 y.z] 39)) (w.heap.size + 1 + 1) (x, y) := by simp [Box2, go_sem]
  have G : Hid (Grow w (((w.alloc (.cells #[.int .i64 (Sm.mk 3 st sk sp sx sy sz).f, .int .i64 (Sm.mk 3 st sk sp sx sy sz).t, .int .i64 (Sm.mk 3 st sk sp sx sy sz).k, .int .i64 (Sm.mk 3 st sk sp sx sy sz).ep, .int .i64 (Sm.mk 3 st sk sp sx sy sz).x, .int .i64 (Sm.mk 3 st sk sp sx sy sz).y, .int .i64 (Sm.mk 3 st sk sp sx sy sz).z] 24)).alloc (.cells #[.int .i64 (Sm.mk 3 st rk rp rx ry rz).f, .int .i64 (Sm.mk 3 st rk rp rx ry rz).t, .int .i64 (Sm.mk 3 st rk rp rx ry rz).k, .int .i64 (Sm.mk 3 st rk rp rx ry rz).ep, .int .i64 (Sm.mk 3 st rk rp rx ry rz).x, .int .i64 (Sm.mk 3 st rk rp rx ry rz).y, .int .i64 (Sm.mk 3 st rk rp rx ry rz).z] 24)).alloc (.cells #[.int .i64 x.e, .int .i64 x.d, .int .i64 x.x, .int .i64 x.y, .int .i64 x.z, .int .i64 y.e, .int .i64 y.d, .int .i64 y.x, .int .i64 y.y, .int .i64 y.z] 39))) := hide (Grow.trans' (Grow.trans' (Grow.alloc' _ _) (Grow.alloc' _ _)) (Grow.alloc' _ _))
  have HS := hide KS
  have HR := hide KR
  have HX := hide KX
  obtain ⟨s_0, s_1, s_2, s_3, s_4, s_5, s_6⟩ := KS
  obtain ⟨r_0, r_1, r_2, r_3, r_4, r_5, r_6⟩ := KR
  obtain ⟨x_0, x_1, x_2, x_3, x_4, x_5, x_6, x_7, x_8, x_9⟩ := KX
  go_wp2_with fail
  refine (shown_any _).mono ?_
  rintro e w1 ⟨rfl, hb⟩
  clear s_0 s_1 s_2 s_3 s_4 s_5 s_6 r_0 r_1 r_2 r_3 r_4 r_5 r_6 x_0 x_1 x_2 x_3 x_4 x_5 x_6 x_7 x_8 x_9
  have KS : SBox w1 w.heap.size (Sm.mk 3 st sk sp sx sy sz) := HS.out.later hb
  have KR : SBox w1 (w.heap.size + 1) (Sm.mk 3 st rk rp rx ry rz) := HR.out.later hb
  have KX : Box2 w1 (w.heap.size + 1 + 1) ((x, y)) := HX.out.later hb
  have G : Hid (Grow w w1) := hide (Grow.trans' G.out hb)
  clear hb HS HR HX
  have HS := hide KS
  have HR := hide KR
  have HX := hide KX
  obtain ⟨s_0, s_1, s_2, s_3, s_4, s_5, s_6⟩ := KS
  obtain ⟨r_0, r_1, r_2, r_3, r_4, r_5, r_6⟩ := KR
  obtain ⟨x_0, x_1, x_2, x_3, x_4, x_5, x_6, x_7, x_8, x_9⟩ := KX
  go_wp2_with fail
  refine (sMayC (Sm.mk 3 st sk sp sx sy sz) true h1.out _).mono ?_
  rintro e w2 ⟨rfl, hb⟩
  clear s_0 s_1 s_2 s_3 s_4 s_5 s_6 r_0 r_1 r_2 r_3 r_4 r_5 r_6 x_0 x_1 x_2 x_3 x_4 x_5 x_6 x_7 x_8 x_9
  have KS : SBox w2 w.heap.size (Sm.mk 3 st sk sp sx sy sz) := HS.out.later hb
  have KR : SBox w2 (w.heap.size + 1) (Sm.mk 3 st rk rp rx ry rz) := HR.out.later hb
  have KX : Box2 w2 (w.heap.size + 1 + 1) ((x, y)) := HX.out.later hb
  have G : Hid (Grow w w2) := hide (Grow.trans' G.out hb)
  clear hb HS HR HX
  have HS := hide KS
  have HR := hide KR
  have HX := hide KX
  obtain ⟨s_0, s_1, s_2, s_3, s_4, s_5, s_6⟩ := KS
  obtain ⟨r_0, r_1, r_2, r_3, r_4, r_5, r_6⟩ := KR
  obtain ⟨x_0, x_1, x_2, x_3, x_4, x_5, x_6, x_7, x_8, x_9⟩ := KX
  go_wp2_with fail
  refine (sMayC (Sm.mk 3 st rk rp rx ry rz) true h2.out _).mono ?_
  rintro e w3 ⟨rfl, hb⟩
  clear s_0 s_1 s_2 s_3 s_4 s_5 s_6 r_0 r_1 r_2 r_3 r_4 r_5 r_6 x_0 x_1 x_2 x_3 x_4 x_5 x_6 x_7 x_8 x_9
  have KS : SBox w3 w.heap.size (Sm.mk 3 st sk sp sx sy sz) := HS.out.later hb
  have KR : SBox w3 (w.heap.size + 1) (Sm.mk 3 st rk rp rx ry rz) := HR.out.later hb
  have KX : Box2 w3 (w.heap.size + 1 + 1) ((x, y)) := HX.out.later hb
  have G : Hid (Grow w w3) := hide (Grow.trans' G.out hb)
  clear hb HS HR HX
  have HS := hide KS
  have HR := hide KR
  have HX := hide KX
  obtain ⟨s_0, s_1, s_2, s_3, s_4, s_5, s_6⟩ := KS
  obtain ⟨r_0, r_1, r_2, r_3, r_4, r_5, r_6⟩ := KR
  obtain ⟨x_0, x_1, x_2, x_3, x_4, x_5, x_6, x_7, x_8, x_9⟩ := KX
  go_wp2_with fail
  refine (apply_at (Sm.mk 3 st sk sp sx sy sz) x A E hA.out hE.out _).mono ?_
  rintro e w4 ⟨rfl, hb⟩
  clear s_0 s_1 s_2 s_3 s_4 s_5 s_6 r_0 r_1 r_2 r_3 r_4 r_5 r_6 x_0 x_1 x_2 x_3 x_4 x_5 x_6 x_7 x_8 x_9
  have KS : SBox (w4.alloc (.cells #[.int .i64 (A).e, .int .i64 (A).d, .int .i64 (A).x, .int .i64 (A).y, .int .i64 (A).z] 30)) w.heap.size (Sm.mk 3 st sk sp sx sy sz) := (HS.out.later hb).later (Grow.alloc' _ _)
  have KR : SBox (w4.alloc (.cells #[.int .i64 (A).e, .int .i64 (A).d, .int .i64 (A).x, .int .i64 (A).y, .int .i64 (A).z] 30)) (w.heap.size + 1) (Sm.mk 3 st rk rp rx ry rz) := (HR.out.later hb).later (Grow.alloc' _ _)
  have KX : Box2 (w4.alloc (.cells #[.int .i64 (A).e, .int .i64 (A).d, .int .i64 (A).x, .int .i64 (A).y, .int .i64 (A).z] 30)) (w.heap.size + 1 + 1) ((x, y)) := (HX.out.later hb).later (Grow.alloc' _ _)
  have KA : Box (w4.alloc (.cells #[.int .i64 (A).e, .int .i64 (A).d, .int .i64 (A).x, .int .i64 (A).y, .int .i64 (A).z] 30)) w4.heap.size (A) := Box.new _ _
  have G : Hid (Grow w (w4.alloc (.cells #[.int .i64 (A).e, .int .i64 (A).d, .int .i64 (A).x, .int .i64 (A).y, .int .i64 (A).z] 30))) := hide (Grow.trans' (Grow.trans' G.out hb) (Grow.alloc' _ _))
  clear hb HS HR HX
  have HS := hide KS
  have HR := hide KR
  have HX := hide KX
  have HA := hide KA
  obtain ⟨s_0, s_1, s_2, s_3, s_4, s_5, s_6⟩ := KS
  obtain ⟨r_0, r_1, r_2, r_3, r_4, r_5, r_6⟩ := KR
  obtain ⟨x_0, x_1, x_2, x_3, x_4, x_5, x_6, x_7, x_8, x_9⟩ := KX
  obtain ⟨a_0, a_1, a_2, a_3, a_4⟩ := KA
  go_wp2_with fail
  refine (apply_at (Sm.mk 3 st rk rp rx ry rz) x B F hB.out hF.out _).mono ?_
  rintro e w5 ⟨rfl, hb⟩
  clear s_0 s_1 s_2 s_3 s_4 s_5 s_6 r_0 r_1 r_2 r_3 r_4 r_5 r_6 x_0 x_1 x_2 x_3 x_4 x_5 x_6 x_7 x_8 x_9 a_0 a_1 a_2 a_3 a_4
  have KS : SBox (w5.alloc (.cells #[.int .i64 (B).e, .int .i64 (B).d, .int .i64 (B).x, .int .i64 (B).y, .int .i64 (B).z] 30)) w.heap.size (Sm.mk 3 st sk sp sx sy sz) := (HS.out.later hb).later (Grow.alloc' _ _)
  have KR : SBox (w5.alloc (.cells #[.int .i64 (B).e, .int .i64 (B).d, .int .i64 (B).x, .int .i64 (B).y, .int .i64 (B).z] 30)) (w.heap.size + 1) (Sm.mk 3 st rk rp rx ry rz) := (HR.out.later hb).later (Grow.alloc' _ _)
  have KX : Box2 (w5.alloc (.cells #[.int .i64 (B).e, .int .i64 (B).d, .int .i64 (B).x, .int .i64 (B).y, .int .i64 (B).z] 30)) (w.heap.size + 1 + 1) ((x, y)) := (HX.out.later hb).later (Grow.alloc' _ _)
  have KA : Box (w5.alloc (.cells #[.int .i64 (B).e, .int .i64 (B).d, .int .i64 (B).x, .int .i64 (B).y, .int .i64 (B).z] 30)) w4.heap.size (A) := (HA.out.later hb).later (Grow.alloc' _ _)
  have KB : Box (w5.alloc (.cells #[.int .i64 (B).e, .int .i64 (B).d, .int .i64 (B).x, .int .i64 (B).y, .int .i64 (B).z] 30)) w5.heap.size (B) := Box.new _ _
  have G : Hid (Grow w (w5.alloc (.cells #[.int .i64 (B).e, .int .i64 (B).d, .int .i64 (B).x, .int .i64 (B).y, .int .i64 (B).z] 30))) := hide (Grow.trans' (Grow.trans' G.out hb) (Grow.alloc' _ _))
  clear hb HS HR HX HA
  have HS := hide KS
  have HR := hide KR
  have HX := hide KX
  have HA := hide KA
  have HB := hide KB
  obtain ⟨s_0, s_1, s_2, s_3, s_4, s_5, s_6⟩ := KS
  obtain ⟨r_0, r_1, r_2, r_3, r_4, r_5, r_6⟩ := KR
  obtain ⟨x_0, x_1, x_2, x_3, x_4, x_5, x_6, x_7, x_8, x_9⟩ := KX
  obtain ⟨a_0, a_1, a_2, a_3, a_4⟩ := KA
  obtain ⟨b_0, b_1, b_2, b_3, b_4⟩ := KB
  go_wp2_with fail
  refine (apply_at (Sm.mk 3 st sk sp sx sy sz) y C L hC.out hL.out _).mono ?_
  rintro e w6 ⟨rfl, hb⟩
  clear s_0 s_1 s_2 s_3 s_4 s_5 s_6 r_0 r_1 r_2 r_3 r_4 r_5 r_6 x_0 x_1 x_2 x_3 x_4 x_5 x_6 x_7 x_8 x_9 a_0 a_1 a_2 a_3 a_4 b_0 b_1 b_2 b_3 b_4
  have KS : SBox (w6.alloc (.cells #[.int .i64 (C).e, .int .i64 (C).d, .int .i64 (C).x, .int .i64 (C).y, .int .i64 (C).z] 30)) w.heap.size (Sm.mk 3 st sk sp sx sy sz) := (HS.out.later hb).later (Grow.alloc' _ _)
  have KR : SBox (w6.alloc (.cells #[.int .i64 (C).e, .int .i64 (C).d, .int .i64 (C).x, .int .i64 (C).y, .int .i64 (C).z] 30)) (w.heap.size + 1) (Sm.mk 3 st rk rp rx ry rz) := (HR.out.later hb).later (Grow.alloc' _ _)
  have KX : Box2 (w6.alloc (.cells #[.int .i64 (C).e, .int .i64 (C).d, .int .i64 (C).x, .int .i64 (C).y, .int .i64 (C).z] 30)) (w.heap.size + 1 + 1) ((x, y)) := (HX.out.later hb).later (Grow.alloc' _ _)
  have KA : Box (w6.alloc (.cells #[.int .i64 (C).e, .int .i64 (C).d, .int .i64 (C).x, .int .i64 (C).y, .int .i64 (C).z] 30)) w4.heap.size (A) := (HA.out.later hb).later (Grow.alloc' _ _)
  have KB : Box (w6.alloc (.cells #[.int .i64 (C).e, .int .i64 (C).d, .int .i64 (C).x, .int .i64 (C).y, .int .i64 (C).z] 30)) w5.heap.size (B) := (HB.out.later hb).later (Grow.alloc' _ _)
  have KC : Box (w6.alloc (.cells #[.int .i64 (C).e, .int .i64 (C).d, .int .i64 (C).x, .int .i64 (C).y, .int .i64 (C).z] 30)) w6.heap.size (C) := Box.new _ _
  have G : Hid (Grow w (w6.alloc (.cells #[.int .i64 (C).e, .int .i64 (C).d, .int .i64 (C).x, .int .i64 (C).y, .int .i64 (C).z] 30))) := hide (Grow.trans' (Grow.trans' G.out hb) (Grow.alloc' _ _))
  clear hb HS HR HX HA HB
  have HS := hide KS
  have HR := hide KR
  have HX := hide KX
  have HA := hide KA
  have HB := hide KB
  have HC := hide KC
  obtain ⟨s_0, s_1, s_2, s_3, s_4, s_5, s_6⟩ := KS
  obtain ⟨r_0, r_1, r_2, r_3, r_4, r_5, r_6⟩ := KR
  obtain ⟨x_0, x_1, x_2, x_3, x_4, x_5, x_6, x_7, x_8, x_9⟩ := KX
  obtain ⟨a_0, a_1, a_2, a_3, a_4⟩ := KA
  obtain ⟨b_0, b_1, b_2, b_3, b_4⟩ := KB
  obtain ⟨c_0, c_1, c_2, c_3, c_4⟩ := KC
  go_wp2_with fail
  refine (refLeC A B p hp.out _).mono ?_
  rintro e w7 ⟨rfl, hb⟩
  clear s_0 s_1 s_2 s_3 s_4 s_5 s_6 r_0 r_1 r_2 r_3 r_4 r_5 r_6 x_0 x_1 x_2 x_3 x_4 x_5 x_6 x_7 x_8 x_9 a_0 a_1 a_2 a_3 a_4 b_0 b_1 b_2 b_3 b_4 c_0 c_1 c_2 c_3 c_4
  have KS : SBox w7 w.heap.size (Sm.mk 3 st sk sp sx sy sz) := HS.out.later hb
  have KR : SBox w7 (w.heap.size + 1) (Sm.mk 3 st rk rp rx ry rz) := HR.out.later hb
  have KX : Box2 w7 (w.heap.size + 1 + 1) ((x, y)) := HX.out.later hb
  have KA : Box w7 w4.heap.size (A) := HA.out.later hb
  have KB : Box w7 w5.heap.size (B) := HB.out.later hb
  have KC : Box w7 w6.heap.size (C) := HC.out.later hb
  have G : Hid (Grow w w7) := hide (Grow.trans' G.out hb)
  clear hb HS HR HX HA HB HC
  have HS := hide KS
  have HR := hide KR
  have HX := hide KX
  have HA := hide KA
  have HB := hide KB
  have HC := hide KC
  obtain ⟨s_0, s_1, s_2, s_3, s_4, s_5, s_6⟩ := KS
  obtain ⟨r_0, r_1, r_2, r_3, r_4, r_5, r_6⟩ := KR
  obtain ⟨x_0, x_1, x_2, x_3, x_4, x_5, x_6, x_7, x_8, x_9⟩ := KX
  obtain ⟨a_0, a_1, a_2, a_3, a_4⟩ := KA
  obtain ⟨b_0, b_1, b_2, b_3, b_4⟩ := KB
  obtain ⟨c_0, c_1, c_2, c_3, c_4⟩ := KC
  go_wp2_with fail
  refine (refLeC x y false hu.out _).mono ?_
  rintro e w8 ⟨rfl, hb⟩
  clear s_0 s_1 s_2 s_3 s_4 s_5 s_6 r_0 r_1 r_2 r_3 r_4 r_5 r_6 x_0 x_1 x_2 x_3 x_4 x_5 x_6 x_7 x_8 x_9 a_0 a_1 a_2 a_3 a_4 b_0 b_1 b_2 b_3 b_4 c_0 c_1 c_2 c_3 c_4
  have KS : SBox w8 w.heap.size (Sm.mk 3 st sk sp sx sy sz) := HS.out.later hb
  have KR : SBox w8 (w.heap.size + 1) (Sm.mk 3 st rk rp rx ry rz) := HR.out.later hb
  have KX : Box2 w8 (w.heap.size + 1 + 1) ((x, y)) := HX.out.later hb
  have KA : Box w8 w4.heap.size (A) := HA.out.later hb
  have KB : Box w8 w5.heap.size (B) := HB.out.later hb
  have KC : Box w8 w6.heap.size (C) := HC.out.later hb
  have G : Hid (Grow w w8) := hide (Grow.trans' G.out hb)
  clear hb HS HR HX HA HB HC
  have HS := hide KS
  have HR := hide KR
  have HX := hide KX
  have HA := hide KA
  have HB := hide KB
  have HC := hide KC
  obtain ⟨s_0, s_1, s_2, s_3, s_4, s_5, s_6⟩ := KS
  obtain ⟨r_0, r_1, r_2, r_3, r_4, r_5, r_6⟩ := KR
  obtain ⟨x_0, x_1, x_2, x_3, x_4, x_5, x_6, x_7, x_8, x_9⟩ := KX
  obtain ⟨a_0, a_1, a_2, a_3, a_4⟩ := KA
  obtain ⟨b_0, b_1, b_2, b_3, b_4⟩ := KB
  obtain ⟨c_0, c_1, c_2, c_3, c_4⟩ := KC
  go_wp2_with fail
  refine (refLeC A C m hm.out _).mono ?_
  rintro e w9 ⟨rfl, hb⟩
  clear s_0 s_1 s_2 s_3 s_4 s_5 s_6 r_0 r_1 r_2 r_3 r_4 r_5 r_6 x_0 x_1 x_2 x_3 x_4 x_5 x_6 x_7 x_8 x_9 a_0 a_1 a_2 a_3 a_4 b_0 b_1 b_2 b_3 b_4 c_0 c_1 c_2 c_3 c_4
  have KS : SBox w9 w.heap.size (Sm.mk 3 st sk sp sx sy sz) := HS.out.later hb
  have KR : SBox w9 (w.heap.size + 1) (Sm.mk 3 st rk rp rx ry rz) := HR.out.later hb
  have KX : Box2 w9 (w.heap.size + 1 + 1) ((x, y)) := HX.out.later hb
  have KA : Box w9 w4.heap.size (A) := HA.out.later hb
  have KB : Box w9 w5.heap.size (B) := HB.out.later hb
  have KC : Box w9 w6.heap.size (C) := HC.out.later hb
  have G : Hid (Grow w w9) := hide (Grow.trans' G.out hb)
  clear hb HS HR HX HA HB HC
  have HS := hide KS
  have HR := hide KR
  have HX := hide KX
  have HA := hide KA
  have HB := hide KB
  have HC := hide KC
  obtain ⟨s_0, s_1, s_2, s_3, s_4, s_5, s_6⟩ := KS
  obtain ⟨r_0, r_1, r_2, r_3, r_4, r_5, r_6⟩ := KR
  obtain ⟨x_0, x_1, x_2, x_3, x_4, x_5, x_6, x_7, x_8, x_9⟩ := KX
  obtain ⟨a_0, a_1, a_2, a_3, a_4⟩ := KA
  obtain ⟨b_0, b_1, b_2, b_3, b_4⟩ := KB
  obtain ⟨c_0, c_1, c_2, c_3, c_4⟩ := KC
  go_wp2_with fail
  refine (sLeC (Sm.mk 3 st sk sp sx sy sz) (Sm.mk 3 st rk rp rx ry rz) false hl.out _).mono ?_
  rintro e w10 ⟨rfl, hb⟩
  clear s_0 s_1 s_2 s_3 s_4 s_5 s_6 r_0 r_1 r_2 r_3 r_4 r_5 r_6 x_0 x_1 x_2 x_3 x_4 x_5 x_6 x_7 x_8 x_9 a_0 a_1 a_2 a_3 a_4 b_0 b_1 b_2 b_3 b_4 c_0 c_1 c_2 c_3 c_4
  have KS : SBox w10 w.heap.size (Sm.mk 3 st sk sp sx sy sz) := HS.out.later hb
  have KR : SBox w10 (w.heap.size + 1) (Sm.mk 3 st rk rp rx ry rz) := HR.out.later hb
  have KX : Box2 w10 (w.heap.size + 1 + 1) ((x, y)) := HX.out.later hb
  have KA : Box w10 w4.heap.size (A) := HA.out.later hb
  have KB : Box w10 w5.heap.size (B) := HB.out.later hb
  have KC : Box w10 w6.heap.size (C) := HC.out.later hb
  have G : Hid (Grow w w10) := hide (Grow.trans' G.out hb)
  clear hb HS HR HX HA HB HC
  have HS := hide KS
  have HR := hide KR
  have HX := hide KX
  have HA := hide KA
  have HB := hide KB
  have HC := hide KC
  obtain ⟨s_0, s_1, s_2, s_3, s_4, s_5, s_6⟩ := KS
  obtain ⟨r_0, r_1, r_2, r_3, r_4, r_5, r_6⟩ := KR
  obtain ⟨x_0, x_1, x_2, x_3, x_4, x_5, x_6, x_7, x_8, x_9⟩ := KX
  obtain ⟨a_0, a_1, a_2, a_3, a_4⟩ := KA
  obtain ⟨b_0, b_1, b_2, b_3, b_4⟩ := KB
  obtain ⟨c_0, c_1, c_2, c_3, c_4⟩ := KC
  go_wp2_with fail
  refine (sLeC (Sm.mk 3 st sk sp sx sy sz) (Sm.mk 3 st rk rp rx ry rz) false hl.out _).mono ?_
  rintro e w11 ⟨rfl, hb⟩
  clear s_0 s_1 s_2 s_3 s_4 s_5 s_6 r_0 r_1 r_2 r_3 r_4 r_5 r_6 x_0 x_1 x_2 x_3 x_4 x_5 x_6 x_7 x_8 x_9 a_0 a_1 a_2 a_3 a_4 b_0 b_1 b_2 b_3 b_4 c_0 c_1 c_2 c_3 c_4
  have KS : SBox w11 w.heap.size (Sm.mk 3 st sk sp sx sy sz) := HS.out.later hb
  have KR : SBox w11 (w.heap.size + 1) (Sm.mk 3 st rk rp rx ry rz) := HR.out.later hb
  have KX : Box2 w11 (w.heap.size + 1 + 1) ((x, y)) := HX.out.later hb
  have KA : Box w11 w4.heap.size (A) := HA.out.later hb
  have KB : Box w11 w5.heap.size (B) := HB.out.later hb
  have KC : Box w11 w6.heap.size (C) := HC.out.later hb
  have G : Hid (Grow w w11) := hide (Grow.trans' G.out hb)
  clear hb HS HR HX HA HB HC
  have z0 : w.heap.size < w11.heap.size := World.block_lt_of_cell? _ _ KS.1
  have z1 : w.heap.size + 1 < w11.heap.size := World.block_lt_of_cell? _ _ KR.1
  have HS := hide KS
  have HR := hide KR
  clear KA KB KC KX KR
  obtain ⟨s0, s1, s2, s3, s4, s5, s6⟩ := KS
  dsimp only at s0 s1 s2 s3 s4 s5 s6
  go_wp2_with fail
  repeat any_goals (first | (refine wp_loop_rounds 4 ?_; rw [rounds_succ]; go_wp2_with fail) | (rw [rounds_succ]; go_wp2_with fail))
  clear s0 s1 s2 s3 s4 s5 s6
  have KS : SBox ((w11.alloc (.cells #[.int .i64 0, .int .i64 3, .int .i64 500, .int .i64 500, .int .i64 500] 30)).alloc (.cells #[.int .i64 0, .int .i64 3, .int .i64 0, .int .i64 0, .int .i64 0] 30)) w.heap.size (Sm.mk 3 st sk sp sx sy sz) := (HS.out.later (Grow.alloc' _ _)).later (Grow.alloc' _ _)
  have KR : SBox ((w11.alloc (.cells #[.int .i64 0, .int .i64 3, .int .i64 500, .int .i64 500, .int .i64 500] 30)).alloc (.cells #[.int .i64 0, .int .i64 3, .int .i64 0, .int .i64 0, .int .i64 0] 30)) (w.heap.size + 1) (Sm.mk 3 st rk rp rx ry rz) := (HR.out.later (Grow.alloc' _ _)).later (Grow.alloc' _ _)
  have KT : Box ((w11.alloc (.cells #[.int .i64 0, .int .i64 3, .int .i64 500, .int .i64 500, .int .i64 500] 30)).alloc (.cells #[.int .i64 0, .int .i64 3, .int .i64 0, .int .i64 0, .int .i64 0] 30)) w11.heap.size (Tm.mk 0 3 500 500 500) := by simp [Box, go_sem]
  have KN : Box ((w11.alloc (.cells #[.int .i64 0, .int .i64 3, .int .i64 500, .int .i64 500, .int .i64 500] 30)).alloc (.cells #[.int .i64 0, .int .i64 3, .int .i64 0, .int .i64 0, .int .i64 0] 30)) (w11.heap.size + 1) (Tm.mk 0 3 0 0 0) := by simp [Box, go_sem]
  have G : Hid (Grow w ((w11.alloc (.cells #[.int .i64 0, .int .i64 3, .int .i64 500, .int .i64 500, .int .i64 500] 30)).alloc (.cells #[.int .i64 0, .int .i64 3, .int .i64 0, .int .i64 0, .int .i64 0] 30))) := hide (Grow.trans' (Grow.trans' G.out (Grow.alloc' _ _)) (Grow.alloc' _ _))
  clear HS HR
  have HS := hide KS
  have HR := hide KR
  have HT := hide KT
  have HN := hide KN
  obtain ⟨s_0, s_1, s_2, s_3, s_4, s_5, s_6⟩ := KS
  obtain ⟨r_0, r_1, r_2, r_3, r_4, r_5, r_6⟩ := KR
  obtain ⟨t_0, t_1, t_2, t_3, t_4⟩ := KT
  obtain ⟨n_0, n_1, n_2, n_3, n_4⟩ := KN
  go_wp2_with fail
  refine (apply_at (Sm.mk 3 st sk sp sx sy sz) (Tm.mk 0 3 500 500 500) P H hP.out hH.out _).mono ?_
  rintro e w12 ⟨rfl, hb⟩
  clear s_0 s_1 s_2 s_3 s_4 s_5 s_6 r_0 r_1 r_2 r_3 r_4 r_5 r_6 t_0 t_1 t_2 t_3 t_4 n_0 n_1 n_2 n_3 n_4
  have KS : SBox (w12.alloc (.cells #[.int .i64 (P).e, .int .i64 (P).d, .int .i64 (P).x, .int .i64 (P).y, .int .i64 (P).z] 30)) w.heap.size (Sm.mk 3 st sk sp sx sy sz) := (HS.out.later hb).later (Grow.alloc' _ _)
  have KR : SBox (w12.alloc (.cells #[.int .i64 (P).e, .int .i64 (P).d, .int .i64 (P).x, .int .i64 (P).y, .int .i64 (P).z] 30)) (w.heap.size + 1) (Sm.mk 3 st rk rp rx ry rz) := (HR.out.later hb).later (Grow.alloc' _ _)
  have KT : Box (w12.alloc (.cells #[.int .i64 (P).e, .int .i64 (P).d, .int .i64 (P).x, .int .i64 (P).y, .int .i64 (P).z] 30)) w11.heap.size (Tm.mk 0 3 500 500 500) := (HT.out.later hb).later (Grow.alloc' _ _)
  have KN : Box (w12.alloc (.cells #[.int .i64 (P).e, .int .i64 (P).d, .int .i64 (P).x, .int .i64 (P).y, .int .i64 (P).z] 30)) (w11.heap.size + 1) (Tm.mk 0 3 0 0 0) := (HN.out.later hb).later (Grow.alloc' _ _)
  have KP : Box (w12.alloc (.cells #[.int .i64 (P).e, .int .i64 (P).d, .int .i64 (P).x, .int .i64 (P).y, .int .i64 (P).z] 30)) w12.heap.size (P) := Box.new _ _
  have G : Hid (Grow w (w12.alloc (.cells #[.int .i64 (P).e, .int .i64 (P).d, .int .i64 (P).x, .int .i64 (P).y, .int .i64 (P).z] 30))) := hide (Grow.trans' (Grow.trans' G.out hb) (Grow.alloc' _ _))
  clear hb HS HR HT HN
  have HS := hide KS
  have HR := hide KR
  have HT := hide KT
  have HN := hide KN
  have HP := hide KP
  obtain ⟨s_0, s_1, s_2, s_3, s_4, s_5, s_6⟩ := KS
  obtain ⟨r_0, r_1, r_2, r_3, r_4, r_5, r_6⟩ := KR
  obtain ⟨t_0, t_1, t_2, t_3, t_4⟩ := KT
  obtain ⟨n_0, n_1, n_2, n_3, n_4⟩ := KN
  obtain ⟨p_0, p_1, p_2, p_3, p_4⟩ := KP
  go_wp2_with fail
  refine (apply_at (Sm.mk 3 st rk rp rx ry rz) (Tm.mk 0 3 500 500 500) Q K hQ.out hK.out _).mono ?_
  rintro e w13 ⟨rfl, hb⟩
  clear s_0 s_1 s_2 s_3 s_4 s_5 s_6 r_0 r_1 r_2 r_3 r_4 r_5 r_6 t_0 t_1 t_2 t_3 t_4 n_0 n_1 n_2 n_3 n_4 p_0 p_1 p_2 p_3 p_4
  have KS : SBox (w13.alloc (.cells #[.int .i64 (Q).e, .int .i64 (Q).d, .int .i64 (Q).x, .int .i64 (Q).y, .int .i64 (Q).z] 30)) w.heap.size (Sm.mk 3 st sk sp sx sy sz) := (HS.out.later hb).later (Grow.alloc' _ _)
  have KR : SBox (w13.alloc (.cells #[.int .i64 (Q).e, .int .i64 (Q).d, .int .i64 (Q).x, .int .i64 (Q).y, .int .i64 (Q).z] 30)) (w.heap.size + 1) (Sm.mk 3 st rk rp rx ry rz) := (HR.out.later hb).later (Grow.alloc' _ _)
  have KT : Box (w13.alloc (.cells #[.int .i64 (Q).e, .int .i64 (Q).d, .int .i64 (Q).x, .int .i64 (Q).y, .int .i64 (Q).z] 30)) w11.heap.size (Tm.mk 0 3 500 500 500) := (HT.out.later hb).later (Grow.alloc' _ _)
  have KN : Box (w13.alloc (.cells #[.int .i64 (Q).e, .int .i64 (Q).d, .int .i64 (Q).x, .int .i64 (Q).y, .int .i64 (Q).z] 30)) (w11.heap.size + 1) (Tm.mk 0 3 0 0 0) := (HN.out.later hb).later (Grow.alloc' _ _)
  have KP : Box (w13.alloc (.cells #[.int .i64 (Q).e, .int .i64 (Q).d, .int .i64 (Q).x, .int .i64 (Q).y, .int .i64 (Q).z] 30)) w12.heap.size (P) := (HP.out.later hb).later (Grow.alloc' _ _)
  have KQ : Box (w13.alloc (.cells #[.int .i64 (Q).e, .int .i64 (Q).d, .int .i64 (Q).x, .int .i64 (Q).y, .int .i64 (Q).z] 30)) w13.heap.size (Q) := Box.new _ _
  have G : Hid (Grow w (w13.alloc (.cells #[.int .i64 (Q).e, .int .i64 (Q).d, .int .i64 (Q).x, .int .i64 (Q).y, .int .i64 (Q).z] 30))) := hide (Grow.trans' (Grow.trans' G.out hb) (Grow.alloc' _ _))
  clear hb HS HR HT HN HP
  have HS := hide KS
  have HR := hide KR
  have HT := hide KT
  have HN := hide KN
  have HP := hide KP
  have HQ := hide KQ
  obtain ⟨s_0, s_1, s_2, s_3, s_4, s_5, s_6⟩ := KS
  obtain ⟨r_0, r_1, r_2, r_3, r_4, r_5, r_6⟩ := KR
  obtain ⟨t_0, t_1, t_2, t_3, t_4⟩ := KT
  obtain ⟨n_0, n_1, n_2, n_3, n_4⟩ := KN
  obtain ⟨p_0, p_1, p_2, p_3, p_4⟩ := KP
  obtain ⟨q_0, q_1, q_2, q_3, q_4⟩ := KQ
  go_wp2_with fail
  refine (apply_at (Sm.mk 3 st sk sp sx sy sz) (Tm.mk 0 3 0 0 0) U 0 hU.out hUE.out _).mono ?_
  rintro e w14 ⟨rfl, hb⟩
  clear s_0 s_1 s_2 s_3 s_4 s_5 s_6 r_0 r_1 r_2 r_3 r_4 r_5 r_6 t_0 t_1 t_2 t_3 t_4 n_0 n_1 n_2 n_3 n_4 p_0 p_1 p_2 p_3 p_4 q_0 q_1 q_2 q_3 q_4
  have KS : SBox (w14.alloc (.cells #[.int .i64 (U).e, .int .i64 (U).d, .int .i64 (U).x, .int .i64 (U).y, .int .i64 (U).z] 30)) w.heap.size (Sm.mk 3 st sk sp sx sy sz) := (HS.out.later hb).later (Grow.alloc' _ _)
  have KR : SBox (w14.alloc (.cells #[.int .i64 (U).e, .int .i64 (U).d, .int .i64 (U).x, .int .i64 (U).y, .int .i64 (U).z] 30)) (w.heap.size + 1) (Sm.mk 3 st rk rp rx ry rz) := (HR.out.later hb).later (Grow.alloc' _ _)
  have KT : Box (w14.alloc (.cells #[.int .i64 (U).e, .int .i64 (U).d, .int .i64 (U).x, .int .i64 (U).y, .int .i64 (U).z] 30)) w11.heap.size (Tm.mk 0 3 500 500 500) := (HT.out.later hb).later (Grow.alloc' _ _)
  have KN : Box (w14.alloc (.cells #[.int .i64 (U).e, .int .i64 (U).d, .int .i64 (U).x, .int .i64 (U).y, .int .i64 (U).z] 30)) (w11.heap.size + 1) (Tm.mk 0 3 0 0 0) := (HN.out.later hb).later (Grow.alloc' _ _)
  have KP : Box (w14.alloc (.cells #[.int .i64 (U).e, .int .i64 (U).d, .int .i64 (U).x, .int .i64 (U).y, .int .i64 (U).z] 30)) w12.heap.size (P) := (HP.out.later hb).later (Grow.alloc' _ _)
  have KQ : Box (w14.alloc (.cells #[.int .i64 (U).e, .int .i64 (U).d, .int .i64 (U).x, .int .i64 (U).y, .int .i64 (U).z] 30)) w13.heap.size (Q) := (HQ.out.later hb).later (Grow.alloc' _ _)
  have KU : Box (w14.alloc (.cells #[.int .i64 (U).e, .int .i64 (U).d, .int .i64 (U).x, .int .i64 (U).y, .int .i64 (U).z] 30)) w14.heap.size (U) := Box.new _ _
  have G : Hid (Grow w (w14.alloc (.cells #[.int .i64 (U).e, .int .i64 (U).d, .int .i64 (U).x, .int .i64 (U).y, .int .i64 (U).z] 30))) := hide (Grow.trans' (Grow.trans' G.out hb) (Grow.alloc' _ _))
  clear hb HS HR HT HN HP HQ
  have HS := hide KS
  have HR := hide KR
  have HT := hide KT
  have HN := hide KN
  have HP := hide KP
  have HQ := hide KQ
  have HU := hide KU
  obtain ⟨s_0, s_1, s_2, s_3, s_4, s_5, s_6⟩ := KS
  obtain ⟨r_0, r_1, r_2, r_3, r_4, r_5, r_6⟩ := KR
  obtain ⟨t_0, t_1, t_2, t_3, t_4⟩ := KT
  obtain ⟨n_0, n_1, n_2, n_3, n_4⟩ := KN
  obtain ⟨p_0, p_1, p_2, p_3, p_4⟩ := KP
  obtain ⟨q_0, q_1, q_2, q_3, q_4⟩ := KQ
  obtain ⟨u_0, u_1, u_2, u_3, u_4⟩ := KU
  go_wp2_with fail
  refine (apply_at (Sm.mk 3 st rk rp rx ry rz) (Tm.mk 0 3 0 0 0) V 0 hV.out hVE.out _).mono ?_
  rintro e w15 ⟨rfl, hb⟩
  clear s_0 s_1 s_2 s_3 s_4 s_5 s_6 r_0 r_1 r_2 r_3 r_4 r_5 r_6 t_0 t_1 t_2 t_3 t_4 n_0 n_1 n_2 n_3 n_4 p_0 p_1 p_2 p_3 p_4 q_0 q_1 q_2 q_3 q_4 u_0 u_1 u_2 u_3 u_4
  have KS : SBox (w15.alloc (.cells #[.int .i64 (V).e, .int .i64 (V).d, .int .i64 (V).x, .int .i64 (V).y, .int .i64 (V).z] 30)) w.heap.size (Sm.mk 3 st sk sp sx sy sz) := (HS.out.later hb).later (Grow.alloc' _ _)
  have KR : SBox (w15.alloc (.cells #[.int .i64 (V).e, .int .i64 (V).d, .int .i64 (V).x, .int .i64 (V).y, .int .i64 (V).z] 30)) (w.heap.size + 1) (Sm.mk 3 st rk rp rx ry rz) := (HR.out.later hb).later (Grow.alloc' _ _)
  have KT : Box (w15.alloc (.cells #[.int .i64 (V).e, .int .i64 (V).d, .int .i64 (V).x, .int .i64 (V).y, .int .i64 (V).z] 30)) w11.heap.size (Tm.mk 0 3 500 500 500) := (HT.out.later hb).later (Grow.alloc' _ _)
  have KN : Box (w15.alloc (.cells #[.int .i64 (V).e, .int .i64 (V).d, .int .i64 (V).x, .int .i64 (V).y, .int .i64 (V).z] 30)) (w11.heap.size + 1) (Tm.mk 0 3 0 0 0) := (HN.out.later hb).later (Grow.alloc' _ _)
  have KP : Box (w15.alloc (.cells #[.int .i64 (V).e, .int .i64 (V).d, .int .i64 (V).x, .int .i64 (V).y, .int .i64 (V).z] 30)) w12.heap.size (P) := (HP.out.later hb).later (Grow.alloc' _ _)
  have KQ : Box (w15.alloc (.cells #[.int .i64 (V).e, .int .i64 (V).d, .int .i64 (V).x, .int .i64 (V).y, .int .i64 (V).z] 30)) w13.heap.size (Q) := (HQ.out.later hb).later (Grow.alloc' _ _)
  have KU : Box (w15.alloc (.cells #[.int .i64 (V).e, .int .i64 (V).d, .int .i64 (V).x, .int .i64 (V).y, .int .i64 (V).z] 30)) w14.heap.size (U) := (HU.out.later hb).later (Grow.alloc' _ _)
  have KV : Box (w15.alloc (.cells #[.int .i64 (V).e, .int .i64 (V).d, .int .i64 (V).x, .int .i64 (V).y, .int .i64 (V).z] 30)) w15.heap.size (V) := Box.new _ _
  have G : Hid (Grow w (w15.alloc (.cells #[.int .i64 (V).e, .int .i64 (V).d, .int .i64 (V).x, .int .i64 (V).y, .int .i64 (V).z] 30))) := hide (Grow.trans' (Grow.trans' G.out hb) (Grow.alloc' _ _))
  clear hb HS HR HT HN HP HQ HU
  have HS := hide KS
  have HR := hide KR
  have HT := hide KT
  have HN := hide KN
  have HP := hide KP
  have HQ := hide KQ
  have HU := hide KU
  have HV := hide KV
  obtain ⟨s_0, s_1, s_2, s_3, s_4, s_5, s_6⟩ := KS
  obtain ⟨r_0, r_1, r_2, r_3, r_4, r_5, r_6⟩ := KR
  obtain ⟨t_0, t_1, t_2, t_3, t_4⟩ := KT
  obtain ⟨n_0, n_1, n_2, n_3, n_4⟩ := KN
  obtain ⟨p_0, p_1, p_2, p_3, p_4⟩ := KP
  obtain ⟨q_0, q_1, q_2, q_3, q_4⟩ := KQ
  obtain ⟨u_0, u_1, u_2, u_3, u_4⟩ := KU
  obtain ⟨v_0, v_1, v_2, v_3, v_4⟩ := KV
  go_wp2_with fail
  refine (refLeC P Q one h1o.out _).mono ?_
  rintro e w16 ⟨rfl, hb⟩
  clear s_0 s_1 s_2 s_3 s_4 s_5 s_6 r_0 r_1 r_2 r_3 r_4 r_5 r_6 t_0 t_1 t_2 t_3 t_4 n_0 n_1 n_2 n_3 n_4 p_0 p_1 p_2 p_3 p_4 q_0 q_1 q_2 q_3 q_4 u_0 u_1 u_2 u_3 u_4 v_0 v_1 v_2 v_3 v_4
  have KS : SBox w16 w.heap.size (Sm.mk 3 st sk sp sx sy sz) := HS.out.later hb
  have KR : SBox w16 (w.heap.size + 1) (Sm.mk 3 st rk rp rx ry rz) := HR.out.later hb
  have KT : Box w16 w11.heap.size (Tm.mk 0 3 500 500 500) := HT.out.later hb
  have KN : Box w16 (w11.heap.size + 1) (Tm.mk 0 3 0 0 0) := HN.out.later hb
  have KP : Box w16 w12.heap.size (P) := HP.out.later hb
  have KQ : Box w16 w13.heap.size (Q) := HQ.out.later hb
  have KU : Box w16 w14.heap.size (U) := HU.out.later hb
  have KV : Box w16 w15.heap.size (V) := HV.out.later hb
  have G : Hid (Grow w w16) := hide (Grow.trans' G.out hb)
  clear hb HS HR HT HN HP HQ HU HV
  have HS := hide KS
  have HR := hide KR
  have HT := hide KT
  have HN := hide KN
  have HP := hide KP
  have HQ := hide KQ
  have HU := hide KU
  have HV := hide KV
  obtain ⟨s_0, s_1, s_2, s_3, s_4, s_5, s_6⟩ := KS
  obtain ⟨r_0, r_1, r_2, r_3, r_4, r_5, r_6⟩ := KR
  obtain ⟨t_0, t_1, t_2, t_3, t_4⟩ := KT
  obtain ⟨n_0, n_1, n_2, n_3, n_4⟩ := KN
  obtain ⟨p_0, p_1, p_2, p_3, p_4⟩ := KP
  obtain ⟨q_0, q_1, q_2, q_3, q_4⟩ := KQ
  obtain ⟨u_0, u_1, u_2, u_3, u_4⟩ := KU
  obtain ⟨v_0, v_1, v_2, v_3, v_4⟩ := KV
  go_wp2_with fail
  refine (refLeC U V two h2o.out _).mono ?_
  rintro e w17 ⟨rfl, hb⟩
  clear s_0 s_1 s_2 s_3 s_4 s_5 s_6 r_0 r_1 r_2 r_3 r_4 r_5 r_6 t_0 t_1 t_2 t_3 t_4 n_0 n_1 n_2 n_3 n_4 p_0 p_1 p_2 p_3 p_4 q_0 q_1 q_2 q_3 q_4 u_0 u_1 u_2 u_3 u_4 v_0 v_1 v_2 v_3 v_4
  have KS : SBox w17 w.heap.size (Sm.mk 3 st sk sp sx sy sz) := HS.out.later hb
  have KR : SBox w17 (w.heap.size + 1) (Sm.mk 3 st rk rp rx ry rz) := HR.out.later hb
  have KT : Box w17 w11.heap.size (Tm.mk 0 3 500 500 500) := HT.out.later hb
  have KN : Box w17 (w11.heap.size + 1) (Tm.mk 0 3 0 0 0) := HN.out.later hb
  have KP : Box w17 w12.heap.size (P) := HP.out.later hb
  have KQ : Box w17 w13.heap.size (Q) := HQ.out.later hb
  have KU : Box w17 w14.heap.size (U) := HU.out.later hb
  have KV : Box w17 w15.heap.size (V) := HV.out.later hb
  have G : Hid (Grow w w17) := hide (Grow.trans' G.out hb)
  clear hb HS HR HT HN HP HQ HU HV
  clear KS KT KN KP KQ KU KV
  obtain ⟨r0, r1, r2, r3, r4, r5, r6⟩ := KR
  dsimp only at r0 r1 r2 r3 r4 r5 r6
  cases two
  · go_wp2_with fail
    go_ret
    exact ⟨rfl, G.out⟩
  by_cases eH : H = 0
  rotate_left
  · go_wp2_with fail
    go_ret
    exact ⟨rfl, G.out⟩
  by_cases eK : K = 0
  rotate_left
  · subst eH
    go_wp2_with fail
    go_ret
    exact ⟨rfl, G.out⟩
  subst eH eK
  cases one
  · go_wp2_with fail
    go_ret
    exact ⟨rfl, G.out⟩
  · have HI : Hid (highS (Sm.mk 3 st rk rp rx ry rz) = true) := hide (hhi.out rfl rfl rfl rfl)
    clear hhi
    go_wp2_with fail
    refine (highC (Sm.mk 3 st rk rp rx ry rz) true HI.out _).mono ?_
    rintro e w30 ⟨rfl, hb⟩
    have G := hide (Grow.trans' G.out hb)
    clear r0 r1 r2 r3 r4 r5 r6 hb
    go_wp2
    go_ret
    exact ⟨rfl, G.out⟩
set_option maxHeartbeats 4000000 in
set_option maxRecDepth 100000 in
theorem SummaryLess_3_2 (st sk sp sx sy sz rk rp rx ry rz : Int) (x y : Tm) (A B C : Tm) (E F L : Int) (p m : Bool) (w : World) (h1 : Hid (mayS (Sm.mk 3 st sk sp sx sy sz) = true)) (h2 : Hid (mayS (Sm.mk 3 st rk rp rx ry rz) = true)) (hA : Hid (applyT (Sm.mk 3 st sk sp sx sy sz) x = A)) (hE : Hid (applyE (Sm.mk 3 st sk sp sx sy sz) x = E)) (hB : Hid (applyT (Sm.mk 3 st rk rp rx ry rz) x = B)) (hF : Hid (applyE (Sm.mk 3 st rk rp rx ry rz) x = F)) (hC : Hid (applyT (Sm.mk 3 st sk sp sx sy sz) y = C)) (hL : Hid (applyE (Sm.mk 3 st sk sp sx sy sz) y = L)) (hp : Hid (leB A B = p)) (hu : Hid (leB x y = true)) (hm : Hid (leB A C = m)) (hl : Hid (leS (Sm.mk 3 st sk sp sx sy sz) (Sm.mk 3 st rk rp rx ry rz) = false)) (k1 : ¬ E = 0) (P Q U V : Tm) (H K : Int) (one two : Bool) (hP : Hid (applyT (Sm.mk 3 st sk sp sx sy sz) (Tm.mk 0 3 500 500 500) = P)) (hH : Hid (applyE (Sm.mk 3 st sk sp sx sy sz) (Tm.mk 0 3 500 500 500) = H)) (hQ : Hid (applyT (Sm.mk 3 st rk rp rx ry rz) (Tm.mk 0 3 500 500 500) = Q)) (hK : Hid (applyE (Sm.mk 3 st rk rp rx ry rz) (Tm.mk 0 3 500 500 500) = K)) (hU : Hid (applyT (Sm.mk 3 st sk sp sx sy sz) (Tm.mk 0 3 0 0 0) = U)) (hUE : Hid (applyE (Sm.mk 3 st sk sp sx sy sz) (Tm.mk 0 3 0 0 0) = 0)) (hV : Hid (applyT (Sm.mk 3 st rk rp rx ry rz) (Tm.mk 0 3 0 0 0) = V)) (hVE : Hid (applyE (Sm.mk 3 st rk rp rx ry rz) (Tm.mk 0 3 0 0 0) = 0)) (h1o : Hid (leB P Q = one)) (h2o : Hid (leB U V = two)) (hhi : Hid (two = true → H = 0 → K = 0 → one = true → highS (Sm.mk 3 st rk rp rx ry rz) = true)) :
    Calls Try.prog 7 #[.agg #[.int .i64 (Sm.mk 3 st sk sp sx sy sz).f, .int .i64 (Sm.mk 3 st sk sp sx sy sz).t, .int .i64 (Sm.mk 3 st sk sp sx sy sz).k, .int .i64 (Sm.mk 3 st sk sp sx sy sz).ep, .int .i64 (Sm.mk 3 st sk sp sx sy sz).x, .int .i64 (Sm.mk 3 st sk sp sx sy sz).y, .int .i64 (Sm.mk 3 st sk sp sx sy sz).z], .agg #[.int .i64 (Sm.mk 3 st rk rp rx ry rz).f, .int .i64 (Sm.mk 3 st rk rp rx ry rz).t, .int .i64 (Sm.mk 3 st rk rp rx ry rz).k, .int .i64 (Sm.mk 3 st rk rp rx ry rz).ep, .int .i64 (Sm.mk 3 st rk rp rx ry rz).x, .int .i64 (Sm.mk 3 st rk rp rx ry rz).y, .int .i64 (Sm.mk 3 st rk rp rx ry rz).z], .agg #[.int .i64 x.e, .int .i64 x.d, .int .i64 x.x, .int .i64 x.y, .int .i64 x.z, .int .i64 y.e, .int .i64 y.d, .int .i64 y.x, .int .i64 y.y, .int .i64 y.z]] w fun e w' => e = .returned (.bool true) ∧ Below w.heap.size w w' := by
  go_enter Try.func7, Try.ntmps7
  have KS : SBox (((w.alloc (.cells #[.int .i64 (Sm.mk 3 st sk sp sx sy sz).f, .int .i64 (Sm.mk 3 st sk sp sx sy sz).t, .int .i64 (Sm.mk 3 st sk sp sx sy sz).k, .int .i64 (Sm.mk 3 st sk sp sx sy sz).ep, .int .i64 (Sm.mk 3 st sk sp sx sy sz).x, .int .i64 (Sm.mk 3 st sk sp sx sy sz).y, .int .i64 (Sm.mk 3 st sk sp sx sy sz).z] 24)).alloc (.cells #[.int .i64 (Sm.mk 3 st rk rp rx ry rz).f, .int .i64 (Sm.mk 3 st rk rp rx ry rz).t, .int .i64 (Sm.mk 3 st rk rp rx ry rz).k, .int .i64 (Sm.mk 3 st rk rp rx ry rz).ep, .int .i64 (Sm.mk 3 st rk rp rx ry rz).x, .int .i64 (Sm.mk 3 st rk rp rx ry rz).y, .int .i64 (Sm.mk 3 st rk rp rx ry rz).z] 24)).alloc (.cells #[.int .i64 x.e, .int .i64 x.d, .int .i64 x.x, .int .i64 x.y, .int .i64 x.z, .int .i64 y.e, .int .i64 y.d, .int .i64 y.x, .int .i64 y.y, .int .i64 y.z] 39)) w.heap.size (Sm.mk 3 st sk sp sx sy sz) := by simp [SBox, go_sem]
  have KR : SBox (((w.alloc (.cells #[.int .i64 (Sm.mk 3 st sk sp sx sy sz).f, .int .i64 (Sm.mk 3 st sk sp sx sy sz).t, .int .i64 (Sm.mk 3 st sk sp sx sy sz).k, .int .i64 (Sm.mk 3 st sk sp sx sy sz).ep, .int .i64 (Sm.mk 3 st sk sp sx sy sz).x, .int .i64 (Sm.mk 3 st sk sp sx sy sz).y, .int .i64 (Sm.mk 3 st sk sp sx sy sz).z] 24)).alloc (.cells #[.int .i64 (Sm.mk 3 st rk rp rx ry rz).f, .int .i64 (Sm.mk 3 st rk rp rx ry rz).t, .int .i64 (Sm.mk 3 st rk rp rx ry rz).k, .int .i64 (Sm.mk 3 st rk rp rx ry rz).ep, .int .i64 (Sm.mk 3 st rk rp rx ry rz).x, .int .i64 (Sm.mk 3 st rk rp rx ry rz).y, .int .i64 (Sm.mk 3 st rk rp rx ry rz).z] 24)).alloc (.cells #[.int .i64 x.e, .int .i64 x.d, .int .i64 x.x, .int .i64 x.y, .int .i64 x.z, .int .i64 y.e, .int .i64 y.d, .int .i64 y.x, .int .i64 y.y, .int .i64 y.z] 39)) (w.heap.size + 1) (Sm.mk 3 st rk rp rx ry rz) := by simp [SBox, go_sem]
  have KX : Box2 (((w.alloc (.cells #[.int .i64 (Sm.mk 3 st sk sp sx sy sz).f, .int .i64 (Sm.mk 3 st sk sp sx sy sz).t, .int .i64 (Sm.mk 3 st sk sp sx sy sz).k, .int .i64 (Sm.mk 3 st sk sp sx sy sz).ep, .int .i64 (Sm.mk 3 st sk sp sx sy sz).x, .int .i64 (Sm.mk 3 st sk sp sx sy sz).y, .int .i64 (Sm.mk 3 st sk sp sx sy sz).z] 24)).alloc (.cells #[.int .i64 (Sm.mk 3 st rk rp rx ry rz).f, .int .i64 (Sm.mk 3 st rk rp rx ry rz).t, .int .i64 (Sm.mk 3 st rk rp rx ry rz).k, .int .i64 (Sm.mk 3 st rk rp rx ry rz).ep, .int .i64 (Sm.mk 3 st rk rp rx ry rz).x, .int .i64 (Sm.mk 3 st rk rp rx ry rz).y, .int .i64 (Sm.mk 3 st rk rp rx ry rz).z] 24)).alloc (.cells #[.int .i64 x.e, .int .i64 x.d, .int .i64 x.x, .int .i64 x.y, .int .i64 x.z, .int .i64 y.e, .int .i64 y.d, .int .i64 y.x, .int .i64 y.y, .int .i64 y.z] 39)) (w.heap.size + 1 + 1) (x, y) := by simp [Box2, go_sem]
  have G : Hid (Grow w (((w.alloc (.cells #[.int .i64 (Sm.mk 3 st sk sp sx sy sz).f, .int .i64 (Sm.mk 3 st sk sp sx sy sz).t, .int .i64 (Sm.mk 3 st sk sp sx sy sz).k, .int .i64 (Sm.mk 3 st sk sp sx sy sz).ep, .int .i64 (Sm.mk 3 st sk sp sx sy sz).x, .int .i64 (Sm.mk 3 st sk sp sx sy sz).y, .int .i64 (Sm.mk 3 st sk sp sx sy sz).z] 24)).alloc (.cells #[.int .i64 (Sm.mk 3 st rk rp rx ry rz).f, .int .i64 (Sm.mk 3 st rk rp rx ry rz).t, .int .i64 (Sm.mk 3 st rk rp rx ry rz).k, .int .i64 (Sm.mk 3 st rk rp rx ry rz).ep, .int .i64 (Sm.mk 3 st rk rp rx ry rz).x, .int .i64 (Sm.mk 3 st rk rp rx ry rz).y, .int .i64 (Sm.mk 3 st rk rp rx ry rz).z] 24)).alloc (.cells #[.int .i64 x.e, .int .i64 x.d, .int .i64 x.x, .int .i64 x.y, .int .i64 x.z, .int .i64 y.e, .int .i64 y.d, .int .i64 y.x, .int .i64 y.y, .int .i64 y.z] 39))) := hide (Grow.trans' (Grow.trans' (Grow.alloc' _ _) (Grow.alloc' _ _)) (Grow.alloc' _ _))
  have HS := hide KS
  have HR := hide KR
  have HX := hide KX
  obtain ⟨s_0, s_1, s_2, s_3, s_4, s_5, s_6⟩ := KS
  obtain ⟨r_0, r_1, r_2, r_3, r_4, r_5, r_6⟩ := KR
  obtain ⟨x_0, x_1, x_2, x_3, x_4, x_5, x_6, x_7, x_8, x_9⟩ := KX
  go_wp2_with fail
  refine (shown_any _).mono ?_
  rintro e w1 ⟨rfl, hb⟩
  clear s_0 s_1 s_2 s_3 s_4 s_5 s_6 r_0 r_1 r_2 r_3 r_4 r_5 r_6 x_0 x_1 x_2 x_3 x_4 x_5 x_6 x_7 x_8 x_9
  have KS : SBox w1 w.heap.size (Sm.mk 3 st sk sp sx sy sz) := HS.out.later hb
  have KR : SBox w1 (w.heap.size + 1) (Sm.mk 3 st rk rp rx ry rz) := HR.out.later hb
  have KX : Box2 w1 (w.heap.size + 1 + 1) ((x, y)) := HX.out.later hb
  have G : Hid (Grow w w1) := hide (Grow.trans' G.out hb)
  clear hb HS HR HX
  have HS := hide KS
  have HR := hide KR
  have HX := hide KX
  obtain ⟨s_0, s_1, s_2, s_3, s_4, s_5, s_6⟩ := KS
  obtain ⟨r_0, r_1, r_2, r_3, r_4, r_5, r_6⟩ := KR
  obtain ⟨x_0, x_1, x_2, x_3, x_4, x_5, x_6, x_7, x_8, x_9⟩ := KX
  go_wp2_with fail
  refine (sMayC (Sm.mk 3 st sk sp sx sy sz) true h1.out _).mono ?_
  rintro e w2 ⟨rfl, hb⟩
  clear s_0 s_1 s_2 s_3 s_4 s_5 s_6 r_0 r_1 r_2 r_3 r_4 r_5 r_6 x_0 x_1 x_2 x_3 x_4 x_5 x_6 x_7 x_8 x_9
  have KS : SBox w2 w.heap.size (Sm.mk 3 st sk sp sx sy sz) := HS.out.later hb
  have KR : SBox w2 (w.heap.size + 1) (Sm.mk 3 st rk rp rx ry rz) := HR.out.later hb
  have KX : Box2 w2 (w.heap.size + 1 + 1) ((x, y)) := HX.out.later hb
  have G : Hid (Grow w w2) := hide (Grow.trans' G.out hb)
  clear hb HS HR HX
  have HS := hide KS
  have HR := hide KR
  have HX := hide KX
  obtain ⟨s_0, s_1, s_2, s_3, s_4, s_5, s_6⟩ := KS
  obtain ⟨r_0, r_1, r_2, r_3, r_4, r_5, r_6⟩ := KR
  obtain ⟨x_0, x_1, x_2, x_3, x_4, x_5, x_6, x_7, x_8, x_9⟩ := KX
  go_wp2_with fail
  refine (sMayC (Sm.mk 3 st rk rp rx ry rz) true h2.out _).mono ?_
  rintro e w3 ⟨rfl, hb⟩
  clear s_0 s_1 s_2 s_3 s_4 s_5 s_6 r_0 r_1 r_2 r_3 r_4 r_5 r_6 x_0 x_1 x_2 x_3 x_4 x_5 x_6 x_7 x_8 x_9
  have KS : SBox w3 w.heap.size (Sm.mk 3 st sk sp sx sy sz) := HS.out.later hb
  have KR : SBox w3 (w.heap.size + 1) (Sm.mk 3 st rk rp rx ry rz) := HR.out.later hb
  have KX : Box2 w3 (w.heap.size + 1 + 1) ((x, y)) := HX.out.later hb
  have G : Hid (Grow w w3) := hide (Grow.trans' G.out hb)
  clear hb HS HR HX
  have HS := hide KS
  have HR := hide KR
  have HX := hide KX
  obtain ⟨s_0, s_1, s_2, s_3, s_4, s_5, s_6⟩ := KS
  obtain ⟨r_0, r_1, r_2, r_3, r_4, r_5, r_6⟩ := KR
  obtain ⟨x_0, x_1, x_2, x_3, x_4, x_5, x_6, x_7, x_8, x_9⟩ := KX
  go_wp2_with fail
  refine (apply_at (Sm.mk 3 st sk sp sx sy sz) x A E hA.out hE.out _).mono ?_
  rintro e w4 ⟨rfl, hb⟩
  clear s_0 s_1 s_2 s_3 s_4 s_5 s_6 r_0 r_1 r_2 r_3 r_4 r_5 r_6 x_0 x_1 x_2 x_3 x_4 x_5 x_6 x_7 x_8 x_9
  have KS : SBox (w4.alloc (.cells #[.int .i64 (A).e, .int .i64 (A).d, .int .i64 (A).x, .int .i64 (A).y, .int .i64 (A).z] 30)) w.heap.size (Sm.mk 3 st sk sp sx sy sz) := (HS.out.later hb).later (Grow.alloc' _ _)
  have KR : SBox (w4.alloc (.cells #[.int .i64 (A).e, .int .i64 (A).d, .int .i64 (A).x, .int .i64 (A).y, .int .i64 (A).z] 30)) (w.heap.size + 1) (Sm.mk 3 st rk rp rx ry rz) := (HR.out.later hb).later (Grow.alloc' _ _)
  have KX : Box2 (w4.alloc (.cells #[.int .i64 (A).e, .int .i64 (A).d, .int .i64 (A).x, .int .i64 (A).y, .int .i64 (A).z] 30)) (w.heap.size + 1 + 1) ((x, y)) := (HX.out.later hb).later (Grow.alloc' _ _)
  have KA : Box (w4.alloc (.cells #[.int .i64 (A).e, .int .i64 (A).d, .int .i64 (A).x, .int .i64 (A).y, .int .i64 (A).z] 30)) w4.heap.size (A) := Box.new _ _
  have G : Hid (Grow w (w4.alloc (.cells #[.int .i64 (A).e, .int .i64 (A).d, .int .i64 (A).x, .int .i64 (A).y, .int .i64 (A).z] 30))) := hide (Grow.trans' (Grow.trans' G.out hb) (Grow.alloc' _ _))
  clear hb HS HR HX
  have HS := hide KS
  have HR := hide KR
  have HX := hide KX
  have HA := hide KA
  obtain ⟨s_0, s_1, s_2, s_3, s_4, s_5, s_6⟩ := KS
  obtain ⟨r_0, r_1, r_2, r_3, r_4, r_5, r_6⟩ := KR
  obtain ⟨x_0, x_1, x_2, x_3, x_4, x_5, x_6, x_7, x_8, x_9⟩ := KX
  obtain ⟨a_0, a_1, a_2, a_3, a_4⟩ := KA
  go_wp2_with fail
  refine (apply_at (Sm.mk 3 st rk rp rx ry rz) x B F hB.out hF.out _).mono ?_
  rintro e w5 ⟨rfl, hb⟩
  clear s_0 s_1 s_2 s_3 s_4 s_5 s_6 r_0 r_1 r_2 r_3 r_4 r_5 r_6 x_0 x_1 x_2 x_3 x_4 x_5 x_6 x_7 x_8 x_9 a_0 a_1 a_2 a_3 a_4
  have KS : SBox (w5.alloc (.cells #[.int .i64 (B).e, .int .i64 (B).d, .int .i64 (B).x, .int .i64 (B).y, .int .i64 (B).z] 30)) w.heap.size (Sm.mk 3 st sk sp sx sy sz) := (HS.out.later hb).later (Grow.alloc' _ _)
  have KR : SBox (w5.alloc (.cells #[.int .i64 (B).e, .int .i64 (B).d, .int .i64 (B).x, .int .i64 (B).y, .int .i64 (B).z] 30)) (w.heap.size + 1) (Sm.mk 3 st rk rp rx ry rz) := (HR.out.later hb).later (Grow.alloc' _ _)
  have KX : Box2 (w5.alloc (.cells #[.int .i64 (B).e, .int .i64 (B).d, .int .i64 (B).x, .int .i64 (B).y, .int .i64 (B).z] 30)) (w.heap.size + 1 + 1) ((x, y)) := (HX.out.later hb).later (Grow.alloc' _ _)
  have KA : Box (w5.alloc (.cells #[.int .i64 (B).e, .int .i64 (B).d, .int .i64 (B).x, .int .i64 (B).y, .int .i64 (B).z] 30)) w4.heap.size (A) := (HA.out.later hb).later (Grow.alloc' _ _)
  have KB : Box (w5.alloc (.cells #[.int .i64 (B).e, .int .i64 (B).d, .int .i64 (B).x, .int .i64 (B).y, .int .i64 (B).z] 30)) w5.heap.size (B) := Box.new _ _
  have G : Hid (Grow w (w5.alloc (.cells #[.int .i64 (B).e, .int .i64 (B).d, .int .i64 (B).x, .int .i64 (B).y, .int .i64 (B).z] 30))) := hide (Grow.trans' (Grow.trans' G.out hb) (Grow.alloc' _ _))
  clear hb HS HR HX HA
  have HS := hide KS
  have HR := hide KR
  have HX := hide KX
  have HA := hide KA
  have HB := hide KB
  obtain ⟨s_0, s_1, s_2, s_3, s_4, s_5, s_6⟩ := KS
  obtain ⟨r_0, r_1, r_2, r_3, r_4, r_5, r_6⟩ := KR
  obtain ⟨x_0, x_1, x_2, x_3, x_4, x_5, x_6, x_7, x_8, x_9⟩ := KX
  obtain ⟨a_0, a_1, a_2, a_3, a_4⟩ := KA
  obtain ⟨b_0, b_1, b_2, b_3, b_4⟩ := KB
  go_wp2_with fail
  refine (apply_at (Sm.mk 3 st sk sp sx sy sz) y C L hC.out hL.out _).mono ?_
  rintro e w6 ⟨rfl, hb⟩
  clear s_0 s_1 s_2 s_3 s_4 s_5 s_6 r_0 r_1 r_2 r_3 r_4 r_5 r_6 x_0 x_1 x_2 x_3 x_4 x_5 x_6 x_7 x_8 x_9 a_0 a_1 a_2 a_3 a_4 b_0 b_1 b_2 b_3 b_4
  have KS : SBox (w6.alloc (.cells #[.int .i64 (C).e, .int .i64 (C).d, .int .i64 (C).x, .int .i64 (C).y, .int .i64 (C).z] 30)) w.heap.size (Sm.mk 3 st sk sp sx sy sz) := (HS.out.later hb).later (Grow.alloc' _ _)
  have KR : SBox (w6.alloc (.cells #[.int .i64 (C).e, .int .i64 (C).d, .int .i64 (C).x, .int .i64 (C).y, .int .i64 (C).z] 30)) (w.heap.size + 1) (Sm.mk 3 st rk rp rx ry rz) := (HR.out.later hb).later (Grow.alloc' _ _)
  have KX : Box2 (w6.alloc (.cells #[.int .i64 (C).e, .int .i64 (C).d, .int .i64 (C).x, .int .i64 (C).y, .int .i64 (C).z] 30)) (w.heap.size + 1 + 1) ((x, y)) := (HX.out.later hb).later (Grow.alloc' _ _)
  have KA : Box (w6.alloc (.cells #[.int .i64 (C).e, .int .i64 (C).d, .int .i64 (C).x, .int .i64 (C).y, .int .i64 (C).z] 30)) w4.heap.size (A) := (HA.out.later hb).later (Grow.alloc' _ _)
  have KB : Box (w6.alloc (.cells #[.int .i64 (C).e, .int .i64 (C).d, .int .i64 (C).x, .int .i64 (C).y, .int .i64 (C).z] 30)) w5.heap.size (B) := (HB.out.later hb).later (Grow.alloc' _ _)
  have KC : Box (w6.alloc (.cells #[.int .i64 (C).e, .int .i64 (C).d, .int .i64 (C).x, .int .i64 (C).y, .int .i64 (C).z] 30)) w6.heap.size (C) := Box.new _ _
  have G : Hid (Grow w (w6.alloc (.cells #[.int .i64 (C).e, .int .i64 (C).d, .int .i64 (C).x, .int .i64 (C).y, .int .i64 (C).z] 30))) := hide (Grow.trans' (Grow.trans' G.out hb) (Grow.alloc' _ _))
  clear hb HS HR HX HA HB
  have HS := hide KS
  have HR := hide KR
  have HX := hide KX
  have HA := hide KA
  have HB := hide KB
  have HC := hide KC
  obtain ⟨s_0, s_1, s_2, s_3, s_4, s_5, s_6⟩ := KS
  obtain ⟨r_0, r_1, r_2, r_3, r_4, r_5, r_6⟩ := KR
  obtain ⟨x_0, x_1, x_2, x_3, x_4, x_5, x_6, x_7, x_8, x_9⟩ := KX
  obtain ⟨a_0, a_1, a_2, a_3, a_4⟩ := KA
  obtain ⟨b_0, b_1, b_2, b_3, b_4⟩ := KB
  obtain ⟨c_0, c_1, c_2, c_3, c_4⟩ := KC
  go_wp2_with fail
  refine (refLeC A B p hp.out _).mono ?_
  rintro e w7 ⟨rfl, hb⟩
  clear s_0 s_1 s_2 s_3 s_4 s_5 s_6 r_0 r_1 r_2 r_3 r_4 r_5 r_6 x_0 x_1 x_2 x_3 x_4 x_5 x_6 x_7 x_8 x_9 a_0 a_1 a_2 a_3 a_4 b_0 b_1 b_2 b_3 b_4 c_0 c_1 c_2 c_3 c_4
  have KS : SBox w7 w.heap.size (Sm.mk 3 st sk sp sx sy sz) := HS.out.later hb
  have KR : SBox w7 (w.heap.size + 1) (Sm.mk 3 st rk rp rx ry rz) := HR.out.later hb
  have KX : Box2 w7 (w.heap.size + 1 + 1) ((x, y)) := HX.out.later hb
  have KA : Box w7 w4.heap.size (A) := HA.out.later hb
  have KB : Box w7 w5.heap.size (B) := HB.out.later hb
  have KC : Box w7 w6.heap.size (C) := HC.out.later hb
  have G : Hid (Grow w w7) := hide (Grow.trans' G.out hb)
  clear hb HS HR HX HA HB HC
  have HS := hide KS
  have HR := hide KR
  have HX := hide KX
  have HA := hide KA
  have HB := hide KB
  have HC := hide KC
  obtain ⟨s_0, s_1, s_2, s_3, s_4, s_5, s_6⟩ := KS
  obtain ⟨r_0, r_1, r_2, r_3, r_4, r_5, r_6⟩ := KR
  obtain ⟨x_0, x_1, x_2, x_3, x_4, x_5, x_6, x_7, x_8, x_9⟩ := KX
  obtain ⟨a_0, a_1, a_2, a_3, a_4⟩ := KA
  obtain ⟨b_0, b_1, b_2, b_3, b_4⟩ := KB
  obtain ⟨c_0, c_1, c_2, c_3, c_4⟩ := KC
  go_wp2_with fail
  refine (refLeC x y true hu.out _).mono ?_
  rintro e w8 ⟨rfl, hb⟩
  clear s_0 s_1 s_2 s_3 s_4 s_5 s_6 r_0 r_1 r_2 r_3 r_4 r_5 r_6 x_0 x_1 x_2 x_3 x_4 x_5 x_6 x_7 x_8 x_9 a_0 a_1 a_2 a_3 a_4 b_0 b_1 b_2 b_3 b_4 c_0 c_1 c_2 c_3 c_4
  have KS : SBox w8 w.heap.size (Sm.mk 3 st sk sp sx sy sz) := HS.out.later hb
  have KR : SBox w8 (w.heap.size + 1) (Sm.mk 3 st rk rp rx ry rz) := HR.out.later hb
  have KX : Box2 w8 (w.heap.size + 1 + 1) ((x, y)) := HX.out.later hb
  have KA : Box w8 w4.heap.size (A) := HA.out.later hb
  have KB : Box w8 w5.heap.size (B) := HB.out.later hb
  have KC : Box w8 w6.heap.size (C) := HC.out.later hb
  have G : Hid (Grow w w8) := hide (Grow.trans' G.out hb)
  clear hb HS HR HX HA HB HC
  have HS := hide KS
  have HR := hide KR
  have HX := hide KX
  have HA := hide KA
  have HB := hide KB
  have HC := hide KC
  obtain ⟨s_0, s_1, s_2, s_3, s_4, s_5, s_6⟩ := KS
  obtain ⟨r_0, r_1, r_2, r_3, r_4, r_5, r_6⟩ := KR
  obtain ⟨x_0, x_1, x_2, x_3, x_4, x_5, x_6, x_7, x_8, x_9⟩ := KX
  obtain ⟨a_0, a_1, a_2, a_3, a_4⟩ := KA
  obtain ⟨b_0, b_1, b_2, b_3, b_4⟩ := KB
  obtain ⟨c_0, c_1, c_2, c_3, c_4⟩ := KC
  go_wp2_with fail
  refine (refLeC A C m hm.out _).mono ?_
  rintro e w9 ⟨rfl, hb⟩
  clear s_0 s_1 s_2 s_3 s_4 s_5 s_6 r_0 r_1 r_2 r_3 r_4 r_5 r_6 x_0 x_1 x_2 x_3 x_4 x_5 x_6 x_7 x_8 x_9 a_0 a_1 a_2 a_3 a_4 b_0 b_1 b_2 b_3 b_4 c_0 c_1 c_2 c_3 c_4
  have KS : SBox w9 w.heap.size (Sm.mk 3 st sk sp sx sy sz) := HS.out.later hb
  have KR : SBox w9 (w.heap.size + 1) (Sm.mk 3 st rk rp rx ry rz) := HR.out.later hb
  have KX : Box2 w9 (w.heap.size + 1 + 1) ((x, y)) := HX.out.later hb
  have KA : Box w9 w4.heap.size (A) := HA.out.later hb
  have KB : Box w9 w5.heap.size (B) := HB.out.later hb
  have KC : Box w9 w6.heap.size (C) := HC.out.later hb
  have G : Hid (Grow w w9) := hide (Grow.trans' G.out hb)
  clear hb HS HR HX HA HB HC
  have HS := hide KS
  have HR := hide KR
  have HX := hide KX
  have HA := hide KA
  have HB := hide KB
  have HC := hide KC
  obtain ⟨s_0, s_1, s_2, s_3, s_4, s_5, s_6⟩ := KS
  obtain ⟨r_0, r_1, r_2, r_3, r_4, r_5, r_6⟩ := KR
  obtain ⟨x_0, x_1, x_2, x_3, x_4, x_5, x_6, x_7, x_8, x_9⟩ := KX
  obtain ⟨a_0, a_1, a_2, a_3, a_4⟩ := KA
  obtain ⟨b_0, b_1, b_2, b_3, b_4⟩ := KB
  obtain ⟨c_0, c_1, c_2, c_3, c_4⟩ := KC
  go_wp2_with fail
  refine (sLeC (Sm.mk 3 st sk sp sx sy sz) (Sm.mk 3 st rk rp rx ry rz) false hl.out _).mono ?_
  rintro e w10 ⟨rfl, hb⟩
  clear s_0 s_1 s_2 s_3 s_4 s_5 s_6 r_0 r_1 r_2 r_3 r_4 r_5 r_6 x_0 x_1 x_2 x_3 x_4 x_5 x_6 x_7 x_8 x_9 a_0 a_1 a_2 a_3 a_4 b_0 b_1 b_2 b_3 b_4 c_0 c_1 c_2 c_3 c_4
  have KS : SBox w10 w.heap.size (Sm.mk 3 st sk sp sx sy sz) := HS.out.later hb
  have KR : SBox w10 (w.heap.size + 1) (Sm.mk 3 st rk rp rx ry rz) := HR.out.later hb
  have KX : Box2 w10 (w.heap.size + 1 + 1) ((x, y)) := HX.out.later hb
  have KA : Box w10 w4.heap.size (A) := HA.out.later hb
  have KB : Box w10 w5.heap.size (B) := HB.out.later hb
  have KC : Box w10 w6.heap.size (C) := HC.out.later hb
  have G : Hid (Grow w w10) := hide (Grow.trans' G.out hb)
  clear hb HS HR HX HA HB HC
  have HS := hide KS
  have HR := hide KR
  have HX := hide KX
  have HA := hide KA
  have HB := hide KB
  have HC := hide KC
  obtain ⟨s_0, s_1, s_2, s_3, s_4, s_5, s_6⟩ := KS
  obtain ⟨r_0, r_1, r_2, r_3, r_4, r_5, r_6⟩ := KR
  obtain ⟨x_0, x_1, x_2, x_3, x_4, x_5, x_6, x_7, x_8, x_9⟩ := KX
  obtain ⟨a_0, a_1, a_2, a_3, a_4⟩ := KA
  obtain ⟨b_0, b_1, b_2, b_3, b_4⟩ := KB
  obtain ⟨c_0, c_1, c_2, c_3, c_4⟩ := KC
  go_wp2_with fail
  refine (sLeC (Sm.mk 3 st sk sp sx sy sz) (Sm.mk 3 st rk rp rx ry rz) false hl.out _).mono ?_
  rintro e w11 ⟨rfl, hb⟩
  clear s_0 s_1 s_2 s_3 s_4 s_5 s_6 r_0 r_1 r_2 r_3 r_4 r_5 r_6 x_0 x_1 x_2 x_3 x_4 x_5 x_6 x_7 x_8 x_9 a_0 a_1 a_2 a_3 a_4 b_0 b_1 b_2 b_3 b_4 c_0 c_1 c_2 c_3 c_4
  have KS : SBox w11 w.heap.size (Sm.mk 3 st sk sp sx sy sz) := HS.out.later hb
  have KR : SBox w11 (w.heap.size + 1) (Sm.mk 3 st rk rp rx ry rz) := HR.out.later hb
  have KX : Box2 w11 (w.heap.size + 1 + 1) ((x, y)) := HX.out.later hb
  have KA : Box w11 w4.heap.size (A) := HA.out.later hb
  have KB : Box w11 w5.heap.size (B) := HB.out.later hb
  have KC : Box w11 w6.heap.size (C) := HC.out.later hb
  have G : Hid (Grow w w11) := hide (Grow.trans' G.out hb)
  clear hb HS HR HX HA HB HC
  have z0 : w.heap.size < w11.heap.size := World.block_lt_of_cell? _ _ KS.1
  have z1 : w.heap.size + 1 < w11.heap.size := World.block_lt_of_cell? _ _ KR.1
  have HS := hide KS
  have HR := hide KR
  clear KA KB KC KX KR
  obtain ⟨s0, s1, s2, s3, s4, s5, s6⟩ := KS
  dsimp only at s0 s1 s2 s3 s4 s5 s6
  go_wp2_with fail
  repeat any_goals (first | (refine wp_loop_rounds 4 ?_; rw [rounds_succ]; go_wp2_with fail) | (rw [rounds_succ]; go_wp2_with fail))
  clear s0 s1 s2 s3 s4 s5 s6
  have KS : SBox ((w11.alloc (.cells #[.int .i64 0, .int .i64 3, .int .i64 500, .int .i64 500, .int .i64 500] 30)).alloc (.cells #[.int .i64 0, .int .i64 3, .int .i64 0, .int .i64 0, .int .i64 0] 30)) w.heap.size (Sm.mk 3 st sk sp sx sy sz) := (HS.out.later (Grow.alloc' _ _)).later (Grow.alloc' _ _)
  have KR : SBox ((w11.alloc (.cells #[.int .i64 0, .int .i64 3, .int .i64 500, .int .i64 500, .int .i64 500] 30)).alloc (.cells #[.int .i64 0, .int .i64 3, .int .i64 0, .int .i64 0, .int .i64 0] 30)) (w.heap.size + 1) (Sm.mk 3 st rk rp rx ry rz) := (HR.out.later (Grow.alloc' _ _)).later (Grow.alloc' _ _)
  have KT : Box ((w11.alloc (.cells #[.int .i64 0, .int .i64 3, .int .i64 500, .int .i64 500, .int .i64 500] 30)).alloc (.cells #[.int .i64 0, .int .i64 3, .int .i64 0, .int .i64 0, .int .i64 0] 30)) w11.heap.size (Tm.mk 0 3 500 500 500) := by simp [Box, go_sem]
  have KN : Box ((w11.alloc (.cells #[.int .i64 0, .int .i64 3, .int .i64 500, .int .i64 500, .int .i64 500] 30)).alloc (.cells #[.int .i64 0, .int .i64 3, .int .i64 0, .int .i64 0, .int .i64 0] 30)) (w11.heap.size + 1) (Tm.mk 0 3 0 0 0) := by simp [Box, go_sem]
  have G : Hid (Grow w ((w11.alloc (.cells #[.int .i64 0, .int .i64 3, .int .i64 500, .int .i64 500, .int .i64 500] 30)).alloc (.cells #[.int .i64 0, .int .i64 3, .int .i64 0, .int .i64 0, .int .i64 0] 30))) := hide (Grow.trans' (Grow.trans' G.out (Grow.alloc' _ _)) (Grow.alloc' _ _))
  clear HS HR
  have HS := hide KS
  have HR := hide KR
  have HT := hide KT
  have HN := hide KN
  obtain ⟨s_0, s_1, s_2, s_3, s_4, s_5, s_6⟩ := KS
  obtain ⟨r_0, r_1, r_2, r_3, r_4, r_5, r_6⟩ := KR
  obtain ⟨t_0, t_1, t_2, t_3, t_4⟩ := KT
  obtain ⟨n_0, n_1, n_2, n_3, n_4⟩ := KN
  go_wp2_with fail
  refine (apply_at (Sm.mk 3 st sk sp sx sy sz) (Tm.mk 0 3 500 500 500) P H hP.out hH.out _).mono ?_
  rintro e w12 ⟨rfl, hb⟩
  clear s_0 s_1 s_2 s_3 s_4 s_5 s_6 r_0 r_1 r_2 r_3 r_4 r_5 r_6 t_0 t_1 t_2 t_3 t_4 n_0 n_1 n_2 n_3 n_4
  have KS : SBox (w12.alloc (.cells #[.int .i64 (P).e, .int .i64 (P).d, .int .i64 (P).x, .int .i64 (P).y, .int .i64 (P).z] 30)) w.heap.size (Sm.mk 3 st sk sp sx sy sz) := (HS.out.later hb).later (Grow.alloc' _ _)
  have KR : SBox (w12.alloc (.cells #[.int .i64 (P).e, .int .i64 (P).d, .int .i64 (P).x, .int .i64 (P).y, .int .i64 (P).z] 30)) (w.heap.size + 1) (Sm.mk 3 st rk rp rx ry rz) := (HR.out.later hb).later (Grow.alloc' _ _)
  have KT : Box (w12.alloc (.cells #[.int .i64 (P).e, .int .i64 (P).d, .int .i64 (P).x, .int .i64 (P).y, .int .i64 (P).z] 30)) w11.heap.size (Tm.mk 0 3 500 500 500) := (HT.out.later hb).later (Grow.alloc' _ _)
  have KN : Box (w12.alloc (.cells #[.int .i64 (P).e, .int .i64 (P).d, .int .i64 (P).x, .int .i64 (P).y, .int .i64 (P).z] 30)) (w11.heap.size + 1) (Tm.mk 0 3 0 0 0) := (HN.out.later hb).later (Grow.alloc' _ _)
  have KP : Box (w12.alloc (.cells #[.int .i64 (P).e, .int .i64 (P).d, .int .i64 (P).x, .int .i64 (P).y, .int .i64 (P).z] 30)) w12.heap.size (P) := Box.new _ _
  have G : Hid (Grow w (w12.alloc (.cells #[.int .i64 (P).e, .int .i64 (P).d, .int .i64 (P).x, .int .i64 (P).y, .int .i64 (P).z] 30))) := hide (Grow.trans' (Grow.trans' G.out hb) (Grow.alloc' _ _))
  clear hb HS HR HT HN
  have HS := hide KS
  have HR := hide KR
  have HT := hide KT
  have HN := hide KN
  have HP := hide KP
  obtain ⟨s_0, s_1, s_2, s_3, s_4, s_5, s_6⟩ := KS
  obtain ⟨r_0, r_1, r_2, r_3, r_4, r_5, r_6⟩ := KR
  obtain ⟨t_0, t_1, t_2, t_3, t_4⟩ := KT
  obtain ⟨n_0, n_1, n_2, n_3, n_4⟩ := KN
  obtain ⟨p_0, p_1, p_2, p_3, p_4⟩ := KP
  go_wp2_with fail
  refine (apply_at (Sm.mk 3 st rk rp rx ry rz) (Tm.mk 0 3 500 500 500) Q K hQ.out hK.out _).mono ?_
  rintro e w13 ⟨rfl, hb⟩
  clear s_0 s_1 s_2 s_3 s_4 s_5 s_6 r_0 r_1 r_2 r_3 r_4 r_5 r_6 t_0 t_1 t_2 t_3 t_4 n_0 n_1 n_2 n_3 n_4 p_0 p_1 p_2 p_3 p_4
  have KS : SBox (w13.alloc (.cells #[.int .i64 (Q).e, .int .i64 (Q).d, .int .i64 (Q).x, .int .i64 (Q).y, .int .i64 (Q).z] 30)) w.heap.size (Sm.mk 3 st sk sp sx sy sz) := (HS.out.later hb).later (Grow.alloc' _ _)
  have KR : SBox (w13.alloc (.cells #[.int .i64 (Q).e, .int .i64 (Q).d, .int .i64 (Q).x, .int .i64 (Q).y, .int .i64 (Q).z] 30)) (w.heap.size + 1) (Sm.mk 3 st rk rp rx ry rz) := (HR.out.later hb).later (Grow.alloc' _ _)
  have KT : Box (w13.alloc (.cells #[.int .i64 (Q).e, .int .i64 (Q).d, .int .i64 (Q).x, .int .i64 (Q).y, .int .i64 (Q).z] 30)) w11.heap.size (Tm.mk 0 3 500 500 500) := (HT.out.later hb).later (Grow.alloc' _ _)
  have KN : Box (w13.alloc (.cells #[.int .i64 (Q).e, .int .i64 (Q).d, .int .i64 (Q).x, .int .i64 (Q).y, .int .i64 (Q).z] 30)) (w11.heap.size + 1) (Tm.mk 0 3 0 0 0) := (HN.out.later hb).later (Grow.alloc' _ _)
  have KP : Box (w13.alloc (.cells #[.int .i64 (Q).e, .int .i64 (Q).d, .int .i64 (Q).x, .int .i64 (Q).y, .int .i64 (Q).z] 30)) w12.heap.size (P) := (HP.out.later hb).later (Grow.alloc' _ _)
  have KQ : Box (w13.alloc (.cells #[.int .i64 (Q).e, .int .i64 (Q).d, .int .i64 (Q).x, .int .i64 (Q).y, .int .i64 (Q).z] 30)) w13.heap.size (Q) := Box.new _ _
  have G : Hid (Grow w (w13.alloc (.cells #[.int .i64 (Q).e, .int .i64 (Q).d, .int .i64 (Q).x, .int .i64 (Q).y, .int .i64 (Q).z] 30))) := hide (Grow.trans' (Grow.trans' G.out hb) (Grow.alloc' _ _))
  clear hb HS HR HT HN HP
  have HS := hide KS
  have HR := hide KR
  have HT := hide KT
  have HN := hide KN
  have HP := hide KP
  have HQ := hide KQ
  obtain ⟨s_0, s_1, s_2, s_3, s_4, s_5, s_6⟩ := KS
  obtain ⟨r_0, r_1, r_2, r_3, r_4, r_5, r_6⟩ := KR
  obtain ⟨t_0, t_1, t_2, t_3, t_4⟩ := KT
  obtain ⟨n_0, n_1, n_2, n_3, n_4⟩ := KN
  obtain ⟨p_0, p_1, p_2, p_3, p_4⟩ := KP
  obtain ⟨q_0, q_1, q_2, q_3, q_4⟩ := KQ
  go_wp2_with fail
  refine (apply_at (Sm.mk 3 st sk sp sx sy sz) (Tm.mk 0 3 0 0 0) U 0 hU.out hUE.out _).mono ?_
  rintro e w14 ⟨rfl, hb⟩
  clear s_0 s_1 s_2 s_3 s_4 s_5 s_6 r_0 r_1 r_2 r_3 r_4 r_5 r_6 t_0 t_1 t_2 t_3 t_4 n_0 n_1 n_2 n_3 n_4 p_0 p_1 p_2 p_3 p_4 q_0 q_1 q_2 q_3 q_4
  have KS : SBox (w14.alloc (.cells #[.int .i64 (U).e, .int .i64 (U).d, .int .i64 (U).x, .int .i64 (U).y, .int .i64 (U).z] 30)) w.heap.size (Sm.mk 3 st sk sp sx sy sz) := (HS.out.later hb).later (Grow.alloc' _ _)
  have KR : SBox (w14.alloc (.cells #[.int .i64 (U).e, .int .i64 (U).d, .int .i64 (U).x, .int .i64 (U).y, .int .i64 (U).z] 30)) (w.heap.size + 1) (Sm.mk 3 st rk rp rx ry rz) := (HR.out.later hb).later (Grow.alloc' _ _)
  have KT : Box (w14.alloc (.cells #[.int .i64 (U).e, .int .i64 (U).d, .int .i64 (U).x, .int .i64 (U).y, .int .i64 (U).z] 30)) w11.heap.size (Tm.mk 0 3 500 500 500) := (HT.out.later hb).later (Grow.alloc' _ _)
  have KN : Box (w14.alloc (.cells #[.int .i64 (U).e, .int .i64 (U).d, .int .i64 (U).x, .int .i64 (U).y, .int .i64 (U).z] 30)) (w11.heap.size + 1) (Tm.mk 0 3 0 0 0) := (HN.out.later hb).later (Grow.alloc' _ _)
  have KP : Box (w14.alloc (.cells #[.int .i64 (U).e, .int .i64 (U).d, .int .i64 (U).x, .int .i64 (U).y, .int .i64 (U).z] 30)) w12.heap.size (P) := (HP.out.later hb).later (Grow.alloc' _ _)
  have KQ : Box (w14.alloc (.cells #[.int .i64 (U).e, .int .i64 (U).d, .int .i64 (U).x, .int .i64 (U).y, .int .i64 (U).z] 30)) w13.heap.size (Q) := (HQ.out.later hb).later (Grow.alloc' _ _)
  have KU : Box (w14.alloc (.cells #[.int .i64 (U).e, .int .i64 (U).d, .int .i64 (U).x, .int .i64 (U).y, .int .i64 (U).z] 30)) w14.heap.size (U) := Box.new _ _
  have G : Hid (Grow w (w14.alloc (.cells #[.int .i64 (U).e, .int .i64 (U).d, .int .i64 (U).x, .int .i64 (U).y, .int .i64 (U).z] 30))) := hide (Grow.trans' (Grow.trans' G.out hb) (Grow.alloc' _ _))
  clear hb HS HR HT HN HP HQ
  have HS := hide KS
  have HR := hide KR
  have HT := hide KT
  have HN := hide KN
  have HP := hide KP
  have HQ := hide KQ
  have HU := hide KU
  obtain ⟨s_0, s_1, s_2, s_3, s_4, s_5, s_6⟩ := KS
  obtain ⟨r_0, r_1, r_2, r_3, r_4, r_5, r_6⟩ := KR
  obtain ⟨t_0, t_1, t_2, t_3, t_4⟩ := KT
  obtain ⟨n_0, n_1, n_2, n_3, n_4⟩ := KN
  obtain ⟨p_0, p_1, p_2, p_3, p_4⟩ := KP
  obtain ⟨q_0, q_1, q_2, q_3, q_4⟩ := KQ
  obtain ⟨u_0, u_1, u_2, u_3, u_4⟩ := KU
  go_wp2_with fail
  refine (apply_at (Sm.mk 3 st rk rp rx ry rz) (Tm.mk 0 3 0 0 0) V 0 hV.out hVE.out _).mono ?_
  rintro e w15 ⟨rfl, hb⟩
  clear s_0 s_1 s_2 s_3 s_4 s_5 s_6 r_0 r_1 r_2 r_3 r_4 r_5 r_6 t_0 t_1 t_2 t_3 t_4 n_0 n_1 n_2 n_3 n_4 p_0 p_1 p_2 p_3 p_4 q_0 q_1 q_2 q_3 q_4 u_0 u_1 u_2 u_3 u_4
  have KS : SBox (w15.alloc (.cells #[.int .i64 (V).e, .int .i64 (V).d, .int .i64 (V).x, .int .i64 (V).y, .int .i64 (V).z] 30)) w.heap.size (Sm.mk 3 st sk sp sx sy sz) := (HS.out.later hb).later (Grow.alloc' _ _)
  have KR : SBox (w15.alloc (.cells #[.int .i64 (V).e, .int .i64 (V).d, .int .i64 (V).x, .int .i64 (V).y, .int .i64 (V).z] 30)) (w.heap.size + 1) (Sm.mk 3 st rk rp rx ry rz) := (HR.out.later hb).later (Grow.alloc' _ _)
  have KT : Box (w15.alloc (.cells #[.int .i64 (V).e, .int .i64 (V).d, .int .i64 (V).x, .int .i64 (V).y, .int .i64 (V).z] 30)) w11.heap.size (Tm.mk 0 3 500 500 500) := (HT.out.later hb).later (Grow.alloc' _ _)
  have KN : Box (w15.alloc (.cells #[.int .i64 (V).e, .int .i64 (V).d, .int .i64 (V).x, .int .i64 (V).y, .int .i64 (V).z] 30)) (w11.heap.size + 1) (Tm.mk 0 3 0 0 0) := (HN.out.later hb).later (Grow.alloc' _ _)
  have KP : Box (w15.alloc (.cells #[.int .i64 (V).e, .int .i64 (V).d, .int .i64 (V).x, .int .i64 (V).y, .int .i64 (V).z] 30)) w12.heap.size (P) := (HP.out.later hb).later (Grow.alloc' _ _)
  have KQ : Box (w15.alloc (.cells #[.int .i64 (V).e, .int .i64 (V).d, .int .i64 (V).x, .int .i64 (V).y, .int .i64 (V).z] 30)) w13.heap.size (Q) := (HQ.out.later hb).later (Grow.alloc' _ _)
  have KU : Box (w15.alloc (.cells #[.int .i64 (V).e, .int .i64 (V).d, .int .i64 (V).x, .int .i64 (V).y, .int .i64 (V).z] 30)) w14.heap.size (U) := (HU.out.later hb).later (Grow.alloc' _ _)
  have KV : Box (w15.alloc (.cells #[.int .i64 (V).e, .int .i64 (V).d, .int .i64 (V).x, .int .i64 (V).y, .int .i64 (V).z] 30)) w15.heap.size (V) := Box.new _ _
  have G : Hid (Grow w (w15.alloc (.cells #[.int .i64 (V).e, .int .i64 (V).d, .int .i64 (V).x, .int .i64 (V).y, .int .i64 (V).z] 30))) := hide (Grow.trans' (Grow.trans' G.out hb) (Grow.alloc' _ _))
  clear hb HS HR HT HN HP HQ HU
  have HS := hide KS
  have HR := hide KR
  have HT := hide KT
  have HN := hide KN
  have HP := hide KP
  have HQ := hide KQ
  have HU := hide KU
  have HV := hide KV
  obtain ⟨s_0, s_1, s_2, s_3, s_4, s_5, s_6⟩ := KS
  obtain ⟨r_0, r_1, r_2, r_3, r_4, r_5, r_6⟩ := KR
  obtain ⟨t_0, t_1, t_2, t_3, t_4⟩ := KT
  obtain ⟨n_0, n_1, n_2, n_3, n_4⟩ := KN
  obtain ⟨p_0, p_1, p_2, p_3, p_4⟩ := KP
  obtain ⟨q_0, q_1, q_2, q_3, q_4⟩ := KQ
  obtain ⟨u_0, u_1, u_2, u_3, u_4⟩ := KU
  obtain ⟨v_0, v_1, v_2, v_3, v_4⟩ := KV
  go_wp2_with fail
  refine (refLeC P Q one h1o.out _).mono ?_
  rintro e w16 ⟨rfl, hb⟩
  clear s_0 s_1 s_2 s_3 s_4 s_5 s_6 r_0 r_1 r_2 r_3 r_4 r_5 r_6 t_0 t_1 t_2 t_3 t_4 n_0 n_1 n_2 n_3 n_4 p_0 p_1 p_2 p_3 p_4 q_0 q_1 q_2 q_3 q_4 u_0 u_1 u_2 u_3 u_4 v_0 v_1 v_2 v_3 v_4
  have KS : SBox w16 w.heap.size (Sm.mk 3 st sk sp sx sy sz) := HS.out.later hb
  have KR : SBox w16 (w.heap.size + 1) (Sm.mk 3 st rk rp rx ry rz) := HR.out.later hb
  have KT : Box w16 w11.heap.size (Tm.mk 0 3 500 500 500) := HT.out.later hb
  have KN : Box w16 (w11.heap.size + 1) (Tm.mk 0 3 0 0 0) := HN.out.later hb
  have KP : Box w16 w12.heap.size (P) := HP.out.later hb
  have KQ : Box w16 w13.heap.size (Q) := HQ.out.later hb
  have KU : Box w16 w14.heap.size (U) := HU.out.later hb
  have KV : Box w16 w15.heap.size (V) := HV.out.later hb
  have G : Hid (Grow w w16) := hide (Grow.trans' G.out hb)
  clear hb HS HR HT HN HP HQ HU HV
  have HS := hide KS
  have HR := hide KR
  have HT := hide KT
  have HN := hide KN
  have HP := hide KP
  have HQ := hide KQ
  have HU := hide KU
  have HV := hide KV
  obtain ⟨s_0, s_1, s_2, s_3, s_4, s_5, s_6⟩ := KS
  obtain ⟨r_0, r_1, r_2, r_3, r_4, r_5, r_6⟩ := KR
  obtain ⟨t_0, t_1, t_2, t_3, t_4⟩ := KT
  obtain ⟨n_0, n_1, n_2, n_3, n_4⟩ := KN
  obtain ⟨p_0, p_1, p_2, p_3, p_4⟩ := KP
  obtain ⟨q_0, q_1, q_2, q_3, q_4⟩ := KQ
  obtain ⟨u_0, u_1, u_2, u_3, u_4⟩ := KU
  obtain ⟨v_0, v_1, v_2, v_3, v_4⟩ := KV
  go_wp2_with fail
  refine (refLeC U V two h2o.out _).mono ?_
  rintro e w17 ⟨rfl, hb⟩
  clear s_0 s_1 s_2 s_3 s_4 s_5 s_6 r_0 r_1 r_2 r_3 r_4 r_5 r_6 t_0 t_1 t_2 t_3 t_4 n_0 n_1 n_2 n_3 n_4 p_0 p_1 p_2 p_3 p_4 q_0 q_1 q_2 q_3 q_4 u_0 u_1 u_2 u_3 u_4 v_0 v_1 v_2 v_3 v_4
  have KS : SBox w17 w.heap.size (Sm.mk 3 st sk sp sx sy sz) := HS.out.later hb
  have KR : SBox w17 (w.heap.size + 1) (Sm.mk 3 st rk rp rx ry rz) := HR.out.later hb
  have KT : Box w17 w11.heap.size (Tm.mk 0 3 500 500 500) := HT.out.later hb
  have KN : Box w17 (w11.heap.size + 1) (Tm.mk 0 3 0 0 0) := HN.out.later hb
  have KP : Box w17 w12.heap.size (P) := HP.out.later hb
  have KQ : Box w17 w13.heap.size (Q) := HQ.out.later hb
  have KU : Box w17 w14.heap.size (U) := HU.out.later hb
  have KV : Box w17 w15.heap.size (V) := HV.out.later hb
  have G : Hid (Grow w w17) := hide (Grow.trans' G.out hb)
  clear hb HS HR HT HN HP HQ HU HV
  clear KS KT KN KP KQ KU KV
  obtain ⟨r0, r1, r2, r3, r4, r5, r6⟩ := KR
  dsimp only at r0 r1 r2 r3 r4 r5 r6
  cases two
  · go_wp2_with fail
    go_ret
    exact ⟨rfl, G.out⟩
  by_cases eH : H = 0
  rotate_left
  · go_wp2_with fail
    go_ret
    exact ⟨rfl, G.out⟩
  by_cases eK : K = 0
  rotate_left
  · subst eH
    go_wp2_with fail
    go_ret
    exact ⟨rfl, G.out⟩
  subst eH eK
  cases one
  · go_wp2_with fail
    go_ret
    exact ⟨rfl, G.out⟩
  · have HI : Hid (highS (Sm.mk 3 st rk rp rx ry rz) = true) := hide (hhi.out rfl rfl rfl rfl)
    clear hhi
    go_wp2_with fail
    refine (highC (Sm.mk 3 st rk rp rx ry rz) true HI.out _).mono ?_
    rintro e w30 ⟨rfl, hb⟩
    have G := hide (Grow.trans' G.out hb)
    clear r0 r1 r2 r3 r4 r5 r6 hb
    go_wp2
    go_ret
    exact ⟨rfl, G.out⟩
set_option maxHeartbeats 4000000 in
set_option maxRecDepth 100000 in
theorem SummaryLess_3_3 (st sk sp sx sy sz rk rp rx ry rz : Int) (x y : Tm) (A B C : Tm) (E F L : Int) (p m : Bool) (w : World) (h1 : Hid (mayS (Sm.mk 3 st sk sp sx sy sz) = true)) (h2 : Hid (mayS (Sm.mk 3 st rk rp rx ry rz) = true)) (hA : Hid (applyT (Sm.mk 3 st sk sp sx sy sz) x = A)) (hE : Hid (applyE (Sm.mk 3 st sk sp sx sy sz) x = 0)) (hB : Hid (applyT (Sm.mk 3 st rk rp rx ry rz) x = B)) (hF : Hid (applyE (Sm.mk 3 st rk rp rx ry rz) x = F)) (hC : Hid (applyT (Sm.mk 3 st sk sp sx sy sz) y = C)) (hL : Hid (applyE (Sm.mk 3 st sk sp sx sy sz) y = L)) (hp : Hid (leB A B = p)) (hu : Hid (leB x y = true)) (hm : Hid (leB A C = m)) (hl : Hid (leS (Sm.mk 3 st sk sp sx sy sz) (Sm.mk 3 st rk rp rx ry rz) = false)) (k1 : ¬ L = 0) (P Q U V : Tm) (H K : Int) (one two : Bool) (hP : Hid (applyT (Sm.mk 3 st sk sp sx sy sz) (Tm.mk 0 3 500 500 500) = P)) (hH : Hid (applyE (Sm.mk 3 st sk sp sx sy sz) (Tm.mk 0 3 500 500 500) = H)) (hQ : Hid (applyT (Sm.mk 3 st rk rp rx ry rz) (Tm.mk 0 3 500 500 500) = Q)) (hK : Hid (applyE (Sm.mk 3 st rk rp rx ry rz) (Tm.mk 0 3 500 500 500) = K)) (hU : Hid (applyT (Sm.mk 3 st sk sp sx sy sz) (Tm.mk 0 3 0 0 0) = U)) (hUE : Hid (applyE (Sm.mk 3 st sk sp sx sy sz) (Tm.mk 0 3 0 0 0) = 0)) (hV : Hid (applyT (Sm.mk 3 st rk rp rx ry rz) (Tm.mk 0 3 0 0 0) = V)) (hVE : Hid (applyE (Sm.mk 3 st rk rp rx ry rz) (Tm.mk 0 3 0 0 0) = 0)) (h1o : Hid (leB P Q = one)) (h2o : Hid (leB U V = two)) (hhi : Hid (two = true → H = 0 → K = 0 → one = true → highS (Sm.mk 3 st rk rp rx ry rz) = true)) :
    Calls Try.prog 7 #[.agg #[.int .i64 (Sm.mk 3 st sk sp sx sy sz).f, .int .i64 (Sm.mk 3 st sk sp sx sy sz).t, .int .i64 (Sm.mk 3 st sk sp sx sy sz).k, .int .i64 (Sm.mk 3 st sk sp sx sy sz).ep, .int .i64 (Sm.mk 3 st sk sp sx sy sz).x, .int .i64 (Sm.mk 3 st sk sp sx sy sz).y, .int .i64 (Sm.mk 3 st sk sp sx sy sz).z], .agg #[.int .i64 (Sm.mk 3 st rk rp rx ry rz).f, .int .i64 (Sm.mk 3 st rk rp rx ry rz).t, .int .i64 (Sm.mk 3 st rk rp rx ry rz).k, .int .i64 (Sm.mk 3 st rk rp rx ry rz).ep, .int .i64 (Sm.mk 3 st rk rp rx ry rz).x, .int .i64 (Sm.mk 3 st rk rp rx ry rz).y, .int .i64 (Sm.mk 3 st rk rp rx ry rz).z], .agg #[.int .i64 x.e, .int .i64 x.d, .int .i64 x.x, .int .i64 x.y, .int .i64 x.z, .int .i64 y.e, .int .i64 y.d, .int .i64 y.x, .int .i64 y.y, .int .i64 y.z]] w fun e w' => e = .returned (.bool true) ∧ Below w.heap.size w w' := by
  go_enter Try.func7, Try.ntmps7
  have KS : SBox (((w.alloc (.cells #[.int .i64 (Sm.mk 3 st sk sp sx sy sz).f, .int .i64 (Sm.mk 3 st sk sp sx sy sz).t, .int .i64 (Sm.mk 3 st sk sp sx sy sz).k, .int .i64 (Sm.mk 3 st sk sp sx sy sz).ep, .int .i64 (Sm.mk 3 st sk sp sx sy sz).x, .int .i64 (Sm.mk 3 st sk sp sx sy sz).y, .int .i64 (Sm.mk 3 st sk sp sx sy sz).z] 24)).alloc (.cells #[.int .i64 (Sm.mk 3 st rk rp rx ry rz).f, .int .i64 (Sm.mk 3 st rk rp rx ry rz).t, .int .i64 (Sm.mk 3 st rk rp rx ry rz).k, .int .i64 (Sm.mk 3 st rk rp rx ry rz).ep, .int .i64 (Sm.mk 3 st rk rp rx ry rz).x, .int .i64 (Sm.mk 3 st rk rp rx ry rz).y, .int .i64 (Sm.mk 3 st rk rp rx ry rz).z] 24)).alloc (.cells #[.int .i64 x.e, .int .i64 x.d, .int .i64 x.x, .int .i64 x.y, .int .i64 x.z, .int .i64 y.e, .int .i64 y.d, .int .i64 y.x, .int .i64 y.y, .int .i64 y.z] 39)) w.heap.size (Sm.mk 3 st sk sp sx sy sz) := by simp [SBox, go_sem]
  have KR : SBox (((w.alloc (.cells #[.int .i64 (Sm.mk 3 st sk sp sx sy sz).f, .int .i64 (Sm.mk 3 st sk sp sx sy sz).t, .int .i64 (Sm.mk 3 st sk sp sx sy sz).k, .int .i64 (Sm.mk 3 st sk sp sx sy sz).ep, .int .i64 (Sm.mk 3 st sk sp sx sy sz).x, .int .i64 (Sm.mk 3 st sk sp sx sy sz).y, .int .i64 (Sm.mk 3 st sk sp sx sy sz).z] 24)).alloc (.cells #[.int .i64 (Sm.mk 3 st rk rp rx ry rz).f, .int .i64 (Sm.mk 3 st rk rp rx ry rz).t, .int .i64 (Sm.mk 3 st rk rp rx ry rz).k, .int .i64 (Sm.mk 3 st rk rp rx ry rz).ep, .int .i64 (Sm.mk 3 st rk rp rx ry rz).x, .int .i64 (Sm.mk 3 st rk rp rx ry rz).y, .int .i64 (Sm.mk 3 st rk rp rx ry rz).z] 24)).alloc (.cells #[.int .i64 x.e, .int .i64 x.d, .int .i64 x.x, .int .i64 x.y, .int .i64 x.z, .int .i64 y.e, .int .i64 y.d, .int .i64 y.x, .int .i64 y.y, .int .i64 y.z] 39)) (w.heap.size + 1) (Sm.mk 3 st rk rp rx ry rz) := by simp [SBox, go_sem]
  have KX : Box2 (((w.alloc (.cells #[.int .i64 (Sm.mk 3 st sk sp sx sy sz).f, .int .i64 (Sm.mk 3 st sk sp sx sy sz).t, .int .i64 (Sm.mk 3 st sk sp sx sy sz).k, .int .i64 (Sm.mk 3 st sk sp sx sy sz).ep, .int .i64 (Sm.mk 3 st sk sp sx sy sz).x, .int .i64 (Sm.mk 3 st sk sp sx sy sz).y, .int .i64 (Sm.mk 3 st sk sp sx sy sz).z] 24)).alloc (.cells #[.int .i64 (Sm.mk 3 st rk rp rx ry rz).f, .int .i64 (Sm.mk 3 st rk rp rx ry rz).t, .int .i64 (Sm.mk 3 st rk rp rx ry rz).k, .int .i64 (Sm.mk 3 st rk rp rx ry rz).ep, .int .i64 (Sm.mk 3 st rk rp rx ry rz).x, .int .i64 (Sm.mk 3 st rk rp rx ry rz).y, .int .i64 (Sm.mk 3 st rk rp rx ry rz).z] 24)).alloc (.cells #[.int .i64 x.e, .int .i64 x.d, .int .i64 x.x, .int .i64 x.y, .int .i64 x.z, .int .i64 y.e, .int .i64 y.d, .int .i64 y.x, .int .i64 y.y, .int .i64 y.z] 39)) (w.heap.size + 1 + 1) (x, y) := by simp [Box2, go_sem]
  have G : Hid (Grow w (((w.alloc (.cells #[.int .i64 (Sm.mk 3 st sk sp sx sy sz).f, .int .i64 (Sm.mk 3 st sk sp sx sy sz).t, .int .i64 (Sm.mk 3 st sk sp sx sy sz).k, .int .i64 (Sm.mk 3 st sk sp sx sy sz).ep, .int .i64 (Sm.mk 3 st sk sp sx sy sz).x, .int .i64 (Sm.mk 3 st sk sp sx sy sz).y, .int .i64 (Sm.mk 3 st sk sp sx sy sz).z] 24)).alloc (.cells #[.int .i64 (Sm.mk 3 st rk rp rx ry rz).f, .int .i64 (Sm.mk 3 st rk rp rx ry rz).t, .int .i64 (Sm.mk 3 st rk rp rx ry rz).k, .int .i64 (Sm.mk 3 st rk rp rx ry rz).ep, .int .i64 (Sm.mk 3 st rk rp rx ry rz).x, .int .i64 (Sm.mk 3 st rk rp rx ry rz).y, .int .i64 (Sm.mk 3 st rk rp rx ry rz).z] 24)).alloc (.cells #[.int .i64 x.e, .int .i64 x.d, .int .i64 x.x, .int .i64 x.y, .int .i64 x.z, .int .i64 y.e, .int .i64 y.d, .int .i64 y.x, .int .i64 y.y, .int .i64 y.z] 39))) := hide (Grow.trans' (Grow.trans' (Grow.alloc' _ _) (Grow.alloc' _ _)) (Grow.alloc' _ _))
  have HS := hide KS
  have HR := hide KR
  have HX := hide KX
  obtain ⟨s_0, s_1, s_2, s_3, s_4, s_5, s_6⟩ := KS
  obtain ⟨r_0, r_1, r_2, r_3, r_4, r_5, r_6⟩ := KR
  obtain ⟨x_0, x_1, x_2, x_3, x_4, x_5, x_6, x_7, x_8, x_9⟩ := KX
  go_wp2_with fail
  refine (shown_any _).mono ?_
  rintro e w1 ⟨rfl, hb⟩
  clear s_0 s_1 s_2 s_3 s_4 s_5 s_6 r_0 r_1 r_2 r_3 r_4 r_5 r_6 x_0 x_1 x_2 x_3 x_4 x_5 x_6 x_7 x_8 x_9
  have KS : SBox w1 w.heap.size (Sm.mk 3 st sk sp sx sy sz) := HS.out.later hb
  have KR : SBox w1 (w.heap.size + 1) (Sm.mk 3 st rk rp rx ry rz) := HR.out.later hb
  have KX : Box2 w1 (w.heap.size + 1 + 1) ((x, y)) := HX.out.later hb
  have G : Hid (Grow w w1) := hide (Grow.trans' G.out hb)
  clear hb HS HR HX
  have HS := hide KS
  have HR := hide KR
  have HX := hide KX
  obtain ⟨s_0, s_1, s_2, s_3, s_4, s_5, s_6⟩ := KS
  obtain ⟨r_0, r_1, r_2, r_3, r_4, r_5, r_6⟩ := KR
  obtain ⟨x_0, x_1, x_2, x_3, x_4, x_5, x_6, x_7, x_8, x_9⟩ := KX
  go_wp2_with fail
  refine (sMayC (Sm.mk 3 st sk sp sx sy sz) true h1.out _).mono ?_
  rintro e w2 ⟨rfl, hb⟩
  clear s_0 s_1 s_2 s_3 s_4 s_5 s_6 r_0 r_1 r_2 r_3 r_4 r_5 r_6 x_0 x_1 x_2 x_3 x_4 x_5 x_6 x_7 x_8 x_9
  have KS : SBox w2 w.heap.size (Sm.mk 3 st sk sp sx sy sz) := HS.out.later hb
  have KR : SBox w2 (w.heap.size + 1) (Sm.mk 3 st rk rp rx ry rz) := HR.out.later hb
  have KX : Box2 w2 (w.heap.size + 1 + 1) ((x, y)) := HX.out.later hb
  have G : Hid (Grow w w2) := hide (Grow.trans' G.out hb)
  clear hb HS HR HX
  have HS := hide KS
  have HR := hide KR
  have HX := hide KX
  obtain ⟨s_0, s_1, s_2, s_3, s_4, s_5, s_6⟩ := KS
  obtain ⟨r_0, r_1, r_2, r_3, r_4, r_5, r_6⟩ := KR
  obtain ⟨x_0, x_1, x_2, x_3, x_4, x_5, x_6, x_7, x_8, x_9⟩ := KX
  go_wp2_with fail
  refine (sMayC (Sm.mk 3 st rk rp rx ry rz) true h2.out _).mono ?_
  rintro e w3 ⟨rfl, hb⟩
  clear s_0 s_1 s_2 s_3 s_4 s_5 s_6 r_0 r_1 r_2 r_3 r_4 r_5 r_6 x_0 x_1 x_2 x_3 x_4 x_5 x_6 x_7 x_8 x_9
  have KS : SBox w3 w.heap.size (Sm.mk 3 st sk sp sx sy sz) := HS.out.later hb
  have KR : SBox w3 (w.heap.size + 1) (Sm.mk 3 st rk rp rx ry rz) := HR.out.later hb
  have KX : Box2 w3 (w.heap.size + 1 + 1) ((x, y)) := HX.out.later hb
  have G : Hid (Grow w w3) := hide (Grow.trans' G.out hb)
  clear hb HS HR HX
  have HS := hide KS
  have HR := hide KR
  have HX := hide KX
  obtain ⟨s_0, s_1, s_2, s_3, s_4, s_5, s_6⟩ := KS
  obtain ⟨r_0, r_1, r_2, r_3, r_4, r_5, r_6⟩ := KR
  obtain ⟨x_0, x_1, x_2, x_3, x_4, x_5, x_6, x_7, x_8, x_9⟩ := KX
  go_wp2_with fail
  refine (apply_at (Sm.mk 3 st sk sp sx sy sz) x A 0 hA.out hE.out _).mono ?_
  rintro e w4 ⟨rfl, hb⟩
  clear s_0 s_1 s_2 s_3 s_4 s_5 s_6 r_0 r_1 r_2 r_3 r_4 r_5 r_6 x_0 x_1 x_2 x_3 x_4 x_5 x_6 x_7 x_8 x_9
  have KS : SBox (w4.alloc (.cells #[.int .i64 (A).e, .int .i64 (A).d, .int .i64 (A).x, .int .i64 (A).y, .int .i64 (A).z] 30)) w.heap.size (Sm.mk 3 st sk sp sx sy sz) := (HS.out.later hb).later (Grow.alloc' _ _)
  have KR : SBox (w4.alloc (.cells #[.int .i64 (A).e, .int .i64 (A).d, .int .i64 (A).x, .int .i64 (A).y, .int .i64 (A).z] 30)) (w.heap.size + 1) (Sm.mk 3 st rk rp rx ry rz) := (HR.out.later hb).later (Grow.alloc' _ _)
  have KX : Box2 (w4.alloc (.cells #[.int .i64 (A).e, .int .i64 (A).d, .int .i64 (A).x, .int .i64 (A).y, .int .i64 (A).z] 30)) (w.heap.size + 1 + 1) ((x, y)) := (HX.out.later hb).later (Grow.alloc' _ _)
  have KA : Box (w4.alloc (.cells #[.int .i64 (A).e, .int .i64 (A).d, .int .i64 (A).x, .int .i64 (A).y, .int .i64 (A).z] 30)) w4.heap.size (A) := Box.new _ _
  have G : Hid (Grow w (w4.alloc (.cells #[.int .i64 (A).e, .int .i64 (A).d, .int .i64 (A).x, .int .i64 (A).y, .int .i64 (A).z] 30))) := hide (Grow.trans' (Grow.trans' G.out hb) (Grow.alloc' _ _))
  clear hb HS HR HX
  have HS := hide KS
  have HR := hide KR
  have HX := hide KX
  have HA := hide KA
  obtain ⟨s_0, s_1, s_2, s_3, s_4, s_5, s_6⟩ := KS
  obtain ⟨r_0, r_1, r_2, r_3, r_4, r_5, r_6⟩ := KR
  obtain ⟨x_0, x_1, x_2, x_3, x_4, x_5, x_6, x_7, x_8, x_9⟩ := KX
  obtain ⟨a_0, a_1, a_2, a_3, a_4⟩ := KA
  go_wp2_with fail
  refine (apply_at (Sm.mk 3 st rk rp rx ry rz) x B F hB.out hF.out _).mono ?_
  rintro e w5 ⟨rfl, hb⟩
  clear s_0 s_1 s_2 s_3 s_4 s_5 s_6 r_0 r_1 r_2 r_3 r_4 r_5 r_6 x_0 x_1 x_2 x_3 x_4 x_5 x_6 x_7 x_8 x_9 a_0 a_1 a_2 a_3 a_4
  have KS : SBox (w5.alloc (.cells #[.int .i64 (B).e, .int .i64 (B).d, .int .i64 (B).x, .int .i64 (B).y, .int .i64 (B).z] 30)) w.heap.size (Sm.mk 3 st sk sp sx sy sz) := (HS.out.later hb).later (Grow.alloc' _ _)
  have KR : SBox (w5.alloc (.cells #[.int .i64 (B).e, .int .i64 (B).d, .int .i64 (B).x, .int .i64 (B).y, .int .i64 (B).z] 30)) (w.heap.size + 1) (Sm.mk 3 st rk rp rx ry rz) := (HR.out.later hb).later (Grow.alloc' _ _)
  have KX : Box2 (w5.alloc (.cells #[.int .i64 (B).e, .int .i64 (B).d, .int .i64 (B).x, .int .i64 (B).y, .int .i64 (B).z] 30)) (w.heap.size + 1 + 1) ((x, y)) := (HX.out.later hb).later (Grow.alloc' _ _)
  have KA : Box (w5.alloc (.cells #[.int .i64 (B).e, .int .i64 (B).d, .int .i64 (B).x, .int .i64 (B).y, .int .i64 (B).z] 30)) w4.heap.size (A) := (HA.out.later hb).later (Grow.alloc' _ _)
  have KB : Box (w5.alloc (.cells #[.int .i64 (B).e, .int .i64 (B).d, .int .i64 (B).x, .int .i64 (B).y, .int .i64 (B).z] 30)) w5.heap.size (B) := Box.new _ _
  have G : Hid (Grow w (w5.alloc (.cells #[.int .i64 (B).e, .int .i64 (B).d, .int .i64 (B).x, .int .i64 (B).y, .int .i64 (B).z] 30))) := hide (Grow.trans' (Grow.trans' G.out hb) (Grow.alloc' _ _))
  clear hb HS HR HX HA
  have HS := hide KS
  have HR := hide KR
  have HX := hide KX
  have HA := hide KA
  have HB := hide KB
  obtain ⟨s_0, s_1, s_2, s_3, s_4, s_5, s_6⟩ := KS
  obtain ⟨r_0, r_1, r_2, r_3, r_4, r_5, r_6⟩ := KR
  obtain ⟨x_0, x_1, x_2, x_3, x_4, x_5, x_6, x_7, x_8, x_9⟩ := KX
  obtain ⟨a_0, a_1, a_2, a_3, a_4⟩ := KA
  obtain ⟨b_0, b_1, b_2, b_3, b_4⟩ := KB
  go_wp2_with fail
  refine (apply_at (Sm.mk 3 st sk sp sx sy sz) y C L hC.out hL.out _).mono ?_
  rintro e w6 ⟨rfl, hb⟩
  clear s_0 s_1 s_2 s_3 s_4 s_5 s_6 r_0 r_1 r_2 r_3 r_4 r_5 r_6 x_0 x_1 x_2 x_3 x_4 x_5 x_6 x_7 x_8 x_9 a_0 a_1 a_2 a_3 a_4 b_0 b_1 b_2 b_3 b_4
  have KS : SBox (w6.alloc (.cells #[.int .i64 (C).e, .int .i64 (C).d, .int .i64 (C).x, .int .i64 (C).y, .int .i64 (C).z] 30)) w.heap.size (Sm.mk 3 st sk sp sx sy sz) := (HS.out.later hb).later (Grow.alloc' _ _)
  have KR : SBox (w6.alloc (.cells #[.int .i64 (C).e, .int .i64 (C).d, .int .i64 (C).x, .int .i64 (C).y, .int .i64 (C).z] 30)) (w.heap.size + 1) (Sm.mk 3 st rk rp rx ry rz) := (HR.out.later hb).later (Grow.alloc' _ _)
  have KX : Box2 (w6.alloc (.cells #[.int .i64 (C).e, .int .i64 (C).d, .int .i64 (C).x, .int .i64 (C).y, .int .i64 (C).z] 30)) (w.heap.size + 1 + 1) ((x, y)) := (HX.out.later hb).later (Grow.alloc' _ _)
  have KA : Box (w6.alloc (.cells #[.int .i64 (C).e, .int .i64 (C).d, .int .i64 (C).x, .int .i64 (C).y, .int .i64 (C).z] 30)) w4.heap.size (A) := (HA.out.later hb).later (Grow.alloc' _ _)
  have KB : Box (w6.alloc (.cells #[.int .i64 (C).e, .int .i64 (C).d, .int .i64 (C).x, .int .i64 (C).y, .int .i64 (C).z] 30)) w5.heap.size (B) := (HB.out.later hb).later (Grow.alloc' _ _)
  have KC : Box (w6.alloc (.cells #[.int .i64 (C).e, .int .i64 (C).d, .int .i64 (C).x, .int .i64 (C).y, .int .i64 (C).z] 30)) w6.heap.size (C) := Box.new _ _
  have G : Hid (Grow w (w6.alloc (.cells #[.int .i64 (C).e, .int .i64 (C).d, .int .i64 (C).x, .int .i64 (C).y, .int .i64 (C).z] 30))) := hide (Grow.trans' (Grow.trans' G.out hb) (Grow.alloc' _ _))
  clear hb HS HR HX HA HB
  have HS := hide KS
  have HR := hide KR
  have HX := hide KX
  have HA := hide KA
  have HB := hide KB
  have HC := hide KC
  obtain ⟨s_0, s_1, s_2, s_3, s_4, s_5, s_6⟩ := KS
  obtain ⟨r_0, r_1, r_2, r_3, r_4, r_5, r_6⟩ := KR
  obtain ⟨x_0, x_1, x_2, x_3, x_4, x_5, x_6, x_7, x_8, x_9⟩ := KX
  obtain ⟨a_0, a_1, a_2, a_3, a_4⟩ := KA
  obtain ⟨b_0, b_1, b_2, b_3, b_4⟩ := KB
  obtain ⟨c_0, c_1, c_2, c_3, c_4⟩ := KC
  go_wp2_with fail
  refine (refLeC A B p hp.out _).mono ?_
  rintro e w7 ⟨rfl, hb⟩
  clear s_0 s_1 s_2 s_3 s_4 s_5 s_6 r_0 r_1 r_2 r_3 r_4 r_5 r_6 x_0 x_1 x_2 x_3 x_4 x_5 x_6 x_7 x_8 x_9 a_0 a_1 a_2 a_3 a_4 b_0 b_1 b_2 b_3 b_4 c_0 c_1 c_2 c_3 c_4
  have KS : SBox w7 w.heap.size (Sm.mk 3 st sk sp sx sy sz) := HS.out.later hb
  have KR : SBox w7 (w.heap.size + 1) (Sm.mk 3 st rk rp rx ry rz) := HR.out.later hb
  have KX : Box2 w7 (w.heap.size + 1 + 1) ((x, y)) := HX.out.later hb
  have KA : Box w7 w4.heap.size (A) := HA.out.later hb
  have KB : Box w7 w5.heap.size (B) := HB.out.later hb
  have KC : Box w7 w6.heap.size (C) := HC.out.later hb
  have G : Hid (Grow w w7) := hide (Grow.trans' G.out hb)
  clear hb HS HR HX HA HB HC
  have HS := hide KS
  have HR := hide KR
  have HX := hide KX
  have HA := hide KA
  have HB := hide KB
  have HC := hide KC
  obtain ⟨s_0, s_1, s_2, s_3, s_4, s_5, s_6⟩ := KS
  obtain ⟨r_0, r_1, r_2, r_3, r_4, r_5, r_6⟩ := KR
  obtain ⟨x_0, x_1, x_2, x_3, x_4, x_5, x_6, x_7, x_8, x_9⟩ := KX
  obtain ⟨a_0, a_1, a_2, a_3, a_4⟩ := KA
  obtain ⟨b_0, b_1, b_2, b_3, b_4⟩ := KB
  obtain ⟨c_0, c_1, c_2, c_3, c_4⟩ := KC
  go_wp2_with fail
  refine (refLeC x y true hu.out _).mono ?_
  rintro e w8 ⟨rfl, hb⟩
  clear s_0 s_1 s_2 s_3 s_4 s_5 s_6 r_0 r_1 r_2 r_3 r_4 r_5 r_6 x_0 x_1 x_2 x_3 x_4 x_5 x_6 x_7 x_8 x_9 a_0 a_1 a_2 a_3 a_4 b_0 b_1 b_2 b_3 b_4 c_0 c_1 c_2 c_3 c_4
  have KS : SBox w8 w.heap.size (Sm.mk 3 st sk sp sx sy sz) := HS.out.later hb
  have KR : SBox w8 (w.heap.size + 1) (Sm.mk 3 st rk rp rx ry rz) := HR.out.later hb
  have KX : Box2 w8 (w.heap.size + 1 + 1) ((x, y)) := HX.out.later hb
  have KA : Box w8 w4.heap.size (A) := HA.out.later hb
  have KB : Box w8 w5.heap.size (B) := HB.out.later hb
  have KC : Box w8 w6.heap.size (C) := HC.out.later hb
  have G : Hid (Grow w w8) := hide (Grow.trans' G.out hb)
  clear hb HS HR HX HA HB HC
  have HS := hide KS
  have HR := hide KR
  have HX := hide KX
  have HA := hide KA
  have HB := hide KB
  have HC := hide KC
  obtain ⟨s_0, s_1, s_2, s_3, s_4, s_5, s_6⟩ := KS
  obtain ⟨r_0, r_1, r_2, r_3, r_4, r_5, r_6⟩ := KR
  obtain ⟨x_0, x_1, x_2, x_3, x_4, x_5, x_6, x_7, x_8, x_9⟩ := KX
  obtain ⟨a_0, a_1, a_2, a_3, a_4⟩ := KA
  obtain ⟨b_0, b_1, b_2, b_3, b_4⟩ := KB
  obtain ⟨c_0, c_1, c_2, c_3, c_4⟩ := KC
  go_wp2_with fail
  refine (refLeC A C m hm.out _).mono ?_
  rintro e w9 ⟨rfl, hb⟩
  clear s_0 s_1 s_2 s_3 s_4 s_5 s_6 r_0 r_1 r_2 r_3 r_4 r_5 r_6 x_0 x_1 x_2 x_3 x_4 x_5 x_6 x_7 x_8 x_9 a_0 a_1 a_2 a_3 a_4 b_0 b_1 b_2 b_3 b_4 c_0 c_1 c_2 c_3 c_4
  have KS : SBox w9 w.heap.size (Sm.mk 3 st sk sp sx sy sz) := HS.out.later hb
  have KR : SBox w9 (w.heap.size + 1) (Sm.mk 3 st rk rp rx ry rz) := HR.out.later hb
  have KX : Box2 w9 (w.heap.size + 1 + 1) ((x, y)) := HX.out.later hb
  have KA : Box w9 w4.heap.size (A) := HA.out.later hb
  have KB : Box w9 w5.heap.size (B) := HB.out.later hb
  have KC : Box w9 w6.heap.size (C) := HC.out.later hb
  have G : Hid (Grow w w9) := hide (Grow.trans' G.out hb)
  clear hb HS HR HX HA HB HC
  have HS := hide KS
  have HR := hide KR
  have HX := hide KX
  have HA := hide KA
  have HB := hide KB
  have HC := hide KC
  obtain ⟨s_0, s_1, s_2, s_3, s_4, s_5, s_6⟩ := KS
  obtain ⟨r_0, r_1, r_2, r_3, r_4, r_5, r_6⟩ := KR
  obtain ⟨x_0, x_1, x_2, x_3, x_4, x_5, x_6, x_7, x_8, x_9⟩ := KX
  obtain ⟨a_0, a_1, a_2, a_3, a_4⟩ := KA
  obtain ⟨b_0, b_1, b_2, b_3, b_4⟩ := KB
  obtain ⟨c_0, c_1, c_2, c_3, c_4⟩ := KC
  go_wp2_with fail
  refine (sLeC (Sm.mk 3 st sk sp sx sy sz) (Sm.mk 3 st rk rp rx ry rz) false hl.out _).mono ?_
  rintro e w10 ⟨rfl, hb⟩
  clear s_0 s_1 s_2 s_3 s_4 s_5 s_6 r_0 r_1 r_2 r_3 r_4 r_5 r_6 x_0 x_1 x_2 x_3 x_4 x_5 x_6 x_7 x_8 x_9 a_0 a_1 a_2 a_3 a_4 b_0 b_1 b_2 b_3 b_4 c_0 c_1 c_2 c_3 c_4
  have KS : SBox w10 w.heap.size (Sm.mk 3 st sk sp sx sy sz) := HS.out.later hb
  have KR : SBox w10 (w.heap.size + 1) (Sm.mk 3 st rk rp rx ry rz) := HR.out.later hb
  have KX : Box2 w10 (w.heap.size + 1 + 1) ((x, y)) := HX.out.later hb
  have KA : Box w10 w4.heap.size (A) := HA.out.later hb
  have KB : Box w10 w5.heap.size (B) := HB.out.later hb
  have KC : Box w10 w6.heap.size (C) := HC.out.later hb
  have G : Hid (Grow w w10) := hide (Grow.trans' G.out hb)
  clear hb HS HR HX HA HB HC
  have HS := hide KS
  have HR := hide KR
  have HX := hide KX
  have HA := hide KA
  have HB := hide KB
  have HC := hide KC
  obtain ⟨s_0, s_1, s_2, s_3, s_4, s_5, s_6⟩ := KS
  obtain ⟨r_0, r_1, r_2, r_3, r_4, r_5, r_6⟩ := KR
  obtain ⟨x_0, x_1, x_2, x_3, x_4, x_5, x_6, x_7, x_8, x_9⟩ := KX
  obtain ⟨a_0, a_1, a_2, a_3, a_4⟩ := KA
  obtain ⟨b_0, b_1, b_2, b_3, b_4⟩ := KB
  obtain ⟨c_0, c_1, c_2, c_3, c_4⟩ := KC
  go_wp2_with fail
  refine (sLeC (Sm.mk 3 st sk sp sx sy sz) (Sm.mk 3 st rk rp rx ry rz) false hl.out _).mono ?_
  rintro e w11 ⟨rfl, hb⟩
  clear s_0 s_1 s_2 s_3 s_4 s_5 s_6 r_0 r_1 r_2 r_3 r_4 r_5 r_6 x_0 x_1 x_2 x_3 x_4 x_5 x_6 x_7 x_8 x_9 a_0 a_1 a_2 a_3 a_4 b_0 b_1 b_2 b_3 b_4 c_0 c_1 c_2 c_3 c_4
  have KS : SBox w11 w.heap.size (Sm.mk 3 st sk sp sx sy sz) := HS.out.later hb
  have KR : SBox w11 (w.heap.size + 1) (Sm.mk 3 st rk rp rx ry rz) := HR.out.later hb
  have KX : Box2 w11 (w.heap.size + 1 + 1) ((x, y)) := HX.out.later hb
  have KA : Box w11 w4.heap.size (A) := HA.out.later hb
  have KB : Box w11 w5.heap.size (B) := HB.out.later hb
  have KC : Box w11 w6.heap.size (C) := HC.out.later hb
  have G : Hid (Grow w w11) := hide (Grow.trans' G.out hb)
  clear hb HS HR HX HA HB HC
  have z0 : w.heap.size < w11.heap.size := World.block_lt_of_cell? _ _ KS.1
  have z1 : w.heap.size + 1 < w11.heap.size := World.block_lt_of_cell? _ _ KR.1
  have HS := hide KS
  have HR := hide KR
  clear KA KB KC KX KR
  obtain ⟨s0, s1, s2, s3, s4, s5, s6⟩ := KS
  dsimp only at s0 s1 s2 s3 s4 s5 s6
  go_wp2_with fail
  repeat any_goals (first | (refine wp_loop_rounds 4 ?_; rw [rounds_succ]; go_wp2_with fail) | (rw [rounds_succ]; go_wp2_with fail))
  clear s0 s1 s2 s3 s4 s5 s6
  have KS : SBox ((w11.alloc (.cells #[.int .i64 0, .int .i64 3, .int .i64 500, .int .i64 500, .int .i64 500] 30)).alloc (.cells #[.int .i64 0, .int .i64 3, .int .i64 0, .int .i64 0, .int .i64 0] 30)) w.heap.size (Sm.mk 3 st sk sp sx sy sz) := (HS.out.later (Grow.alloc' _ _)).later (Grow.alloc' _ _)
  have KR : SBox ((w11.alloc (.cells #[.int .i64 0, .int .i64 3, .int .i64 500, .int .i64 500, .int .i64 500] 30)).alloc (.cells #[.int .i64 0, .int .i64 3, .int .i64 0, .int .i64 0, .int .i64 0] 30)) (w.heap.size + 1) (Sm.mk 3 st rk rp rx ry rz) := (HR.out.later (Grow.alloc' _ _)).later (Grow.alloc' _ _)
  have KT : Box ((w11.alloc (.cells #[.int .i64 0, .int .i64 3, .int .i64 500, .int .i64 500, .int .i64 500] 30)).alloc (.cells #[.int .i64 0, .int .i64 3, .int .i64 0, .int .i64 0, .int .i64 0] 30)) w11.heap.size (Tm.mk 0 3 500 500 500) := by simp [Box, go_sem]
  have KN : Box ((w11.alloc (.cells #[.int .i64 0, .int .i64 3, .int .i64 500, .int .i64 500, .int .i64 500] 30)).alloc (.cells #[.int .i64 0, .int .i64 3, .int .i64 0, .int .i64 0, .int .i64 0] 30)) (w11.heap.size + 1) (Tm.mk 0 3 0 0 0) := by simp [Box, go_sem]
  have G : Hid (Grow w ((w11.alloc (.cells #[.int .i64 0, .int .i64 3, .int .i64 500, .int .i64 500, .int .i64 500] 30)).alloc (.cells #[.int .i64 0, .int .i64 3, .int .i64 0, .int .i64 0, .int .i64 0] 30))) := hide (Grow.trans' (Grow.trans' G.out (Grow.alloc' _ _)) (Grow.alloc' _ _))
  clear HS HR
  have HS := hide KS
  have HR := hide KR
  have HT := hide KT
  have HN := hide KN
  obtain ⟨s_0, s_1, s_2, s_3, s_4, s_5, s_6⟩ := KS
  obtain ⟨r_0, r_1, r_2, r_3, r_4, r_5, r_6⟩ := KR
  obtain ⟨t_0, t_1, t_2, t_3, t_4⟩ := KT
  obtain ⟨n_0, n_1, n_2, n_3, n_4⟩ := KN
  go_wp2_with fail
  refine (apply_at (Sm.mk 3 st sk sp sx sy sz) (Tm.mk 0 3 500 500 500) P H hP.out hH.out _).mono ?_
  rintro e w12 ⟨rfl, hb⟩
  clear s_0 s_1 s_2 s_3 s_4 s_5 s_6 r_0 r_1 r_2 r_3 r_4 r_5 r_6 t_0 t_1 t_2 t_3 t_4 n_0 n_1 n_2 n_3 n_4
  have KS : SBox (w12.alloc (.cells #[.int .i64 (P).e, .int .i64 (P).d, .int .i64 (P).x, .int .i64 (P).y, .int .i64 (P).z] 30)) w.heap.size (Sm.mk 3 st sk sp sx sy sz) := (HS.out.later hb).later (Grow.alloc' _ _)
  have KR : SBox (w12.alloc (.cells #[.int .i64 (P).e, .int .i64 (P).d, .int .i64 (P).x, .int .i64 (P).y, .int .i64 (P).z] 30)) (w.heap.size + 1) (Sm.mk 3 st rk rp rx ry rz) := (HR.out.later hb).later (Grow.alloc' _ _)
  have KT : Box (w12.alloc (.cells #[.int .i64 (P).e, .int .i64 (P).d, .int .i64 (P).x, .int .i64 (P).y, .int .i64 (P).z] 30)) w11.heap.size (Tm.mk 0 3 500 500 500) := (HT.out.later hb).later (Grow.alloc' _ _)
  have KN : Box (w12.alloc (.cells #[.int .i64 (P).e, .int .i64 (P).d, .int .i64 (P).x, .int .i64 (P).y, .int .i64 (P).z] 30)) (w11.heap.size + 1) (Tm.mk 0 3 0 0 0) := (HN.out.later hb).later (Grow.alloc' _ _)
  have KP : Box (w12.alloc (.cells #[.int .i64 (P).e, .int .i64 (P).d, .int .i64 (P).x, .int .i64 (P).y, .int .i64 (P).z] 30)) w12.heap.size (P) := Box.new _ _
  have G : Hid (Grow w (w12.alloc (.cells #[.int .i64 (P).e, .int .i64 (P).d, .int .i64 (P).x, .int .i64 (P).y, .int .i64 (P).z] 30))) := hide (Grow.trans' (Grow.trans' G.out hb) (Grow.alloc' _ _))
  clear hb HS HR HT HN
  have HS := hide KS
  have HR := hide KR
  have HT := hide KT
  have HN := hide KN
  have HP := hide KP
  obtain ⟨s_0, s_1, s_2, s_3, s_4, s_5, s_6⟩ := KS
  obtain ⟨r_0, r_1, r_2, r_3, r_4, r_5, r_6⟩ := KR
  obtain ⟨t_0, t_1, t_2, t_3, t_4⟩ := KT
  obtain ⟨n_0, n_1, n_2, n_3, n_4⟩ := KN
  obtain ⟨p_0, p_1, p_2, p_3, p_4⟩ := KP
  go_wp2_with fail
  refine (apply_at (Sm.mk 3 st rk rp rx ry rz) (Tm.mk 0 3 500 500 500) Q K hQ.out hK.out _).mono ?_
  rintro e w13 ⟨rfl, hb⟩
  clear s_0 s_1 s_2 s_3 s_4 s_5 s_6 r_0 r_1 r_2 r_3 r_4 r_5 r_6 t_0 t_1 t_2 t_3 t_4 n_0 n_1 n_2 n_3 n_4 p_0 p_1 p_2 p_3 p_4
  have KS : SBox (w13.alloc (.cells #[.int .i64 (Q).e, .int .i64 (Q).d, .int .i64 (Q).x, .int .i64 (Q).y, .int .i64 (Q).z] 30)) w.heap.size (Sm.mk 3 st sk sp sx sy sz) := (HS.out.later hb).later (Grow.alloc' _ _)
  have KR : SBox (w13.alloc (.cells #[.int .i64 (Q).e, .int .i64 (Q).d, .int .i64 (Q).x, .int .i64 (Q).y, .int .i64 (Q).z] 30)) (w.heap.size + 1) (Sm.mk 3 st rk rp rx ry rz) := (HR.out.later hb).later (Grow.alloc' _ _)
  have KT : Box (w13.alloc (.cells #[.int .i64 (Q).e, .int .i64 (Q).d, .int .i64 (Q).x, .int .i64 (Q).y, .int .i64 (Q).z] 30)) w11.heap.size (Tm.mk 0 3 500 500 500) := (HT.out.later hb).later (Grow.alloc' _ _)
  have KN : Box (w13.alloc (.cells #[.int .i64 (Q).e, .int .i64 (Q).d, .int .i64 (Q).x, .int .i64 (Q).y, .int .i64 (Q).z] 30)) (w11.heap.size + 1) (Tm.mk 0 3 0 0 0) := (HN.out.later hb).later (Grow.alloc' _ _)
  have KP : Box (w13.alloc (.cells #[.int .i64 (Q).e, .int .i64 (Q).d, .int .i64 (Q).x, .int .i64 (Q).y, .int .i64 (Q).z] 30)) w12.heap.size (P) := (HP.out.later hb).later (Grow.alloc' _ _)
  have KQ : Box (w13.alloc (.cells #[.int .i64 (Q).e, .int .i64 (Q).d, .int .i64 (Q).x, .int .i64 (Q).y, .int .i64 (Q).z] 30)) w13.heap.size (Q) := Box.new _ _
  have G : Hid (Grow w (w13.alloc (.cells #[.int .i64 (Q).e, .int .i64 (Q).d, .int .i64 (Q).x, .int .i64 (Q).y, .int .i64 (Q).z] 30))) := hide (Grow.trans' (Grow.trans' G.out hb) (Grow.alloc' _ _))
  clear hb HS HR HT HN HP
  have HS := hide KS
  have HR := hide KR
  have HT := hide KT
  have HN := hide KN
  have HP := hide KP
  have HQ := hide KQ
  obtain ⟨s_0, s_1, s_2, s_3, s_4, s_5, s_6⟩ := KS
  obtain ⟨r_0, r_1, r_2, r_3, r_4, r_5, r_6⟩ := KR
  obtain ⟨t_0, t_1, t_2, t_3, t_4⟩ := KT
  obtain ⟨n_0, n_1, n_2, n_3, n_4⟩ := KN
  obtain ⟨p_0, p_1, p_2, p_3, p_4⟩ := KP
  obtain ⟨q_0, q_1, q_2, q_3, q_4⟩ := KQ
  go_wp2_with fail
  refine (apply_at (Sm.mk 3 st sk sp sx sy sz) (Tm.mk 0 3 0 0 0) U 0 hU.out hUE.out _).mono ?_
  rintro e w14 ⟨rfl, hb⟩
  clear s_0 s_1 s_2 s_3 s_4 s_5 s_6 r_0 r_1 r_2 r_3 r_4 r_5 r_6 t_0 t_1 t_2 t_3 t_4 n_0 n_1 n_2 n_3 n_4 p_0 p_1 p_2 p_3 p_4 q_0 q_1 q_2 q_3 q_4
  have KS : SBox (w14.alloc (.cells #[.int .i64 (U).e, .int .i64 (U).d, .int .i64 (U).x, .int .i64 (U).y, .int .i64 (U).z] 30)) w.heap.size (Sm.mk 3 st sk sp sx sy sz) := (HS.out.later hb).later (Grow.alloc' _ _)
  have KR : SBox (w14.alloc (.cells #[.int .i64 (U).e, .int .i64 (U).d, .int .i64 (U).x, .int .i64 (U).y, .int .i64 (U).z] 30)) (w.heap.size + 1) (Sm.mk 3 st rk rp rx ry rz) := (HR.out.later hb).later (Grow.alloc' _ _)
  have KT : Box (w14.alloc (.cells #[.int .i64 (U).e, .int .i64 (U).d, .int .i64 (U).x, .int .i64 (U).y, .int .i64 (U).z] 30)) w11.heap.size (Tm.mk 0 3 500 500 500) := (HT.out.later hb).later (Grow.alloc' _ _)
  have KN : Box (w14.alloc (.cells #[.int .i64 (U).e, .int .i64 (U).d, .int .i64 (U).x, .int .i64 (U).y, .int .i64 (U).z] 30)) (w11.heap.size + 1) (Tm.mk 0 3 0 0 0) := (HN.out.later hb).later (Grow.alloc' _ _)
  have KP : Box (w14.alloc (.cells #[.int .i64 (U).e, .int .i64 (U).d, .int .i64 (U).x, .int .i64 (U).y, .int .i64 (U).z] 30)) w12.heap.size (P) := (HP.out.later hb).later (Grow.alloc' _ _)
  have KQ : Box (w14.alloc (.cells #[.int .i64 (U).e, .int .i64 (U).d, .int .i64 (U).x, .int .i64 (U).y, .int .i64 (U).z] 30)) w13.heap.size (Q) := (HQ.out.later hb).later (Grow.alloc' _ _)
  have KU : Box (w14.alloc (.cells #[.int .i64 (U).e, .int .i64 (U).d, .int .i64 (U).x, .int .i64 (U).y, .int .i64 (U).z] 30)) w14.heap.size (U) := Box.new _ _
  have G : Hid (Grow w (w14.alloc (.cells #[.int .i64 (U).e, .int .i64 (U).d, .int .i64 (U).x, .int .i64 (U).y, .int .i64 (U).z] 30))) := hide (Grow.trans' (Grow.trans' G.out hb) (Grow.alloc' _ _))
  clear hb HS HR HT HN HP HQ
  have HS := hide KS
  have HR := hide KR
  have HT := hide KT
  have HN := hide KN
  have HP := hide KP
  have HQ := hide KQ
  have HU := hide KU
  obtain ⟨s_0, s_1, s_2, s_3, s_4, s_5, s_6⟩ := KS
  obtain ⟨r_0, r_1, r_2, r_3, r_4, r_5, r_6⟩ := KR
  obtain ⟨t_0, t_1, t_2, t_3, t_4⟩ := KT
  obtain ⟨n_0, n_1, n_2, n_3, n_4⟩ := KN
  obtain ⟨p_0, p_1, p_2, p_3, p_4⟩ := KP
  obtain ⟨q_0, q_1, q_2, q_3, q_4⟩ := KQ
  obtain ⟨u_0, u_1, u_2, u_3, u_4⟩ := KU
  go_wp2_with fail
  refine (apply_at (Sm.mk 3 st rk rp rx ry rz) (Tm.mk 0 3 0 0 0) V 0 hV.out hVE.out _).mono ?_
  rintro e w15 ⟨rfl, hb⟩
  clear s_0 s_1 s_2 s_3 s_4 s_5 s_6 r_0 r_1 r_2 r_3 r_4 r_5 r_6 t_0 t_1 t_2 t_3 t_4 n_0 n_1 n_2 n_3 n_4 p_0 p_1 p_2 p_3 p_4 q_0 q_1 q_2 q_3 q_4 u_0 u_1 u_2 u_3 u_4
  have KS : SBox (w15.alloc (.cells #[.int .i64 (V).e, .int .i64 (V).d, .int .i64 (V).x, .int .i64 (V).y, .int .i64 (V).z] 30)) w.heap.size (Sm.mk 3 st sk sp sx sy sz) := (HS.out.later hb).later (Grow.alloc' _ _)
  have KR : SBox (w15.alloc (.cells #[.int .i64 (V).e, .int .i64 (V).d, .int .i64 (V).x, .int .i64 (V).y, .int .i64 (V).z] 30)) (w.heap.size + 1) (Sm.mk 3 st rk rp rx ry rz) := (HR.out.later hb).later (Grow.alloc' _ _)
  have KT : Box (w15.alloc (.cells #[.int .i64 (V).e, .int .i64 (V).d, .int .i64 (V).x, .int .i64 (V).y, .int .i64 (V).z] 30)) w11.heap.size (Tm.mk 0 3 500 500 500) := (HT.out.later hb).later (Grow.alloc' _ _)
  have KN : Box (w15.alloc (.cells #[.int .i64 (V).e, .int .i64 (V).d, .int .i64 (V).x, .int .i64 (V).y, .int .i64 (V).z] 30)) (w11.heap.size + 1) (Tm.mk 0 3 0 0 0) := (HN.out.later hb).later (Grow.alloc' _ _)
  have KP : Box (w15.alloc (.cells #[.int .i64 (V).e, .int .i64 (V).d, .int .i64 (V).x, .int .i64 (V).y, .int .i64 (V).z] 30)) w12.heap.size (P) := (HP.out.later hb).later (Grow.alloc' _ _)
  have KQ : Box (w15.alloc (.cells #[.int .i64 (V).e, .int .i64 (V).d, .int .i64 (V).x, .int .i64 (V).y, .int .i64 (V).z] 30)) w13.heap.size (Q) := (HQ.out.later hb).later (Grow.alloc' _ _)
  have KU : Box (w15.alloc (.cells #[.int .i64 (V).e, .int .i64 (V).d, .int .i64 (V).x, .int .i64 (V).y, .int .i64 (V).z] 30)) w14.heap.size (U) := (HU.out.later hb).later (Grow.alloc' _ _)
  have KV : Box (w15.alloc (.cells #[.int .i64 (V).e, .int .i64 (V).d, .int .i64 (V).x, .int .i64 (V).y, .int .i64 (V).z] 30)) w15.heap.size (V) := Box.new _ _
  have G : Hid (Grow w (w15.alloc (.cells #[.int .i64 (V).e, .int .i64 (V).d, .int .i64 (V).x, .int .i64 (V).y, .int .i64 (V).z] 30))) := hide (Grow.trans' (Grow.trans' G.out hb) (Grow.alloc' _ _))
  clear hb HS HR HT HN HP HQ HU
  have HS := hide KS
  have HR := hide KR
  have HT := hide KT
  have HN := hide KN
  have HP := hide KP
  have HQ := hide KQ
  have HU := hide KU
  have HV := hide KV
  obtain ⟨s_0, s_1, s_2, s_3, s_4, s_5, s_6⟩ := KS
  obtain ⟨r_0, r_1, r_2, r_3, r_4, r_5, r_6⟩ := KR
  obtain ⟨t_0, t_1, t_2, t_3, t_4⟩ := KT
  obtain ⟨n_0, n_1, n_2, n_3, n_4⟩ := KN
  obtain ⟨p_0, p_1, p_2, p_3, p_4⟩ := KP
  obtain ⟨q_0, q_1, q_2, q_3, q_4⟩ := KQ
  obtain ⟨u_0, u_1, u_2, u_3, u_4⟩ := KU
  obtain ⟨v_0, v_1, v_2, v_3, v_4⟩ := KV
  go_wp2_with fail
  refine (refLeC P Q one h1o.out _).mono ?_
  rintro e w16 ⟨rfl, hb⟩
  clear s_0 s_1 s_2 s_3 s_4 s_5 s_6 r_0 r_1 r_2 r_3 r_4 r_5 r_6 t_0 t_1 t_2 t_3 t_4 n_0 n_1 n_2 n_3 n_4 p_0 p_1 p_2 p_3 p_4 q_0 q_1 q_2 q_3 q_4 u_0 u_1 u_2 u_3 u_4 v_0 v_1 v_2 v_3 v_4
  have KS : SBox w16 w.heap.size (Sm.mk 3 st sk sp sx sy sz) := HS.out.later hb
  have KR : SBox w16 (w.heap.size + 1) (Sm.mk 3 st rk rp rx ry rz) := HR.out.later hb
  have KT : Box w16 w11.heap.size (Tm.mk 0 3 500 500 500) := HT.out.later hb
  have KN : Box w16 (w11.heap.size + 1) (Tm.mk 0 3 0 0 0) := HN.out.later hb
  have KP : Box w16 w12.heap.size (P) := HP.out.later hb
  have KQ : Box w16 w13.heap.size (Q) := HQ.out.later hb
  have KU : Box w16 w14.heap.size (U) := HU.out.later hb
  have KV : Box w16 w15.heap.size (V) := HV.out.later hb
  have G : Hid (Grow w w16) := hide (Grow.trans' G.out hb)
  clear hb HS HR HT HN HP HQ HU HV
  have HS := hide KS
  have HR := hide KR
  have HT := hide KT
  have HN := hide KN
  have HP := hide KP
  have HQ := hide KQ
  have HU := hide KU
  have HV := hide KV
  obtain ⟨s_0, s_1, s_2, s_3, s_4, s_5, s_6⟩ := KS
  obtain ⟨r_0, r_1, r_2, r_3, r_4, r_5, r_6⟩ := KR
  obtain ⟨t_0, t_1, t_2, t_3, t_4⟩ := KT
  obtain ⟨n_0, n_1, n_2, n_3, n_4⟩ := KN
  obtain ⟨p_0, p_1, p_2, p_3, p_4⟩ := KP
  obtain ⟨q_0, q_1, q_2, q_3, q_4⟩ := KQ
  obtain ⟨u_0, u_1, u_2, u_3, u_4⟩ := KU
  obtain ⟨v_0, v_1, v_2, v_3, v_4⟩ := KV
  go_wp2_with fail
  refine (refLeC U V two h2o.out _).mono ?_
  rintro e w17 ⟨rfl, hb⟩
  clear s_0 s_1 s_2 s_3 s_4 s_5 s_6 r_0 r_1 r_2 r_3 r_4 r_5 r_6 t_0 t_1 t_2 t_3 t_4 n_0 n_1 n_2 n_3 n_4 p_0 p_1 p_2 p_3 p_4 q_0 q_1 q_2 q_3 q_4 u_0 u_1 u_2 u_3 u_4 v_0 v_1 v_2 v_3 v_4
  have KS : SBox w17 w.heap.size (Sm.mk 3 st sk sp sx sy sz) := HS.out.later hb
  have KR : SBox w17 (w.heap.size + 1) (Sm.mk 3 st rk rp rx ry rz) := HR.out.later hb
  have KT : Box w17 w11.heap.size (Tm.mk 0 3 500 500 500) := HT.out.later hb
  have KN : Box w17 (w11.heap.size + 1) (Tm.mk 0 3 0 0 0) := HN.out.later hb
  have KP : Box w17 w12.heap.size (P) := HP.out.later hb
  have KQ : Box w17 w13.heap.size (Q) := HQ.out.later hb
  have KU : Box w17 w14.heap.size (U) := HU.out.later hb
  have KV : Box w17 w15.heap.size (V) := HV.out.later hb
  have G : Hid (Grow w w17) := hide (Grow.trans' G.out hb)
  clear hb HS HR HT HN HP HQ HU HV
  clear KS KT KN KP KQ KU KV
  obtain ⟨r0, r1, r2, r3, r4, r5, r6⟩ := KR
  dsimp only at r0 r1 r2 r3 r4 r5 r6
  cases two
  · go_wp2_with fail
    go_ret
    exact ⟨rfl, G.out⟩
  by_cases eH : H = 0
  rotate_left
  · go_wp2_with fail
    go_ret
    exact ⟨rfl, G.out⟩
  by_cases eK : K = 0
  rotate_left
  · subst eH
    go_wp2_with fail
    go_ret
    exact ⟨rfl, G.out⟩
  subst eH eK
  cases one
  · go_wp2_with fail
    go_ret
    exact ⟨rfl, G.out⟩
  · have HI : Hid (highS (Sm.mk 3 st rk rp rx ry rz) = true) := hide (hhi.out rfl rfl rfl rfl)
    clear hhi
    go_wp2_with fail
    refine (highC (Sm.mk 3 st rk rp rx ry rz) true HI.out _).mono ?_
    rintro e w30 ⟨rfl, hb⟩
    have G := hide (Grow.trans' G.out hb)
    clear r0 r1 r2 r3 r4 r5 r6 hb
    go_wp2
    go_ret
    exact ⟨rfl, G.out⟩
set_option maxHeartbeats 4000000 in
set_option maxRecDepth 100000 in
theorem SummaryLess_3_4 (st sk sp sx sy sz rk rp rx ry rz : Int) (x y : Tm) (A B C : Tm) (E F L : Int) (p m : Bool) (w : World) (h1 : Hid (mayS (Sm.mk 3 st sk sp sx sy sz) = true)) (h2 : Hid (mayS (Sm.mk 3 st rk rp rx ry rz) = true)) (hA : Hid (applyT (Sm.mk 3 st sk sp sx sy sz) x = A)) (hE : Hid (applyE (Sm.mk 3 st sk sp sx sy sz) x = 0)) (hB : Hid (applyT (Sm.mk 3 st rk rp rx ry rz) x = B)) (hF : Hid (applyE (Sm.mk 3 st rk rp rx ry rz) x = F)) (hC : Hid (applyT (Sm.mk 3 st sk sp sx sy sz) y = C)) (hL : Hid (applyE (Sm.mk 3 st sk sp sx sy sz) y = 0)) (hp : Hid (leB A B = p)) (hu : Hid (leB x y = true)) (hm : Hid (leB A C = true)) (hl : Hid (leS (Sm.mk 3 st sk sp sx sy sz) (Sm.mk 3 st rk rp rx ry rz) = false)) (P Q U V : Tm) (H K : Int) (one two : Bool) (hP : Hid (applyT (Sm.mk 3 st sk sp sx sy sz) (Tm.mk 0 3 500 500 500) = P)) (hH : Hid (applyE (Sm.mk 3 st sk sp sx sy sz) (Tm.mk 0 3 500 500 500) = H)) (hQ : Hid (applyT (Sm.mk 3 st rk rp rx ry rz) (Tm.mk 0 3 500 500 500) = Q)) (hK : Hid (applyE (Sm.mk 3 st rk rp rx ry rz) (Tm.mk 0 3 500 500 500) = K)) (hU : Hid (applyT (Sm.mk 3 st sk sp sx sy sz) (Tm.mk 0 3 0 0 0) = U)) (hUE : Hid (applyE (Sm.mk 3 st sk sp sx sy sz) (Tm.mk 0 3 0 0 0) = 0)) (hV : Hid (applyT (Sm.mk 3 st rk rp rx ry rz) (Tm.mk 0 3 0 0 0) = V)) (hVE : Hid (applyE (Sm.mk 3 st rk rp rx ry rz) (Tm.mk 0 3 0 0 0) = 0)) (h1o : Hid (leB P Q = one)) (h2o : Hid (leB U V = two)) (hhi : Hid (two = true → H = 0 → K = 0 → one = true → highS (Sm.mk 3 st rk rp rx ry rz) = true)) :
    Calls Try.prog 7 #[.agg #[.int .i64 (Sm.mk 3 st sk sp sx sy sz).f, .int .i64 (Sm.mk 3 st sk sp sx sy sz).t, .int .i64 (Sm.mk 3 st sk sp sx sy sz).k, .int .i64 (Sm.mk 3 st sk sp sx sy sz).ep, .int .i64 (Sm.mk 3 st sk sp sx sy sz).x, .int .i64 (Sm.mk 3 st sk sp sx sy sz).y, .int .i64 (Sm.mk 3 st sk sp sx sy sz).z], .agg #[.int .i64 (Sm.mk 3 st rk rp rx ry rz).f, .int .i64 (Sm.mk 3 st rk rp rx ry rz).t, .int .i64 (Sm.mk 3 st rk rp rx ry rz).k, .int .i64 (Sm.mk 3 st rk rp rx ry rz).ep, .int .i64 (Sm.mk 3 st rk rp rx ry rz).x, .int .i64 (Sm.mk 3 st rk rp rx ry rz).y, .int .i64 (Sm.mk 3 st rk rp rx ry rz).z], .agg #[.int .i64 x.e, .int .i64 x.d, .int .i64 x.x, .int .i64 x.y, .int .i64 x.z, .int .i64 y.e, .int .i64 y.d, .int .i64 y.x, .int .i64 y.y, .int .i64 y.z]] w fun e w' => e = .returned (.bool true) ∧ Below w.heap.size w w' := by
  go_enter Try.func7, Try.ntmps7
  have KS : SBox (((w.alloc (.cells #[.int .i64 (Sm.mk 3 st sk sp sx sy sz).f, .int .i64 (Sm.mk 3 st sk sp sx sy sz).t, .int .i64 (Sm.mk 3 st sk sp sx sy sz).k, .int .i64 (Sm.mk 3 st sk sp sx sy sz).ep, .int .i64 (Sm.mk 3 st sk sp sx sy sz).x, .int .i64 (Sm.mk 3 st sk sp sx sy sz).y, .int .i64 (Sm.mk 3 st sk sp sx sy sz).z] 24)).alloc (.cells #[.int .i64 (Sm.mk 3 st rk rp rx ry rz).f, .int .i64 (Sm.mk 3 st rk rp rx ry rz).t, .int .i64 (Sm.mk 3 st rk rp rx ry rz).k, .int .i64 (Sm.mk 3 st rk rp rx ry rz).ep, .int .i64 (Sm.mk 3 st rk rp rx ry rz).x, .int .i64 (Sm.mk 3 st rk rp rx ry rz).y, .int .i64 (Sm.mk 3 st rk rp rx ry rz).z] 24)).alloc (.cells #[.int .i64 x.e, .int .i64 x.d, .int .i64 x.x, .int .i64 x.y, .int .i64 x.z, .int .i64 y.e, .int .i64 y.d, .int .i64 y.x, .int .i64 y.y, .int .i64 y.z] 39)) w.heap.size (Sm.mk 3 st sk sp sx sy sz) := by simp [SBox, go_sem]
  have KR : SBox (((w.alloc (.cells #[.int .i64 (Sm.mk 3 st sk sp sx sy sz).f, .int .i64 (Sm.mk 3 st sk sp sx sy sz).t, .int .i64 (Sm.mk 3 st sk sp sx sy sz).k, .int .i64 (Sm.mk 3 st sk sp sx sy sz).ep, .int .i64 (Sm.mk 3 st sk sp sx sy sz).x, .int .i64 (Sm.mk 3 st sk sp sx sy sz).y, .int .i64 (Sm.mk 3 st sk sp sx sy sz).z] 24)).alloc (.cells #[.int .i64 (Sm.mk 3 st rk rp rx ry rz).f, .int .i64 (Sm.mk 3 st rk rp rx ry rz).t, .int .i64 (Sm.mk 3 st rk rp rx ry rz).k, .int .i64 (Sm.mk 3 st rk rp rx ry rz).ep, .int .i64 (Sm.mk 3 st rk rp rx ry rz).x, .int .i64 (Sm.mk 3 st rk rp rx ry rz).y, .int .i64 (Sm.mk 3 st rk rp rx ry rz).z] 24)).alloc (.cells #[.int .i64 x.e, .int .i64 x.d, .int .i64 x.x, .int .i64 x.y, .int .i64 x.z, .int .i64 y.e, .int .i64 y.d, .int .i64 y.x, .int .i64 y.y, .int .i64 y.z] 39)) (w.heap.size + 1) (Sm.mk 3 st rk rp rx ry rz) := by simp [SBox, go_sem]
  have KX : Box2 (((w.alloc (.cells #[.int .i64 (Sm.mk 3 st sk sp sx sy sz).f, .int .i64 (Sm.mk 3 st sk sp sx sy sz).t, .int .i64 (Sm.mk 3 st sk sp sx sy sz).k, .int .i64 (Sm.mk 3 st sk sp sx sy sz).ep, .int .i64 (Sm.mk 3 st sk sp sx sy sz).x, .int .i64 (Sm.mk 3 st sk sp sx sy sz).y, .int .i64 (Sm.mk 3 st sk sp sx sy sz).z] 24)).alloc (.cells #[.int .i64 (Sm.mk 3 st rk rp rx ry rz).f, .int .i64 (Sm.mk 3 st rk rp rx ry rz).t, .int .i64 (Sm.mk 3 st rk rp rx ry rz).k, .int .i64 (Sm.mk 3 st rk rp rx ry rz).ep, .int .i64 (Sm.mk 3 st rk rp rx ry rz).x, .int .i64 (Sm.mk 3 st rk rp rx ry rz).y, .int .i64 (Sm.mk 3 st rk rp rx ry rz).z] 24)).alloc (.cells #[.int .i64 x.e, .int .i64 x.d, .int .i64 x.x, .int .i64 x.y, .int .i64 x.z, .int .i64 y.e, .int .i64 y.d, .int .i64 y.x, .int .i64 y.y, .int .i64 y.z] 39)) (w.heap.size + 1 + 1) (x, y) := by simp [Box2, go_sem]
  have G : Hid (Grow w (((w.alloc (.cells #[.int .i64 (Sm.mk 3 st sk sp sx sy sz).f, .int .i64 (Sm.mk 3 st sk sp sx sy sz).t, .int .i64 (Sm.mk 3 st sk sp sx sy sz).k, .int .i64 (Sm.mk 3 st sk sp sx sy sz).ep, .int .i64 (Sm.mk 3 st sk sp sx sy sz).x, .int .i64 (Sm.mk 3 st sk sp sx sy sz).y, .int .i64 (Sm.mk 3 st sk sp sx sy sz).z] 24)).alloc (.cells #[.int .i64 (Sm.mk 3 st rk rp rx ry rz).f, .int .i64 (Sm.mk 3 st rk rp rx ry rz).t, .int .i64 (Sm.mk 3 st rk rp rx ry rz).k, .int .i64 (Sm.mk 3 st rk rp rx ry rz).ep, .int .i64 (Sm.mk 3 st rk rp rx ry rz).x, .int .i64 (Sm.mk 3 st rk rp rx ry rz).y, .int .i64 (Sm.mk 3 st rk rp rx ry rz).z] 24)).alloc (.cells #[.int .i64 x.e, .int .i64 x.d, .int .i64 x.x, .int .i64 x.y, .int .i64 x.z, .int .i64 y.e, .int .i64 y.d, .int .i64 y.x, .int .i64 y.y, .int .i64 y.z] 39))) := hide (Grow.trans' (Grow.trans' (Grow.alloc' _ _) (Grow.alloc' _ _)) (Grow.alloc' _ _))
  have HS := hide KS
  have HR := hide KR
  have HX := hide KX
  obtain ⟨s_0, s_1, s_2, s_3, s_4, s_5, s_6⟩ := KS
  obtain ⟨r_0, r_1, r_2, r_3, r_4, r_5, r_6⟩ := KR
  obtain ⟨x_0, x_1, x_2, x_3, x_4, x_5, x_6, x_7, x_8, x_9⟩ := KX
  go_wp2_with fail
  refine (shown_any _).mono ?_
  rintro e w1 ⟨rfl, hb⟩
  clear s_0 s_1 s_2 s_3 s_4 s_5 s_6 r_0 r_1 r_2 r_3 r_4 r_5 r_6 x_0 x_1 x_2 x_3 x_4 x_5 x_6 x_7 x_8 x_9
  have KS : SBox w1 w.heap.size (Sm.mk 3 st sk sp sx sy sz) := HS.out.later hb
  have KR : SBox w1 (w.heap.size + 1) (Sm.mk 3 st rk rp rx ry rz) := HR.out.later hb
  have KX : Box2 w1 (w.heap.size + 1 + 1) ((x, y)) := HX.out.later hb
  have G : Hid (Grow w w1) := hide (Grow.trans' G.out hb)
  clear hb HS HR HX
  have HS := hide KS
  have HR := hide KR
  have HX := hide KX
  obtain ⟨s_0, s_1, s_2, s_3, s_4, s_5, s_6⟩ := KS
  obtain ⟨r_0, r_1, r_2, r_3, r_4, r_5, r_6⟩ := KR
  obtain ⟨x_0, x_1, x_2, x_3, x_4, x_5, x_6, x_7, x_8, x_9⟩ := KX
  go_wp2_with fail
  refine (sMayC (Sm.mk 3 st sk sp sx sy sz) true h1.out _).mono ?_
  rintro e w2 ⟨rfl, hb⟩
  clear s_0 s_1 s_2 s_3 s_4 s_5 s_6 r_0 r_1 r_2 r_3 r_4 r_5 r_6 x_0 x_1 x_2 x_3 x_4 x_5 x_6 x_7 x_8 x_9
  have KS : SBox w2 w.heap.size (Sm.mk 3 st sk sp sx sy sz) := HS.out.later hb
  have KR : SBox w2 (w.heap.size + 1) (Sm.mk 3 st rk rp rx ry rz) := HR.out.later hb
  have KX : Box2 w2 (w.heap.size + 1 + 1) ((x, y)) := HX.out.later hb
  have G : Hid (Grow w w2) := hide (Grow.trans' G.out hb)
  clear hb HS HR HX
  have HS := hide KS
  have HR := hide KR
  have HX := hide KX
  obtain ⟨s_0, s_1, s_2, s_3, s_4, s_5, s_6⟩ := KS
  obtain ⟨r_0, r_1, r_2, r_3, r_4, r_5, r_6⟩ := KR
  obtain ⟨x_0, x_1, x_2, x_3, x_4, x_5, x_6, x_7, x_8, x_9⟩ := KX
  go_wp2_with fail
  refine (sMayC (Sm.mk 3 st rk rp rx ry rz) true h2.out _).mono ?_
  rintro e w3 ⟨rfl, hb⟩
  clear s_0 s_1 s_2 s_3 s_4 s_5 s_6 r_0 r_1 r_2 r_3 r_4 r_5 r_6 x_0 x_1 x_2 x_3 x_4 x_5 x_6 x_7 x_8 x_9
  have KS : SBox w3 w.heap.size (Sm.mk 3 st sk sp sx sy sz) := HS.out.later hb
  have KR : SBox w3 (w.heap.size + 1) (Sm.mk 3 st rk rp rx ry rz) := HR.out.later hb
  have KX : Box2 w3 (w.heap.size + 1 + 1) ((x, y)) := HX.out.later hb
  have G : Hid (Grow w w3) := hide (Grow.trans' G.out hb)
  clear hb HS HR HX
  have HS := hide KS
  have HR := hide KR
  have HX := hide KX
  obtain ⟨s_0, s_1, s_2, s_3, s_4, s_5, s_6⟩ := KS
  obtain ⟨r_0, r_1, r_2, r_3, r_4, r_5, r_6⟩ := KR
  obtain ⟨x_0, x_1, x_2, x_3, x_4, x_5, x_6, x_7, x_8, x_9⟩ := KX
  go_wp2_with fail
  refine (apply_at (Sm.mk 3 st sk sp sx sy sz) x A 0 hA.out hE.out _).mono ?_
  rintro e w4 ⟨rfl, hb⟩
  clear s_0 s_1 s_2 s_3 s_4 s_5 s_6 r_0 r_1 r_2 r_3 r_4 r_5 r_6 x_0 x_1 x_2 x_3 x_4 x_5 x_6 x_7 x_8 x_9
  have KS : SBox (w4.alloc (.cells #[.int .i64 (A).e, .int .i64 (A).d, .int .i64 (A).x, .int .i64 (A).y, .int .i64 (A).z] 30)) w.heap.size (Sm.mk 3 st sk sp sx sy sz) := (HS.out.later hb).later (Grow.alloc' _ _)
  have KR : SBox (w4.alloc (.cells #[.int .i64 (A).e, .int .i64 (A).d, .int .i64 (A).x, .int .i64 (A).y, .int .i64 (A).z] 30)) (w.heap.size + 1) (Sm.mk 3 st rk rp rx ry rz) := (HR.out.later hb).later (Grow.alloc' _ _)
  have KX : Box2 (w4.alloc (.cells #[.int .i64 (A).e, .int .i64 (A).d, .int .i64 (A).x, .int .i64 (A).y, .int .i64 (A).z] 30)) (w.heap.size + 1 + 1) ((x, y)) := (HX.out.later hb).later (Grow.alloc' _ _)
  have KA : Box (w4.alloc (.cells #[.int .i64 (A).e, .int .i64 (A).d, .int .i64 (A).x, .int .i64 (A).y, .int .i64 (A).z] 30)) w4.heap.size (A) := Box.new _ _
  have G : Hid (Grow w (w4.alloc (.cells #[.int .i64 (A).e, .int .i64 (A).d, .int .i64 (A).x, .int .i64 (A).y, .int .i64 (A).z] 30))) := hide (Grow.trans' (Grow.trans' G.out hb) (Grow.alloc' _ _))
  clear hb HS HR HX
  have HS := hide KS
  have HR := hide KR
  have HX := hide KX
  have HA := hide KA
  obtain ⟨s_0, s_1, s_2, s_3, s_4, s_5, s_6⟩ := KS
  obtain ⟨r_0, r_1, r_2, r_3, r_4, r_5, r_6⟩ := KR
  obtain ⟨x_0, x_1, x_2, x_3, x_4, x_5, x_6, x_7, x_8, x_9⟩ := KX
  obtain ⟨a_0, a_1, a_2, a_3, a_4⟩ := KA
  go_wp2_with fail
  refine (apply_at (Sm.mk 3 st rk rp rx ry rz) x B F hB.out hF.out _).mono ?_
  rintro e w5 ⟨rfl, hb⟩
  clear s_0 s_1 s_2 s_3 s_4 s_5 s_6 r_0 r_1 r_2 r_3 r_4 r_5 r_6 x_0 x_1 x_2 x_3 x_4 x_5 x_6 x_7 x_8 x_9 a_0 a_1 a_2 a_3 a_4
  have KS : SBox (w5.alloc (.cells #[.int .i64 (B).e, .int .i64 (B).d, .int .i64 (B).x, .int .i64 (B).y, .int .i64 (B).z] 30)) w.heap.size (Sm.mk 3 st sk sp sx sy sz) := (HS.out.later hb).later (Grow.alloc' _ _)
  have KR : SBox (w5.alloc (.cells #[.int .i64 (B).e, .int .i64 (B).d, .int .i64 (B).x, .int .i64 (B).y, .int .i64 (B).z] 30)) (w.heap.size + 1) (Sm.mk 3 st rk rp rx ry rz) := (HR.out.later hb).later (Grow.alloc' _ _)
  have KX : Box2 (w5.alloc (.cells #[.int .i64 (B).e, .int .i64 (B).d, .int .i64 (B).x, .int .i64 (B).y, .int .i64 (B).z] 30)) (w.heap.size + 1 + 1) ((x, y)) := (HX.out.later hb).later (Grow.alloc' _ _)
  have KA : Box (w5.alloc (.cells #[.int .i64 (B).e, .int .i64 (B).d, .int .i64 (B).x, .int .i64 (B).y, .int .i64 (B).z] 30)) w4.heap.size (A) := (HA.out.later hb).later (Grow.alloc' _ _)
  have KB : Box (w5.alloc (.cells #[.int .i64 (B).e, .int .i64 (B).d, .int .i64 (B).x, .int .i64 (B).y, .int .i64 (B).z] 30)) w5.heap.size (B) := Box.new _ _
  have G : Hid (Grow w (w5.alloc (.cells #[.int .i64 (B).e, .int .i64 (B).d, .int .i64 (B).x, .int .i64 (B).y, .int .i64 (B).z] 30))) := hide (Grow.trans' (Grow.trans' G.out hb) (Grow.alloc' _ _))
  clear hb HS HR HX HA
  have HS := hide KS
  have HR := hide KR
  have HX := hide KX
  have HA := hide KA
  have HB := hide KB
  obtain ⟨s_0, s_1, s_2, s_3, s_4, s_5, s_6⟩ := KS
  obtain ⟨r_0, r_1, r_2, r_3, r_4, r_5, r_6⟩ := KR
  obtain ⟨x_0, x_1, x_2, x_3, x_4, x_5, x_6, x_7, x_8, x_9⟩ := KX
  obtain ⟨a_0, a_1, a_2, a_3, a_4⟩ := KA
  obtain ⟨b_0, b_1, b_2, b_3, b_4⟩ := KB
  go_wp2_with fail
  refine (apply_at (Sm.mk 3 st sk sp sx sy sz) y C 0 hC.out hL.out _).mono ?_
  rintro e w6 ⟨rfl, hb⟩
  clear s_0 s_1 s_2 s_3 s_4 s_5 s_6 r_0 r_1 r_2 r_3 r_4 r_5 r_6 x_0 x_1 x_2 x_3 x_4 x_5 x_6 x_7 x_8 x_9 a_0 a_1 a_2 a_3 a_4 b_0 b_1 b_2 b_3 b_4
  have KS : SBox (w6.alloc (.cells #[.int .i64 (C).e, .int .i64 (C).d, .int .i64 (C).x, .int .i64 (C).y, .int .i64 (C).z] 30)) w.heap.size (Sm.mk 3 st sk sp sx sy sz) := (HS.out.later hb).later (Grow.alloc' _ _)
  have KR : SBox (w6.alloc (.cells #[.int .i64 (C).e, .int .i64 (C).d, .int .i64 (C).x, .int .i64 (C).y, .int .i64 (C).z] 30)) (w.heap.size + 1) (Sm.mk 3 st rk rp rx ry rz) := (HR.out.later hb).later (Grow.alloc' _ _)
  have KX : Box2 (w6.alloc (.cells #[.int .i64 (C).e, .int .i64 (C).d, .int .i64 (C).x, .int .i64 (C).y, .int .i64 (C).z] 30)) (w.heap.size + 1 + 1) ((x, y)) := (HX.out.later hb).later (Grow.alloc' _ _)
  have KA : Box (w6.alloc (.cells #[.int .i64 (C).e, .int .i64 (C).d, .int .i64 (C).x, .int .i64 (C).y, .int .i64 (C).z] 30)) w4.heap.size (A) := (HA.out.later hb).later (Grow.alloc' _ _)
  have KB : Box (w6.alloc (.cells #[.int .i64 (C).e, .int .i64 (C).d, .int .i64 (C).x, .int .i64 (C).y, .int .i64 (C).z] 30)) w5.heap.size (B) := (HB.out.later hb).later (Grow.alloc' _ _)
  have KC : Box (w6.alloc (.cells #[.int .i64 (C).e, .int .i64 (C).d, .int .i64 (C).x, .int .i64 (C).y, .int .i64 (C).z] 30)) w6.heap.size (C) := Box.new _ _
  have G : Hid (Grow w (w6.alloc (.cells #[.int .i64 (C).e, .int .i64 (C).d, .int .i64 (C).x, .int .i64 (C).y, .int .i64 (C).z] 30))) := hide (Grow.trans' (Grow.trans' G.out hb) (Grow.alloc' _ _))
  clear hb HS HR HX HA HB
  have HS := hide KS
  have HR := hide KR
  have HX := hide KX
  have HA := hide KA
  have HB := hide KB
  have HC := hide KC
  obtain ⟨s_0, s_1, s_2, s_3, s_4, s_5, s_6⟩ := KS
  obtain ⟨r_0, r_1, r_2, r_3, r_4, r_5, r_6⟩ := KR
  obtain ⟨x_0, x_1, x_2, x_3, x_4, x_5, x_6, x_7, x_8, x_9⟩ := KX
  obtain ⟨a_0, a_1, a_2, a_3, a_4⟩ := KA
  obtain ⟨b_0, b_1, b_2, b_3, b_4⟩ := KB
  obtain ⟨c_0, c_1, c_2, c_3, c_4⟩ := KC
  go_wp2_with fail
  refine (refLeC A B p hp.out _).mono ?_
  rintro e w7 ⟨rfl, hb⟩
  clear s_0 s_1 s_2 s_3 s_4 s_5 s_6 r_0 r_1 r_2 r_3 r_4 r_5 r_6 x_0 x_1 x_2 x_3 x_4 x_5 x_6 x_7 x_8 x_9 a_0 a_1 a_2 a_3 a_4 b_0 b_1 b_2 b_3 b_4 c_0 c_1 c_2 c_3 c_4
  have KS : SBox w7 w.heap.size (Sm.mk 3 st sk sp sx sy sz) := HS.out.later hb
  have KR : SBox w7 (w.heap.size + 1) (Sm.mk 3 st rk rp rx ry rz) := HR.out.later hb
  have KX : Box2 w7 (w.heap.size + 1 + 1) ((x, y)) := HX.out.later hb
  have KA : Box w7 w4.heap.size (A) := HA.out.later hb
  have KB : Box w7 w5.heap.size (B) := HB.out.later hb
  have KC : Box w7 w6.heap.size (C) := HC.out.later hb
  have G : Hid (Grow w w7) := hide (Grow.trans' G.out hb)
  clear hb HS HR HX HA HB HC
  have HS := hide KS
  have HR := hide KR
  have HX := hide KX
  have HA := hide KA
  have HB := hide KB
  have HC := hide KC
  obtain ⟨s_0, s_1, s_2, s_3, s_4, s_5, s_6⟩ := KS
  obtain ⟨r_0, r_1, r_2, r_3, r_4, r_5, r_6⟩ := KR
  obtain ⟨x_0, x_1, x_2, x_3, x_4, x_5, x_6, x_7, x_8, x_9⟩ := KX
  obtain ⟨a_0, a_1, a_2, a_3, a_4⟩ := KA
  obtain ⟨b_0, b_1, b_2, b_3, b_4⟩ := KB
  obtain ⟨c_0, c_1, c_2, c_3, c_4⟩ := KC
  go_wp2_with fail
  refine (refLeC x y true hu.out _).mono ?_
  rintro e w8 ⟨rfl, hb⟩
  clear s_0 s_1 s_2 s_3 s_4 s_5 s_6 r_0 r_1 r_2 r_3 r_4 r_5 r_6 x_0 x_1 x_2 x_3 x_4 x_5 x_6 x_7 x_8 x_9 a_0 a_1 a_2 a_3 a_4 b_0 b_1 b_2 b_3 b_4 c_0 c_1 c_2 c_3 c_4
  have KS : SBox w8 w.heap.size (Sm.mk 3 st sk sp sx sy sz) := HS.out.later hb
  have KR : SBox w8 (w.heap.size + 1) (Sm.mk 3 st rk rp rx ry rz) := HR.out.later hb
  have KX : Box2 w8 (w.heap.size + 1 + 1) ((x, y)) := HX.out.later hb
  have KA : Box w8 w4.heap.size (A) := HA.out.later hb
  have KB : Box w8 w5.heap.size (B) := HB.out.later hb
  have KC : Box w8 w6.heap.size (C) := HC.out.later hb
  have G : Hid (Grow w w8) := hide (Grow.trans' G.out hb)
  clear hb HS HR HX HA HB HC
  have HS := hide KS
  have HR := hide KR
  have HX := hide KX
  have HA := hide KA
  have HB := hide KB
  have HC := hide KC
  obtain ⟨s_0, s_1, s_2, s_3, s_4, s_5, s_6⟩ := KS
  obtain ⟨r_0, r_1, r_2, r_3, r_4, r_5, r_6⟩ := KR
  obtain ⟨x_0, x_1, x_2, x_3, x_4, x_5, x_6, x_7, x_8, x_9⟩ := KX
  obtain ⟨a_0, a_1, a_2, a_3, a_4⟩ := KA
  obtain ⟨b_0, b_1, b_2, b_3, b_4⟩ := KB
  obtain ⟨c_0, c_1, c_2, c_3, c_4⟩ := KC
  go_wp2_with fail
  refine (refLeC A C true hm.out _).mono ?_
  rintro e w9 ⟨rfl, hb⟩
  clear s_0 s_1 s_2 s_3 s_4 s_5 s_6 r_0 r_1 r_2 r_3 r_4 r_5 r_6 x_0 x_1 x_2 x_3 x_4 x_5 x_6 x_7 x_8 x_9 a_0 a_1 a_2 a_3 a_4 b_0 b_1 b_2 b_3 b_4 c_0 c_1 c_2 c_3 c_4
  have KS : SBox w9 w.heap.size (Sm.mk 3 st sk sp sx sy sz) := HS.out.later hb
  have KR : SBox w9 (w.heap.size + 1) (Sm.mk 3 st rk rp rx ry rz) := HR.out.later hb
  have KX : Box2 w9 (w.heap.size + 1 + 1) ((x, y)) := HX.out.later hb
  have KA : Box w9 w4.heap.size (A) := HA.out.later hb
  have KB : Box w9 w5.heap.size (B) := HB.out.later hb
  have KC : Box w9 w6.heap.size (C) := HC.out.later hb
  have G : Hid (Grow w w9) := hide (Grow.trans' G.out hb)
  clear hb HS HR HX HA HB HC
  have HS := hide KS
  have HR := hide KR
  have HX := hide KX
  have HA := hide KA
  have HB := hide KB
  have HC := hide KC
  obtain ⟨s_0, s_1, s_2, s_3, s_4, s_5, s_6⟩ := KS
  obtain ⟨r_0, r_1, r_2, r_3, r_4, r_5, r_6⟩ := KR
  obtain ⟨x_0, x_1, x_2, x_3, x_4, x_5, x_6, x_7, x_8, x_9⟩ := KX
  obtain ⟨a_0, a_1, a_2, a_3, a_4⟩ := KA
  obtain ⟨b_0, b_1, b_2, b_3, b_4⟩ := KB
  obtain ⟨c_0, c_1, c_2, c_3, c_4⟩ := KC
  go_wp2_with fail
  refine (sLeC (Sm.mk 3 st sk sp sx sy sz) (Sm.mk 3 st rk rp rx ry rz) false hl.out _).mono ?_
  rintro e w10 ⟨rfl, hb⟩
  clear s_0 s_1 s_2 s_3 s_4 s_5 s_6 r_0 r_1 r_2 r_3 r_4 r_5 r_6 x_0 x_1 x_2 x_3 x_4 x_5 x_6 x_7 x_8 x_9 a_0 a_1 a_2 a_3 a_4 b_0 b_1 b_2 b_3 b_4 c_0 c_1 c_2 c_3 c_4
  have KS : SBox w10 w.heap.size (Sm.mk 3 st sk sp sx sy sz) := HS.out.later hb
  have KR : SBox w10 (w.heap.size + 1) (Sm.mk 3 st rk rp rx ry rz) := HR.out.later hb
  have KX : Box2 w10 (w.heap.size + 1 + 1) ((x, y)) := HX.out.later hb
  have KA : Box w10 w4.heap.size (A) := HA.out.later hb
  have KB : Box w10 w5.heap.size (B) := HB.out.later hb
  have KC : Box w10 w6.heap.size (C) := HC.out.later hb
  have G : Hid (Grow w w10) := hide (Grow.trans' G.out hb)
  clear hb HS HR HX HA HB HC
  have HS := hide KS
  have HR := hide KR
  have HX := hide KX
  have HA := hide KA
  have HB := hide KB
  have HC := hide KC
  obtain ⟨s_0, s_1, s_2, s_3, s_4, s_5, s_6⟩ := KS
  obtain ⟨r_0, r_1, r_2, r_3, r_4, r_5, r_6⟩ := KR
  obtain ⟨x_0, x_1, x_2, x_3, x_4, x_5, x_6, x_7, x_8, x_9⟩ := KX
  obtain ⟨a_0, a_1, a_2, a_3, a_4⟩ := KA
  obtain ⟨b_0, b_1, b_2, b_3, b_4⟩ := KB
  obtain ⟨c_0, c_1, c_2, c_3, c_4⟩ := KC
  go_wp2_with fail
  refine (sLeC (Sm.mk 3 st sk sp sx sy sz) (Sm.mk 3 st rk rp rx ry rz) false hl.out _).mono ?_
  rintro e w11 ⟨rfl, hb⟩
  clear s_0 s_1 s_2 s_3 s_4 s_5 s_6 r_0 r_1 r_2 r_3 r_4 r_5 r_6 x_0 x_1 x_2 x_3 x_4 x_5 x_6 x_7 x_8 x_9 a_0 a_1 a_2 a_3 a_4 b_0 b_1 b_2 b_3 b_4 c_0 c_1 c_2 c_3 c_4
  have KS : SBox w11 w.heap.size (Sm.mk 3 st sk sp sx sy sz) := HS.out.later hb
  have KR : SBox w11 (w.heap.size + 1) (Sm.mk 3 st rk rp rx ry rz) := HR.out.later hb
  have KX : Box2 w11 (w.heap.size + 1 + 1) ((x, y)) := HX.out.later hb
  have KA : Box w11 w4.heap.size (A) := HA.out.later hb
  have KB : Box w11 w5.heap.size (B) := HB.out.later hb
  have KC : Box w11 w6.heap.size (C) := HC.out.later hb
  have G : Hid (Grow w w11) := hide (Grow.trans' G.out hb)
  clear hb HS HR HX HA HB HC
  have z0 : w.heap.size < w11.heap.size := World.block_lt_of_cell? _ _ KS.1
  have z1 : w.heap.size + 1 < w11.heap.size := World.block_lt_of_cell? _ _ KR.1
  have HS := hide KS
  have HR := hide KR
  clear KA KB KC KX KR
  obtain ⟨s0, s1, s2, s3, s4, s5, s6⟩ := KS
  dsimp only at s0 s1 s2 s3 s4 s5 s6
  go_wp2_with fail
  repeat any_goals (first | (refine wp_loop_rounds 4 ?_; rw [rounds_succ]; go_wp2_with fail) | (rw [rounds_succ]; go_wp2_with fail))
  clear s0 s1 s2 s3 s4 s5 s6
  have KS : SBox ((w11.alloc (.cells #[.int .i64 0, .int .i64 3, .int .i64 500, .int .i64 500, .int .i64 500] 30)).alloc (.cells #[.int .i64 0, .int .i64 3, .int .i64 0, .int .i64 0, .int .i64 0] 30)) w.heap.size (Sm.mk 3 st sk sp sx sy sz) := (HS.out.later (Grow.alloc' _ _)).later (Grow.alloc' _ _)
  have KR : SBox ((w11.alloc (.cells #[.int .i64 0, .int .i64 3, .int .i64 500, .int .i64 500, .int .i64 500] 30)).alloc (.cells #[.int .i64 0, .int .i64 3, .int .i64 0, .int .i64 0, .int .i64 0] 30)) (w.heap.size + 1) (Sm.mk 3 st rk rp rx ry rz) := (HR.out.later (Grow.alloc' _ _)).later (Grow.alloc' _ _)
  have KT : Box ((w11.alloc (.cells #[.int .i64 0, .int .i64 3, .int .i64 500, .int .i64 500, .int .i64 500] 30)).alloc (.cells #[.int .i64 0, .int .i64 3, .int .i64 0, .int .i64 0, .int .i64 0] 30)) w11.heap.size (Tm.mk 0 3 500 500 500) := by simp [Box, go_sem]
  have KN : Box ((w11.alloc (.cells #[.int .i64 0, .int .i64 3, .int .i64 500, .int .i64 500, .int .i64 500] 30)).alloc (.cells #[.int .i64 0, .int .i64 3, .int .i64 0, .int .i64 0, .int .i64 0] 30)) (w11.heap.size + 1) (Tm.mk 0 3 0 0 0) := by simp [Box, go_sem]
  have G : Hid (Grow w ((w11.alloc (.cells #[.int .i64 0, .int .i64 3, .int .i64 500, .int .i64 500, .int .i64 500] 30)).alloc (.cells #[.int .i64 0, .int .i64 3, .int .i64 0, .int .i64 0, .int .i64 0] 30))) := hide (Grow.trans' (Grow.trans' G.out (Grow.alloc' _ _)) (Grow.alloc' _ _))
  clear HS HR
  have HS := hide KS
  have HR := hide KR
  have HT := hide KT
  have HN := hide KN
  obtain ⟨s_0, s_1, s_2, s_3, s_4, s_5, s_6⟩ := KS
  obtain ⟨r_0, r_1, r_2, r_3, r_4, r_5, r_6⟩ := KR
  obtain ⟨t_0, t_1, t_2, t_3, t_4⟩ := KT
  obtain ⟨n_0, n_1, n_2, n_3, n_4⟩ := KN
  go_wp2_with fail
  refine (apply_at (Sm.mk 3 st sk sp sx sy sz) (Tm.mk 0 3 500 500 500) P H hP.out hH.out _).mono ?_
  rintro e w12 ⟨rfl, hb⟩
  clear s_0 s_1 s_2 s_3 s_4 s_5 s_6 r_0 r_1 r_2 r_3 r_4 r_5 r_6 t_0 t_1 t_2 t_3 t_4 n_0 n_1 n_2 n_3 n_4
  have KS : SBox (w12.alloc (.cells #[.int .i64 (P).e, .int .i64 (P).d, .int .i64 (P).x, .int .i64 (P).y, .int .i64 (P).z] 30)) w.heap.size (Sm.mk 3 st sk sp sx sy sz) := (HS.out.later hb).later (Grow.alloc' _ _)
  have KR : SBox (w12.alloc (.cells #[.int .i64 (P).e, .int .i64 (P).d, .int .i64 (P).x, .int .i64 (P).y, .int .i64 (P).z] 30)) (w.heap.size + 1) (Sm.mk 3 st rk rp rx ry rz) := (HR.out.later hb).later (Grow.alloc' _ _)
  have KT : Box (w12.alloc (.cells #[.int .i64 (P).e, .int .i64 (P).d, .int .i64 (P).x, .int .i64 (P).y, .int .i64 (P).z] 30)) w11.heap.size (Tm.mk 0 3 500 500 500) := (HT.out.later hb).later (Grow.alloc' _ _)
  have KN : Box (w12.alloc (.cells #[.int .i64 (P).e, .int .i64 (P).d, .int .i64 (P).x, .int .i64 (P).y, .int .i64 (P).z] 30)) (w11.heap.size + 1) (Tm.mk 0 3 0 0 0) := (HN.out.later hb).later (Grow.alloc' _ _)
  have KP : Box (w12.alloc (.cells #[.int .i64 (P).e, .int .i64 (P).d, .int .i64 (P).x, .int .i64 (P).y, .int .i64 (P).z] 30)) w12.heap.size (P) := Box.new _ _
  have G : Hid (Grow w (w12.alloc (.cells #[.int .i64 (P).e, .int .i64 (P).d, .int .i64 (P).x, .int .i64 (P).y, .int .i64 (P).z] 30))) := hide (Grow.trans' (Grow.trans' G.out hb) (Grow.alloc' _ _))
  clear hb HS HR HT HN
  have HS := hide KS
  have HR := hide KR
  have HT := hide KT
  have HN := hide KN
  have HP := hide KP
  obtain ⟨s_0, s_1, s_2, s_3, s_4, s_5, s_6⟩ := KS
  obtain ⟨r_0, r_1, r_2, r_3, r_4, r_5, r_6⟩ := KR
  obtain ⟨t_0, t_1, t_2, t_3, t_4⟩ := KT
  obtain ⟨n_0, n_1, n_2, n_3, n_4⟩ := KN
  obtain ⟨p_0, p_1, p_2, p_3, p_4⟩ := KP
  go_wp2_with fail
  refine (apply_at (Sm.mk 3 st rk rp rx ry rz) (Tm.mk 0 3 500 500 500) Q K hQ.out hK.out _).mono ?_
  rintro e w13 ⟨rfl, hb⟩
  clear s_0 s_1 s_2 s_3 s_4 s_5 s_6 r_0 r_1 r_2 r_3 r_4 r_5 r_6 t_0 t_1 t_2 t_3 t_4 n_0 n_1 n_2 n_3 n_4 p_0 p_1 p_2 p_3 p_4
  have KS : SBox (w13.alloc (.cells #[.int .i64 (Q).e, .int .i64 (Q).d, .int .i64 (Q).x, .int .i64 (Q).y, .int .i64 (Q).z] 30)) w.heap.size (Sm.mk 3 st sk sp sx sy sz) := (HS.out.later hb).later (Grow.alloc' _ _)
  have KR : SBox (w13.alloc (.cells #[.int .i64 (Q).e, .int .i64 (Q).d, .int .i64 (Q).x, .int .i64 (Q).y, .int .i64 (Q).z] 30)) (w.heap.size + 1) (Sm.mk 3 st rk rp rx ry rz) := (HR.out.later hb).later (Grow.alloc' _ _)
  have KT : Box (w13.alloc (.cells #[.int .i64 (Q).e, .int .i64 (Q).d, .int .i64 (Q).x, .int .i64 (Q).y, .int .i64 (Q).z] 30)) w11.heap.size (Tm.mk 0 3 500 500 500) := (HT.out.later hb).later (Grow.alloc' _ _)
  have KN : Box (w13.alloc (.cells #[.int .i64 (Q).e, .int .i64 (Q).d, .int .i64 (Q).x, .int .i64 (Q).y, .int .i64 (Q).z] 30)) (w11.heap.size + 1) (Tm.mk 0 3 0 0 0) := (HN.out.later hb).later (Grow.alloc' _ _)
  have KP : Box (w13.alloc (.cells #[.int .i64 (Q).e, .int .i64 (Q).d, .int .i64 (Q).x, .int .i64 (Q).y, .int .i64 (Q).z] 30)) w12.heap.size (P) := (HP.out.later hb).later (Grow.alloc' _ _)
  have KQ : Box (w13.alloc (.cells #[.int .i64 (Q).e, .int .i64 (Q).d, .int .i64 (Q).x, .int .i64 (Q).y, .int .i64 (Q).z] 30)) w13.heap.size (Q) := Box.new _ _
  have G : Hid (Grow w (w13.alloc (.cells #[.int .i64 (Q).e, .int .i64 (Q).d, .int .i64 (Q).x, .int .i64 (Q).y, .int .i64 (Q).z] 30))) := hide (Grow.trans' (Grow.trans' G.out hb) (Grow.alloc' _ _))
  clear hb HS HR HT HN HP
  have HS := hide KS
  have HR := hide KR
  have HT := hide KT
  have HN := hide KN
  have HP := hide KP
  have HQ := hide KQ
  obtain ⟨s_0, s_1, s_2, s_3, s_4, s_5, s_6⟩ := KS
  obtain ⟨r_0, r_1, r_2, r_3, r_4, r_5, r_6⟩ := KR
  obtain ⟨t_0, t_1, t_2, t_3, t_4⟩ := KT
  obtain ⟨n_0, n_1, n_2, n_3, n_4⟩ := KN
  obtain ⟨p_0, p_1, p_2, p_3, p_4⟩ := KP
  obtain ⟨q_0, q_1, q_2, q_3, q_4⟩ := KQ
  go_wp2_with fail
  refine (apply_at (Sm.mk 3 st sk sp sx sy sz) (Tm.mk 0 3 0 0 0) U 0 hU.out hUE.out _).mono ?_
  rintro e w14 ⟨rfl, hb⟩
  clear s_0 s_1 s_2 s_3 s_4 s_5 s_6 r_0 r_1 r_2 r_3 r_4 r_5 r_6 t_0 t_1 t_2 t_3 t_4 n_0 n_1 n_2 n_3 n_4 p_0 p_1 p_2 p_3 p_4 q_0 q_1 q_2 q_3 q_4
  have KS : SBox (w14.alloc (.cells #[.int .i64 (U).e, .int .i64 (U).d, .int .i64 (U).x, .int .i64 (U).y, .int .i64 (U).z] 30)) w.heap.size (Sm.mk 3 st sk sp sx sy sz) := (HS.out.later hb).later (Grow.alloc' _ _)
  have KR : SBox (w14.alloc (.cells #[.int .i64 (U).e, .int .i64 (U).d, .int .i64 (U).x, .int .i64 (U).y, .int .i64 (U).z] 30)) (w.heap.size + 1) (Sm.mk 3 st rk rp rx ry rz) := (HR.out.later hb).later (Grow.alloc' _ _)
  have KT : Box (w14.alloc (.cells #[.int .i64 (U).e, .int .i64 (U).d, .int .i64 (U).x, .int .i64 (U).y, .int .i64 (U).z] 30)) w11.heap.size (Tm.mk 0 3 500 500 500) := (HT.out.later hb).later (Grow.alloc' _ _)
  have KN : Box (w14.alloc (.cells #[.int .i64 (U).e, .int .i64 (U).d, .int .i64 (U).x, .int .i64 (U).y, .int .i64 (U).z] 30)) (w11.heap.size + 1) (Tm.mk 0 3 0 0 0) := (HN.out.later hb).later (Grow.alloc' _ _)
  have KP : Box (w14.alloc (.cells #[.int .i64 (U).e, .int .i64 (U).d, .int .i64 (U).x, .int .i64 (U).y, .int .i64 (U).z] 30)) w12.heap.size (P) := (HP.out.later hb).later (Grow.alloc' _ _)
  have KQ : Box (w14.alloc (.cells #[.int .i64 (U).e, .int .i64 (U).d, .int .i64 (U).x, .int .i64 (U).y, .int .i64 (U).z] 30)) w13.heap.size (Q) := (HQ.out.later hb).later (Grow.alloc' _ _)
  have KU : Box (w14.alloc (.cells #[.int .i64 (U).e, .int .i64 (U).d, .int .i64 (U).x, .int .i64 (U).y, .int .i64 (U).z] 30)) w14.heap.size (U) := Box.new _ _
  have G : Hid (Grow w (w14.alloc (.cells #[.int .i64 (U).e, .int .i64 (U).d, .int .i64 (U).x, .int .i64 (U).y, .int .i64 (U).z] 30))) := hide (Grow.trans' (Grow.trans' G.out hb) (Grow.alloc' _ _))
  clear hb HS HR HT HN HP HQ
  have HS := hide KS
  have HR := hide KR
  have HT := hide KT
  have HN := hide KN
  have HP := hide KP
  have HQ := hide KQ
  have HU := hide KU
  obtain ⟨s_0, s_1, s_2, s_3, s_4, s_5, s_6⟩ := KS
  obtain ⟨r_0, r_1, r_2, r_3, r_4, r_5, r_6⟩ := KR
  obtain ⟨t_0, t_1, t_2, t_3, t_4⟩ := KT
  obtain ⟨n_0, n_1, n_2, n_3, n_4⟩ := KN
  obtain ⟨p_0, p_1, p_2, p_3, p_4⟩ := KP
  obtain ⟨q_0, q_1, q_2, q_3, q_4⟩ := KQ
  obtain ⟨u_0, u_1, u_2, u_3, u_4⟩ := KU
  go_wp2_with fail
  refine (apply_at (Sm.mk 3 st rk rp rx ry rz) (Tm.mk 0 3 0 0 0) V 0 hV.out hVE.out _).mono ?_
  rintro e w15 ⟨rfl, hb⟩
  clear s_0 s_1 s_2 s_3 s_4 s_5 s_6 r_0 r_1 r_2 r_3 r_4 r_5 r_6 t_0 t_1 t_2 t_3 t_4 n_0 n_1 n_2 n_3 n_4 p_0 p_1 p_2 p_3 p_4 q_0 q_1 q_2 q_3 q_4 u_0 u_1 u_2 u_3 u_4
  have KS : SBox (w15.alloc (.cells #[.int .i64 (V).e, .int .i64 (V).d, .int .i64 (V).x, .int .i64 (V).y, .int .i64 (V).z] 30)) w.heap.size (Sm.mk 3 st sk sp sx sy sz) := (HS.out.later hb).later (Grow.alloc' _ _)
  have KR : SBox (w15.alloc (.cells #[.int .i64 (V).e, .int .i64 (V).d, .int .i64 (V).x, .int .i64 (V).y, .int .i64 (V).z] 30)) (w.heap.size + 1) (Sm.mk 3 st rk rp rx ry rz) := (HR.out.later hb).later (Grow.alloc' _ _)
  have KT : Box (w15.alloc (.cells #[.int .i64 (V).e, .int .i64 (V).d, .int .i64 (V).x, .int .i64 (V).y, .int .i64 (V).z] 30)) w11.heap.size (Tm.mk 0 3 500 500 500) := (HT.out.later hb).later (Grow.alloc' _ _)
  have KN : Box (w15.alloc (.cells #[.int .i64 (V).e, .int .i64 (V).d, .int .i64 (V).x, .int .i64 (V).y, .int .i64 (V).z] 30)) (w11.heap.size + 1) (Tm.mk 0 3 0 0 0) := (HN.out.later hb).later (Grow.alloc' _ _)
  have KP : Box (w15.alloc (.cells #[.int .i64 (V).e, .int .i64 (V).d, .int .i64 (V).x, .int .i64 (V).y, .int .i64 (V).z] 30)) w12.heap.size (P) := (HP.out.later hb).later (Grow.alloc' _ _)
  have KQ : Box (w15.alloc (.cells #[.int .i64 (V).e, .int .i64 (V).d, .int .i64 (V).x, .int .i64 (V).y, .int .i64 (V).z] 30)) w13.heap.size (Q) := (HQ.out.later hb).later (Grow.alloc' _ _)
  have KU : Box (w15.alloc (.cells #[.int .i64 (V).e, .int .i64 (V).d, .int .i64 (V).x, .int .i64 (V).y, .int .i64 (V).z] 30)) w14.heap.size (U) := (HU.out.later hb).later (Grow.alloc' _ _)
  have KV : Box (w15.alloc (.cells #[.int .i64 (V).e, .int .i64 (V).d, .int .i64 (V).x, .int .i64 (V).y, .int .i64 (V).z] 30)) w15.heap.size (V) := Box.new _ _
  have G : Hid (Grow w (w15.alloc (.cells #[.int .i64 (V).e, .int .i64 (V).d, .int .i64 (V).x, .int .i64 (V).y, .int .i64 (V).z] 30))) := hide (Grow.trans' (Grow.trans' G.out hb) (Grow.alloc' _ _))
  clear hb HS HR HT HN HP HQ HU
  have HS := hide KS
  have HR := hide KR
  have HT := hide KT
  have HN := hide KN
  have HP := hide KP
  have HQ := hide KQ
  have HU := hide KU
  have HV := hide KV
  obtain ⟨s_0, s_1, s_2, s_3, s_4, s_5, s_6⟩ := KS
  obtain ⟨r_0, r_1, r_2, r_3, r_4, r_5, r_6⟩ := KR
  obtain ⟨t_0, t_1, t_2, t_3, t_4⟩ := KT
  obtain ⟨n_0, n_1, n_2, n_3, n_4⟩ := KN
  obtain ⟨p_0, p_1, p_2, p_3, p_4⟩ := KP
  obtain ⟨q_0, q_1, q_2, q_3, q_4⟩ := KQ
  obtain ⟨u_0, u_1, u_2, u_3, u_4⟩ := KU
  obtain ⟨v_0, v_1, v_2, v_3, v_4⟩ := KV
  go_wp2_with fail
  refine (refLeC P Q one h1o.out _).mono ?_
  rintro e w16 ⟨rfl, hb⟩
  clear s_0 s_1 s_2 s_3 s_4 s_5 s_6 r_0 r_1 r_2 r_3 r_4 r_5 r_6 t_0 t_1 t_2 t_3 t_4 n_0 n_1 n_2 n_3 n_4 p_0 p_1 p_2 p_3 p_4 q_0 q_1 q_2 q_3 q_4 u_0 u_1 u_2 u_3 u_4 v_0 v_1 v_2 v_3 v_4
  have KS : SBox w16 w.heap.size (Sm.mk 3 st sk sp sx sy sz) := HS.out.later hb
  have KR : SBox w16 (w.heap.size + 1) (Sm.mk 3 st rk rp rx ry rz) := HR.out.later hb
  have KT : Box w16 w11.heap.size (Tm.mk 0 3 500 500 500) := HT.out.later hb
  have KN : Box w16 (w11.heap.size + 1) (Tm.mk 0 3 0 0 0) := HN.out.later hb
  have KP : Box w16 w12.heap.size (P) := HP.out.later hb
  have KQ : Box w16 w13.heap.size (Q) := HQ.out.later hb
  have KU : Box w16 w14.heap.size (U) := HU.out.later hb
  have KV : Box w16 w15.heap.size (V) := HV.out.later hb
  have G : Hid (Grow w w16) := hide (Grow.trans' G.out hb)
  clear hb HS HR HT HN HP HQ HU HV
  have HS := hide KS
  have HR := hide KR
  have HT := hide KT
  have HN := hide KN
  have HP := hide KP
  have HQ := hide KQ
  have HU := hide KU
  have HV := hide KV
  obtain ⟨s_0, s_1, s_2, s_3, s_4, s_5, s_6⟩ := KS
  obtain ⟨r_0, r_1, r_2, r_3, r_4, r_5, r_6⟩ := KR
  obtain ⟨t_0, t_1, t_2, t_3, t_4⟩ := KT
  obtain ⟨n_0, n_1, n_2, n_3, n_4⟩ := KN
  obtain ⟨p_0, p_1, p_2, p_3, p_4⟩ := KP
  obtain ⟨q_0, q_1, q_2, q_3, q_4⟩ := KQ
  obtain ⟨u_0, u_1, u_2, u_3, u_4⟩ := KU
  obtain ⟨v_0, v_1, v_2, v_3, v_4⟩ := KV
  go_wp2_with fail
  refine (refLeC U V two h2o.out _).mono ?_
  rintro e w17 ⟨rfl, hb⟩
  clear s_0 s_1 s_2 s_3 s_4 s_5 s_6 r_0 r_1 r_2 r_3 r_4 r_5 r_6 t_0 t_1 t_2 t_3 t_4 n_0 n_1 n_2 n_3 n_4 p_0 p_1 p_2 p_3 p_4 q_0 q_1 q_2 q_3 q_4 u_0 u_1 u_2 u_3 u_4 v_0 v_1 v_2 v_3 v_4
  have KS : SBox w17 w.heap.size (Sm.mk 3 st sk sp sx sy sz) := HS.out.later hb
  have KR : SBox w17 (w.heap.size + 1) (Sm.mk 3 st rk rp rx ry rz) := HR.out.later hb
  have KT : Box w17 w11.heap.size (Tm.mk 0 3 500 500 500) := HT.out.later hb
  have KN : Box w17 (w11.heap.size + 1) (Tm.mk 0 3 0 0 0) := HN.out.later hb
  have KP : Box w17 w12.heap.size (P) := HP.out.later hb
  have KQ : Box w17 w13.heap.size (Q) := HQ.out.later hb
  have KU : Box w17 w14.heap.size (U) := HU.out.later hb
  have KV : Box w17 w15.heap.size (V) := HV.out.later hb
  have G : Hid (Grow w w17) := hide (Grow.trans' G.out hb)
  clear hb HS HR HT HN HP HQ HU HV
  clear KS KT KN KP KQ KU KV
  obtain ⟨r0, r1, r2, r3, r4, r5, r6⟩ := KR
  dsimp only at r0 r1 r2 r3 r4 r5 r6
  cases two
  · go_wp2_with fail
    go_ret
    exact ⟨rfl, G.out⟩
  by_cases eH : H = 0
  rotate_left
  · go_wp2_with fail
    go_ret
    exact ⟨rfl, G.out⟩
  by_cases eK : K = 0
  rotate_left
  · subst eH
    go_wp2_with fail
    go_ret
    exact ⟨rfl, G.out⟩
  subst eH eK
  cases one
  · go_wp2_with fail
    go_ret
    exact ⟨rfl, G.out⟩
  · have HI : Hid (highS (Sm.mk 3 st rk rp rx ry rz) = true) := hide (hhi.out rfl rfl rfl rfl)
    clear hhi
    go_wp2_with fail
    refine (highC (Sm.mk 3 st rk rp rx ry rz) true HI.out _).mono ?_
    rintro e w30 ⟨rfl, hb⟩
    have G := hide (Grow.trans' G.out hb)
    clear r0 r1 r2 r3 r4 r5 r6 hb
    go_wp2
    go_ret
    exact ⟨rfl, G.out⟩

end Go.Proofs.Ythidpjjphieedaa
