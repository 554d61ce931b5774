/-
  What the law SummaryThen does: for every two summaries and every time it returns true, and what was there stays as it was.
-/
import Derived.Test.YthidpjjphieedaaSShown
import Derived.Test.YthidpjjphieedaaSFacts2
namespace Go.Proofs.Ythidpjjphieedaa
open Go.RowKit Go.Sort
attribute [local go_sem ↓] eqSm eqTm
set_option linter.unusedVariables false

theorem eqS_self (s : Sm) : eqS s s = true := by simp [eqS]
theorem eqB_self (s : Tm) : eqB s s = true := by simp [eqB]
theorem cutP {P Q : Prop} (h : P) (k : P → Q) : Q := k h
theorem world_of {W X : World} (h : Grow W X) : ∃ Y, Y = X := ⟨X, rfl⟩
theorem growS {a w : World} (b o : Nat) (v : Value) (h : Below a.heap.size a w) (hp : a.heap.size ≤ b) : Below a.heap.size a (w.setCell ⟨b, o, none⟩ v) := h.setCell hp v
theorem sMayC (a : Sm) (p : Bool) (h : mayS a = p) (w : World) : Calls Try.prog 18 #[.agg #[.int .i64 a.f, .int .i64 a.t, .int .i64 a.k, .int .i64 a.ep, .int .i64 a.x, .int .i64 a.y, .int .i64 a.z]] w fun e w' => e = .returned (.bool p) ∧ Below w.heap.size w w' := by rw [← h]; exact sMay_any a w
set_option maxHeartbeats 2000000 in
theorem SummaryThen_1false (s r C : Sm) (t A B D : Tm) (E F L H : Int) (w : World) (hC : Hid (thenS s r = C)) (hE : Hid (thenE s r = E)) (hA : Hid (applyT s t = A)) (hF : Hid (applyE s t = F)) (hB : Hid (applyT r A = B)) (hG : Hid (applyE r A = L)) (hD : Hid (applyT C t = D)) (hH : Hid (applyE C t = H)) (hm : Hid (mayS s = false)) (k1 : ¬ E = 0) :
    Calls Try.prog 6 #[.agg #[.int .i64 s.f, .int .i64 s.t, .int .i64 s.k, .int .i64 s.ep, .int .i64 s.x, .int .i64 s.y, .int .i64 s.z], .agg #[.int .i64 r.f, .int .i64 r.t, .int .i64 r.k, .int .i64 r.ep, .int .i64 r.x, .int .i64 r.y, .int .i64 r.z], .agg #[.int .i64 t.e, .int .i64 t.d, .int .i64 t.x, .int .i64 t.y, .int .i64 t.z]] w fun e w' => e = .returned (.bool true) ∧ Below w.heap.size w w' := by
  have e1 := eqS_self
  go_enter Try.func6, Try.ntmps6
  have KS : SBox (((w.alloc (.cells #[.int .i64 s.f, .int .i64 s.t, .int .i64 s.k, .int .i64 s.ep, .int .i64 s.x, .int .i64 s.y, .int .i64 s.z] 24)).alloc (.cells #[.int .i64 r.f, .int .i64 r.t, .int .i64 r.k, .int .i64 r.ep, .int .i64 r.x, .int .i64 r.y, .int .i64 r.z] 24)).alloc (.cells #[.int .i64 t.e, .int .i64 t.d, .int .i64 t.x, .int .i64 t.y, .int .i64 t.z] 30)) (w.heap.size) s := by simp [SBox, go_sem]
  have KR : SBox (((w.alloc (.cells #[.int .i64 s.f, .int .i64 s.t, .int .i64 s.k, .int .i64 s.ep, .int .i64 s.x, .int .i64 s.y, .int .i64 s.z] 24)).alloc (.cells #[.int .i64 r.f, .int .i64 r.t, .int .i64 r.k, .int .i64 r.ep, .int .i64 r.x, .int .i64 r.y, .int .i64 r.z] 24)).alloc (.cells #[.int .i64 t.e, .int .i64 t.d, .int .i64 t.x, .int .i64 t.y, .int .i64 t.z] 30)) (w.heap.size + 1) r := by simp [SBox, go_sem]
  have KT : Box (((w.alloc (.cells #[.int .i64 s.f, .int .i64 s.t, .int .i64 s.k, .int .i64 s.ep, .int .i64 s.x, .int .i64 s.y, .int .i64 s.z] 24)).alloc (.cells #[.int .i64 r.f, .int .i64 r.t, .int .i64 r.k, .int .i64 r.ep, .int .i64 r.x, .int .i64 r.y, .int .i64 r.z] 24)).alloc (.cells #[.int .i64 t.e, .int .i64 t.d, .int .i64 t.x, .int .i64 t.y, .int .i64 t.z] 30)) (w.heap.size + 1 + 1) t := by simp [Box, go_sem]
  have G : Hid (Grow w (((w.alloc (.cells #[.int .i64 s.f, .int .i64 s.t, .int .i64 s.k, .int .i64 s.ep, .int .i64 s.x, .int .i64 s.y, .int .i64 s.z] 24)).alloc (.cells #[.int .i64 r.f, .int .i64 r.t, .int .i64 r.k, .int .i64 r.ep, .int .i64 r.x, .int .i64 r.y, .int .i64 r.z] 24)).alloc (.cells #[.int .i64 t.e, .int .i64 t.d, .int .i64 t.x, .int .i64 t.y, .int .i64 t.z] 30))) := hide (Grow.trans' (Grow.trans' (Grow.alloc' _ _) (Grow.alloc' _ _)) (Grow.alloc' _ _))
  have HS := hide KS
  have HR := hide KR
  have HT := hide KT
  obtain ⟨s_0, s_1, s_2, s_3, s_4, s_5, s_6⟩ := KS
  obtain ⟨r_0, r_1, r_2, r_3, r_4, r_5, r_6⟩ := KR
  obtain ⟨t_0, t_1, t_2, t_3, t_4⟩ := KT
  go_wp2_with fail
  refine (shown_any _).mono ?_
  rintro e w1 ⟨rfl, hb⟩
  clear s_0 s_1 s_2 s_3 s_4 s_5 s_6 r_0 r_1 r_2 r_3 r_4 r_5 r_6 t_0 t_1 t_2 t_3 t_4
  have KS : SBox w1 w.heap.size (s) := HS.out.later hb
  have KR : SBox w1 (w.heap.size + 1) (r) := HR.out.later hb
  have KT : Box w1 (w.heap.size + 1 + 1) (t) := HT.out.later hb
  have G : Hid (Grow w w1) := hide (Grow.trans' G.out hb)
  clear hb HS HR HT
  have HS := hide KS
  have HR := hide KR
  have HT := hide KT
  obtain ⟨s_0, s_1, s_2, s_3, s_4, s_5, s_6⟩ := KS
  obtain ⟨r_0, r_1, r_2, r_3, r_4, r_5, r_6⟩ := KR
  obtain ⟨t_0, t_1, t_2, t_3, t_4⟩ := KT
  go_wp2_with fail
  refine (then_at s r C E hC.out hE.out _).mono ?_
  rintro e w2 ⟨rfl, hb⟩
  clear s_0 s_1 s_2 s_3 s_4 s_5 s_6 r_0 r_1 r_2 r_3 r_4 r_5 r_6 t_0 t_1 t_2 t_3 t_4
  have KS : SBox (w2.alloc (.cells #[.int .i64 (C).f, .int .i64 (C).t, .int .i64 (C).k, .int .i64 (C).ep, .int .i64 (C).x, .int .i64 (C).y, .int .i64 (C).z] 24)) w.heap.size (s) := (HS.out.later hb).later (Grow.alloc' _ _)
  have KR : SBox (w2.alloc (.cells #[.int .i64 (C).f, .int .i64 (C).t, .int .i64 (C).k, .int .i64 (C).ep, .int .i64 (C).x, .int .i64 (C).y, .int .i64 (C).z] 24)) (w.heap.size + 1) (r) := (HR.out.later hb).later (Grow.alloc' _ _)
  have KT : Box (w2.alloc (.cells #[.int .i64 (C).f, .int .i64 (C).t, .int .i64 (C).k, .int .i64 (C).ep, .int .i64 (C).x, .int .i64 (C).y, .int .i64 (C).z] 24)) (w.heap.size + 1 + 1) (t) := (HT.out.later hb).later (Grow.alloc' _ _)
  have KC : SBox (w2.alloc (.cells #[.int .i64 (C).f, .int .i64 (C).t, .int .i64 (C).k, .int .i64 (C).ep, .int .i64 (C).x, .int .i64 (C).y, .int .i64 (C).z] 24)) w2.heap.size (C) := SBox.new _ _
  have G : Hid (Grow w (w2.alloc (.cells #[.int .i64 (C).f, .int .i64 (C).t, .int .i64 (C).k, .int .i64 (C).ep, .int .i64 (C).x, .int .i64 (C).y, .int .i64 (C).z] 24))) := hide (Grow.trans' (Grow.trans' G.out hb) (Grow.alloc' _ _))
  clear hb HS HR HT
  have HS := hide KS
  have HR := hide KR
  have HT := hide KT
  have HC := hide KC
  obtain ⟨s_0, s_1, s_2, s_3, s_4, s_5, s_6⟩ := KS
  obtain ⟨r_0, r_1, r_2, r_3, r_4, r_5, r_6⟩ := KR
  obtain ⟨t_0, t_1, t_2, t_3, t_4⟩ := KT
  obtain ⟨c_0, c_1, c_2, c_3, c_4, c_5, c_6⟩ := KC
  go_wp2_with fail
  refine (apply_at s t A F hA.out hF.out _).mono ?_
  rintro e w3 ⟨rfl, hb⟩
  clear s_0 s_1 s_2 s_3 s_4 s_5 s_6 r_0 r_1 r_2 r_3 r_4 r_5 r_6 t_0 t_1 t_2 t_3 t_4 c_0 c_1 c_2 c_3 c_4 c_5 c_6
  have KS : SBox (w3.alloc (.cells #[.int .i64 (A).e, .int .i64 (A).d, .int .i64 (A).x, .int .i64 (A).y, .int .i64 (A).z] 30)) w.heap.size (s) := (HS.out.later hb).later (Grow.alloc' _ _)
  have KR : SBox (w3.alloc (.cells #[.int .i64 (A).e, .int .i64 (A).d, .int .i64 (A).x, .int .i64 (A).y, .int .i64 (A).z] 30)) (w.heap.size + 1) (r) := (HR.out.later hb).later (Grow.alloc' _ _)
  have KT : Box (w3.alloc (.cells #[.int .i64 (A).e, .int .i64 (A).d, .int .i64 (A).x, .int .i64 (A).y, .int .i64 (A).z] 30)) (w.heap.size + 1 + 1) (t) := (HT.out.later hb).later (Grow.alloc' _ _)
  have KC : SBox (w3.alloc (.cells #[.int .i64 (A).e, .int .i64 (A).d, .int .i64 (A).x, .int .i64 (A).y, .int .i64 (A).z] 30)) w2.heap.size (C) := (HC.out.later hb).later (Grow.alloc' _ _)
  have KA : Box (w3.alloc (.cells #[.int .i64 (A).e, .int .i64 (A).d, .int .i64 (A).x, .int .i64 (A).y, .int .i64 (A).z] 30)) w3.heap.size (A) := Box.new _ _
  have G : Hid (Grow w (w3.alloc (.cells #[.int .i64 (A).e, .int .i64 (A).d, .int .i64 (A).x, .int .i64 (A).y, .int .i64 (A).z] 30))) := hide (Grow.trans' (Grow.trans' G.out hb) (Grow.alloc' _ _))
  clear hb HS HR HT HC
  have HS := hide KS
  have HR := hide KR
  have HT := hide KT
  have HC := hide KC
  have HA := hide KA
  obtain ⟨s_0, s_1, s_2, s_3, s_4, s_5, s_6⟩ := KS
  obtain ⟨r_0, r_1, r_2, r_3, r_4, r_5, r_6⟩ := KR
  obtain ⟨t_0, t_1, t_2, t_3, t_4⟩ := KT
  obtain ⟨c_0, c_1, c_2, c_3, c_4, c_5, c_6⟩ := KC
  obtain ⟨a_0, a_1, a_2, a_3, a_4⟩ := KA
  go_wp2_with fail
  refine (apply_at r A B L hB.out hG.out _).mono ?_
  rintro e w4 ⟨rfl, hb⟩
  clear s_0 s_1 s_2 s_3 s_4 s_5 s_6 r_0 r_1 r_2 r_3 r_4 r_5 r_6 t_0 t_1 t_2 t_3 t_4 c_0 c_1 c_2 c_3 c_4 c_5 c_6 a_0 a_1 a_2 a_3 a_4
  have KS : SBox (w4.alloc (.cells #[.int .i64 (B).e, .int .i64 (B).d, .int .i64 (B).x, .int .i64 (B).y, .int .i64 (B).z] 30)) w.heap.size (s) := (HS.out.later hb).later (Grow.alloc' _ _)
  have KR : SBox (w4.alloc (.cells #[.int .i64 (B).e, .int .i64 (B).d, .int .i64 (B).x, .int .i64 (B).y, .int .i64 (B).z] 30)) (w.heap.size + 1) (r) := (HR.out.later hb).later (Grow.alloc' _ _)
  have KT : Box (w4.alloc (.cells #[.int .i64 (B).e, .int .i64 (B).d, .int .i64 (B).x, .int .i64 (B).y, .int .i64 (B).z] 30)) (w.heap.size + 1 + 1) (t) := (HT.out.later hb).later (Grow.alloc' _ _)
  have KC : SBox (w4.alloc (.cells #[.int .i64 (B).e, .int .i64 (B).d, .int .i64 (B).x, .int .i64 (B).y, .int .i64 (B).z] 30)) w2.heap.size (C) := (HC.out.later hb).later (Grow.alloc' _ _)
  have KA : Box (w4.alloc (.cells #[.int .i64 (B).e, .int .i64 (B).d, .int .i64 (B).x, .int .i64 (B).y, .int .i64 (B).z] 30)) w3.heap.size (A) := (HA.out.later hb).later (Grow.alloc' _ _)
  have KB : Box (w4.alloc (.cells #[.int .i64 (B).e, .int .i64 (B).d, .int .i64 (B).x, .int .i64 (B).y, .int .i64 (B).z] 30)) w4.heap.size (B) := Box.new _ _
  have G : Hid (Grow w (w4.alloc (.cells #[.int .i64 (B).e, .int .i64 (B).d, .int .i64 (B).x, .int .i64 (B).y, .int .i64 (B).z] 30))) := hide (Grow.trans' (Grow.trans' G.out hb) (Grow.alloc' _ _))
  clear hb HS HR HT HC HA
  have HS := hide KS
  have HR := hide KR
  have HT := hide KT
  have HC := hide KC
  have HA := hide KA
  have HB := hide KB
  obtain ⟨s_0, s_1, s_2, s_3, s_4, s_5, s_6⟩ := KS
  obtain ⟨r_0, r_1, r_2, r_3, r_4, r_5, r_6⟩ := KR
  obtain ⟨t_0, t_1, t_2, t_3, t_4⟩ := KT
  obtain ⟨c_0, c_1, c_2, c_3, c_4, c_5, c_6⟩ := KC
  obtain ⟨a_0, a_1, a_2, a_3, a_4⟩ := KA
  obtain ⟨b_0, b_1, b_2, b_3, b_4⟩ := KB
  go_wp2_with fail
  refine (apply_at C t D H hD.out hH.out _).mono ?_
  rintro e w5 ⟨rfl, hb⟩
  clear s_0 s_1 s_2 s_3 s_4 s_5 s_6 r_0 r_1 r_2 r_3 r_4 r_5 r_6 t_0 t_1 t_2 t_3 t_4 c_0 c_1 c_2 c_3 c_4 c_5 c_6 a_0 a_1 a_2 a_3 a_4 b_0 b_1 b_2 b_3 b_4
  have KS : SBox (w5.alloc (.cells #[.int .i64 (D).e, .int .i64 (D).d, .int .i64 (D).x, .int .i64 (D).y, .int .i64 (D).z] 30)) w.heap.size (s) := (HS.out.later hb).later (Grow.alloc' _ _)
  have KR : SBox (w5.alloc (.cells #[.int .i64 (D).e, .int .i64 (D).d, .int .i64 (D).x, .int .i64 (D).y, .int .i64 (D).z] 30)) (w.heap.size + 1) (r) := (HR.out.later hb).later (Grow.alloc' _ _)
  have KT : Box (w5.alloc (.cells #[.int .i64 (D).e, .int .i64 (D).d, .int .i64 (D).x, .int .i64 (D).y, .int .i64 (D).z] 30)) (w.heap.size + 1 + 1) (t) := (HT.out.later hb).later (Grow.alloc' _ _)
  have KC : SBox (w5.alloc (.cells #[.int .i64 (D).e, .int .i64 (D).d, .int .i64 (D).x, .int .i64 (D).y, .int .i64 (D).z] 30)) w2.heap.size (C) := (HC.out.later hb).later (Grow.alloc' _ _)
  have KA : Box (w5.alloc (.cells #[.int .i64 (D).e, .int .i64 (D).d, .int .i64 (D).x, .int .i64 (D).y, .int .i64 (D).z] 30)) w3.heap.size (A) := (HA.out.later hb).later (Grow.alloc' _ _)
  have KB : Box (w5.alloc (.cells #[.int .i64 (D).e, .int .i64 (D).d, .int .i64 (D).x, .int .i64 (D).y, .int .i64 (D).z] 30)) w4.heap.size (B) := (HB.out.later hb).later (Grow.alloc' _ _)
  have KD : Box (w5.alloc (.cells #[.int .i64 (D).e, .int .i64 (D).d, .int .i64 (D).x, .int .i64 (D).y, .int .i64 (D).z] 30)) w5.heap.size (D) := Box.new _ _
  have G : Hid (Grow w (w5.alloc (.cells #[.int .i64 (D).e, .int .i64 (D).d, .int .i64 (D).x, .int .i64 (D).y, .int .i64 (D).z] 30))) := hide (Grow.trans' (Grow.trans' G.out hb) (Grow.alloc' _ _))
  clear hb HS HR HT HC HA HB
  obtain ⟨s0, s1, s2, s3, s4, s5, s6⟩ := KS
  obtain ⟨b0, b1, b2, b3, b4⟩ := KB
  obtain ⟨d0, d1, d2, d3, d4⟩ := KD
  clear KR KT KC KA
  go_wp2_with fail
  refine (sMayC s false hm.out _).mono ?_
  rintro e w6 ⟨rfl, hb⟩
  have G' := hide (Grow.trans' G.out hb)
  clear s0 s1 s2 s3 s4 s5 s6 b0 b1 b2 b3 b4 d0 d1 d2 d3 d4
  go_wp2
  go_ret
  exact ⟨rfl, G'.out⟩
set_option maxHeartbeats 2000000 in
theorem SummaryThen_2false (s r C : Sm) (t A B D : Tm) (E F L H : Int) (w : World) (hC : Hid (thenS s r = C)) (hE : Hid (thenE s r = 0)) (hA : Hid (applyT s t = A)) (hF : Hid (applyE s t = F)) (hB : Hid (applyT r A = B)) (hG : Hid (applyE r A = L)) (hD : Hid (applyT C t = D)) (hH : Hid (applyE C t = H)) (hm : Hid (mayS s = false)) (k1 : ¬ F = 0) :
    Calls Try.prog 6 #[.agg #[.int .i64 s.f, .int .i64 s.t, .int .i64 s.k, .int .i64 s.ep, .int .i64 s.x, .int .i64 s.y, .int .i64 s.z], .agg #[.int .i64 r.f, .int .i64 r.t, .int .i64 r.k, .int .i64 r.ep, .int .i64 r.x, .int .i64 r.y, .int .i64 r.z], .agg #[.int .i64 t.e, .int .i64 t.d, .int .i64 t.x, .int .i64 t.y, .int .i64 t.z]] w fun e w' => e = .returned (.bool true) ∧ Below w.heap.size w w' := by
  have e1 := eqS_self
  go_enter Try.func6, Try.ntmps6
  have KS : SBox (((w.alloc (.cells #[.int .i64 s.f, .int .i64 s.t, .int .i64 s.k, .int .i64 s.ep, .int .i64 s.x, .int .i64 s.y, .int .i64 s.z] 24)).alloc (.cells #[.int .i64 r.f, .int .i64 r.t, .int .i64 r.k, .int .i64 r.ep, .int .i64 r.x, .int .i64 r.y, .int .i64 r.z] 24)).alloc (.cells #[.int .i64 t.e, .int .i64 t.d, .int .i64 t.x, .int .i64 t.y, .int .i64 t.z] 30)) (w.heap.size) s := by simp [SBox, go_sem]
  have KR : SBox (((w.alloc (.cells #[.int .i64 s.f, .int .i64 s.t, .int .i64 s.k, .int .i64 s.ep, .int .i64 s.x, .int .i64 s.y, .int .i64 s.z] 24)).alloc (.cells #[.int .i64 r.f, .int .i64 r.t, .int .i64 r.k, .int .i64 r.ep, .int .i64 r.x, .int .i64 r.y, .int .i64 r.z] 24)).alloc (.cells #[.int .i64 t.e, .int .i64 t.d, .int .i64 t.x, .int .i64 t.y, .int .i64 t.z] 30)) (w.heap.size + 1) r := by simp [SBox, go_sem]
  have KT : Box (((w.alloc (.cells #[.int .i64 s.f, .int .i64 s.t, .int .i64 s.k, .int .i64 s.ep, .int .i64 s.x, .int .i64 s.y, .int .i64 s.z] 24)).alloc (.cells #[.int .i64 r.f, .int .i64 r.t, .int .i64 r.k, .int .i64 r.ep, .int .i64 r.x, .int .i64 r.y, .int .i64 r.z] 24)).alloc (.cells #[.int .i64 t.e, .int .i64 t.d, .int .i64 t.x, .int .i64 t.y, .int .i64 t.z] 30)) (w.heap.size + 1 + 1) t := by simp [Box, go_sem]
  have G : Hid (Grow w (((w.alloc (.cells #[.int .i64 s.f, .int .i64 s.t, .int .i64 s.k, .int .i64 s.ep, .int .i64 s.x, .int .i64 s.y, .int .i64 s.z] 24)).alloc (.cells #[.int .i64 r.f, .int .i64 r.t, .int .i64 r.k, .int .i64 r.ep, .int .i64 r.x, .int .i64 r.y, .int .i64 r.z] 24)).alloc (.cells #[.int .i64 t.e, .int .i64 t.d, .int .i64 t.x, .int .i64 t.y, .int .i64 t.z] 30))) := hide (Grow.trans' (Grow.trans' (Grow.alloc' _ _) (Grow.alloc' _ _)) (Grow.alloc' _ _))
  have HS := hide KS
  have HR := hide KR
  have HT := hide KT
  obtain ⟨s_0, s_1, s_2, s_3, s_4, s_5, s_6⟩ := KS
  obtain ⟨r_0, r_1, r_2, r_3, r_4, r_5, r_6⟩ := KR
  obtain ⟨t_0, t_1, t_2, t_3, t_4⟩ := KT
  go_wp2_with fail
  refine (shown_any _).mono ?_
  rintro e w1 ⟨rfl, hb⟩
  clear s_0 s_1 s_2 s_3 s_4 s_5 s_6 r_0 r_1 r_2 r_3 r_4 r_5 r_6 t_0 t_1 t_2 t_3 t_4
  have KS : SBox w1 w.heap.size (s) := HS.out.later hb
  have KR : SBox w1 (w.heap.size + 1) (r) := HR.out.later hb
  have KT : Box w1 (w.heap.size + 1 + 1) (t) := HT.out.later hb
  have G : Hid (Grow w w1) := hide (Grow.trans' G.out hb)
  clear hb HS HR HT
  have HS := hide KS
  have HR := hide KR
  have HT := hide KT
  obtain ⟨s_0, s_1, s_2, s_3, s_4, s_5, s_6⟩ := KS
  obtain ⟨r_0, r_1, r_2, r_3, r_4, r_5, r_6⟩ := KR
  obtain ⟨t_0, t_1, t_2, t_3, t_4⟩ := KT
  go_wp2_with fail
  refine (then_at s r C 0 hC.out hE.out _).mono ?_
  rintro e w2 ⟨rfl, hb⟩
  clear s_0 s_1 s_2 s_3 s_4 s_5 s_6 r_0 r_1 r_2 r_3 r_4 r_5 r_6 t_0 t_1 t_2 t_3 t_4
  have KS : SBox (w2.alloc (.cells #[.int .i64 (C).f, .int .i64 (C).t, .int .i64 (C).k, .int .i64 (C).ep, .int .i64 (C).x, .int .i64 (C).y, .int .i64 (C).z] 24)) w.heap.size (s) := (HS.out.later hb).later (Grow.alloc' _ _)
  have KR : SBox (w2.alloc (.cells #[.int .i64 (C).f, .int .i64 (C).t, .int .i64 (C).k, .int .i64 (C).ep, .int .i64 (C).x, .int .i64 (C).y, .int .i64 (C).z] 24)) (w.heap.size + 1) (r) := (HR.out.later hb).later (Grow.alloc' _ _)
  have KT : Box (w2.alloc (.cells #[.int .i64 (C).f, .int .i64 (C).t, .int .i64 (C).k, .int .i64 (C).ep, .int .i64 (C).x, .int .i64 (C).y, .int .i64 (C).z] 24)) (w.heap.size + 1 + 1) (t) := (HT.out.later hb).later (Grow.alloc' _ _)
  have KC : SBox (w2.alloc (.cells #[.int .i64 (C).f, .int .i64 (C).t, .int .i64 (C).k, .int .i64 (C).ep, .int .i64 (C).x, .int .i64 (C).y, .int .i64 (C).z] 24)) w2.heap.size (C) := SBox.new _ _
  have G : Hid (Grow w (w2.alloc (.cells #[.int .i64 (C).f, .int .i64 (C).t, .int .i64 (C).k, .int .i64 (C).ep, .int .i64 (C).x, .int .i64 (C).y, .int .i64 (C).z] 24))) := hide (Grow.trans' (Grow.trans' G.out hb) (Grow.alloc' _ _))
  clear hb HS HR HT
  have HS := hide KS
  have HR := hide KR
  have HT := hide KT
  have HC := hide KC
  obtain ⟨s_0, s_1, s_2, s_3, s_4, s_5, s_6⟩ := KS
  obtain ⟨r_0, r_1, r_2, r_3, r_4, r_5, r_6⟩ := KR
  obtain ⟨t_0, t_1, t_2, t_3, t_4⟩ := KT
  obtain ⟨c_0, c_1, c_2, c_3, c_4, c_5, c_6⟩ := KC
  go_wp2_with fail
  refine (apply_at s t A F hA.out hF.out _).mono ?_
  rintro e w3 ⟨rfl, hb⟩
  clear s_0 s_1 s_2 s_3 s_4 s_5 s_6 r_0 r_1 r_2 r_3 r_4 r_5 r_6 t_0 t_1 t_2 t_3 t_4 c_0 c_1 c_2 c_3 c_4 c_5 c_6
  have KS : SBox (w3.alloc (.cells #[.int .i64 (A).e, .int .i64 (A).d, .int .i64 (A).x, .int .i64 (A).y, .int .i64 (A).z] 30)) w.heap.size (s) := (HS.out.later hb).later (Grow.alloc' _ _)
  have KR : SBox (w3.alloc (.cells #[.int .i64 (A).e, .int .i64 (A).d, .int .i64 (A).x, .int .i64 (A).y, .int .i64 (A).z] 30)) (w.heap.size + 1) (r) := (HR.out.later hb).later (Grow.alloc' _ _)
  have KT : Box (w3.alloc (.cells #[.int .i64 (A).e, .int .i64 (A).d, .int .i64 (A).x, .int .i64 (A).y, .int .i64 (A).z] 30)) (w.heap.size + 1 + 1) (t) := (HT.out.later hb).later (Grow.alloc' _ _)
  have KC : SBox (w3.alloc (.cells #[.int .i64 (A).e, .int .i64 (A).d, .int .i64 (A).x, .int .i64 (A).y, .int .i64 (A).z] 30)) w2.heap.size (C) := (HC.out.later hb).later (Grow.alloc' _ _)
  have KA : Box (w3.alloc (.cells #[.int .i64 (A).e, .int .i64 (A).d, .int .i64 (A).x, .int .i64 (A).y, .int .i64 (A).z] 30)) w3.heap.size (A) := Box.new _ _
  have G : Hid (Grow w (w3.alloc (.cells #[.int .i64 (A).e, .int .i64 (A).d, .int .i64 (A).x, .int .i64 (A).y, .int .i64 (A).z] 30))) := hide (Grow.trans' (Grow.trans' G.out hb) (Grow.alloc' _ _))
  clear hb HS HR HT HC
  have HS := hide KS
  have HR := hide KR
  have HT := hide KT
  have HC := hide KC
  have HA := hide KA
  obtain ⟨s_0, s_1, s_2, s_3, s_4, s_5, s_6⟩ := KS
  obtain ⟨r_0, r_1, r_2, r_3, r_4, r_5, r_6⟩ := KR
  obtain ⟨t_0, t_1, t_2, t_3, t_4⟩ := KT
  obtain ⟨c_0, c_1, c_2, c_3, c_4, c_5, c_6⟩ := KC
  obtain ⟨a_0, a_1, a_2, a_3, a_4⟩ := KA
  go_wp2_with fail
  refine (apply_at r A B L hB.out hG.out _).mono ?_
  rintro e w4 ⟨rfl, hb⟩
  clear s_0 s_1 s_2 s_3 s_4 s_5 s_6 r_0 r_1 r_2 r_3 r_4 r_5 r_6 t_0 t_1 t_2 t_3 t_4 c_0 c_1 c_2 c_3 c_4 c_5 c_6 a_0 a_1 a_2 a_3 a_4
  have KS : SBox (w4.alloc (.cells #[.int .i64 (B).e, .int .i64 (B).d, .int .i64 (B).x, .int .i64 (B).y, .int .i64 (B).z] 30)) w.heap.size (s) := (HS.out.later hb).later (Grow.alloc' _ _)
  have KR : SBox (w4.alloc (.cells #[.int .i64 (B).e, .int .i64 (B).d, .int .i64 (B).x, .int .i64 (B).y, .int .i64 (B).z] 30)) (w.heap.size + 1) (r) := (HR.out.later hb).later (Grow.alloc' _ _)
  have KT : Box (w4.alloc (.cells #[.int .i64 (B).e, .int .i64 (B).d, .int .i64 (B).x, .int .i64 (B).y, .int .i64 (B).z] 30)) (w.heap.size + 1 + 1) (t) := (HT.out.later hb).later (Grow.alloc' _ _)
  have KC : SBox (w4.alloc (.cells #[.int .i64 (B).e, .int .i64 (B).d, .int .i64 (B).x, .int .i64 (B).y, .int .i64 (B).z] 30)) w2.heap.size (C) := (HC.out.later hb).later (Grow.alloc' _ _)
  have KA : Box (w4.alloc (.cells #[.int .i64 (B).e, .int .i64 (B).d, .int .i64 (B).x, .int .i64 (B).y, .int .i64 (B).z] 30)) w3.heap.size (A) := (HA.out.later hb).later (Grow.alloc' _ _)
  have KB : Box (w4.alloc (.cells #[.int .i64 (B).e, .int .i64 (B).d, .int .i64 (B).x, .int .i64 (B).y, .int .i64 (B).z] 30)) w4.heap.size (B) := Box.new _ _
  have G : Hid (Grow w (w4.alloc (.cells #[.int .i64 (B).e, .int .i64 (B).d, .int .i64 (B).x, .int .i64 (B).y, .int .i64 (B).z] 30))) := hide (Grow.trans' (Grow.trans' G.out hb) (Grow.alloc' _ _))
  clear hb HS HR HT HC HA
  have HS := hide KS
  have HR := hide KR
  have HT := hide KT
  have HC := hide KC
  have HA := hide KA
  have HB := hide KB
  obtain ⟨s_0, s_1, s_2, s_3, s_4, s_5, s_6⟩ := KS
  obtain ⟨r_0, r_1, r_2, r_3, r_4, r_5, r_6⟩ := KR
  obtain ⟨t_0, t_1, t_2, t_3, t_4⟩ := KT
  obtain ⟨c_0, c_1, c_2, c_3, c_4, c_5, c_6⟩ := KC
  obtain ⟨a_0, a_1, a_2, a_3, a_4⟩ := KA
  obtain ⟨b_0, b_1, b_2, b_3, b_4⟩ := KB
  go_wp2_with fail
  refine (apply_at C t D H hD.out hH.out _).mono ?_
  rintro e w5 ⟨rfl, hb⟩
  clear s_0 s_1 s_2 s_3 s_4 s_5 s_6 r_0 r_1 r_2 r_3 r_4 r_5 r_6 t_0 t_1 t_2 t_3 t_4 c_0 c_1 c_2 c_3 c_4 c_5 c_6 a_0 a_1 a_2 a_3 a_4 b_0 b_1 b_2 b_3 b_4
  have KS : SBox (w5.alloc (.cells #[.int .i64 (D).e, .int .i64 (D).d, .int .i64 (D).x, .int .i64 (D).y, .int .i64 (D).z] 30)) w.heap.size (s) := (HS.out.later hb).later (Grow.alloc' _ _)
  have KR : SBox (w5.alloc (.cells #[.int .i64 (D).e, .int .i64 (D).d, .int .i64 (D).x, .int .i64 (D).y, .int .i64 (D).z] 30)) (w.heap.size + 1) (r) := (HR.out.later hb).later (Grow.alloc' _ _)
  have KT : Box (w5.alloc (.cells #[.int .i64 (D).e, .int .i64 (D).d, .int .i64 (D).x, .int .i64 (D).y, .int .i64 (D).z] 30)) (w.heap.size + 1 + 1) (t) := (HT.out.later hb).later (Grow.alloc' _ _)
  have KC : SBox (w5.alloc (.cells #[.int .i64 (D).e, .int .i64 (D).d, .int .i64 (D).x, .int .i64 (D).y, .int .i64 (D).z] 30)) w2.heap.size (C) := (HC.out.later hb).later (Grow.alloc' _ _)
  have KA : Box (w5.alloc (.cells #[.int .i64 (D).e, .int .i64 (D).d, .int .i64 (D).x, .int .i64 (D).y, .int .i64 (D).z] 30)) w3.heap.size (A) := (HA.out.later hb).later (Grow.alloc' _ _)
  have KB : Box (w5.alloc (.cells #[.int .i64 (D).e, .int .i64 (D).d, .int .i64 (D).x, .int .i64 (D).y, .int .i64 (D).z] 30)) w4.heap.size (B) := (HB.out.later hb).later (Grow.alloc' _ _)
  have KD : Box (w5.alloc (.cells #[.int .i64 (D).e, .int .i64 (D).d, .int .i64 (D).x, .int .i64 (D).y, .int .i64 (D).z] 30)) w5.heap.size (D) := Box.new _ _
  have G : Hid (Grow w (w5.alloc (.cells #[.int .i64 (D).e, .int .i64 (D).d, .int .i64 (D).x, .int .i64 (D).y, .int .i64 (D).z] 30))) := hide (Grow.trans' (Grow.trans' G.out hb) (Grow.alloc' _ _))
  clear hb HS HR HT HC HA HB
  obtain ⟨s0, s1, s2, s3, s4, s5, s6⟩ := KS
  obtain ⟨b0, b1, b2, b3, b4⟩ := KB
  obtain ⟨d0, d1, d2, d3, d4⟩ := KD
  clear KR KT KC KA
  go_wp2_with fail
  refine (sMayC s false hm.out _).mono ?_
  rintro e w6 ⟨rfl, hb⟩
  have G' := hide (Grow.trans' G.out hb)
  clear s0 s1 s2 s3 s4 s5 s6 b0 b1 b2 b3 b4 d0 d1 d2 d3 d4
  go_wp2
  go_ret
  exact ⟨rfl, G'.out⟩
set_option maxHeartbeats 2000000 in
theorem SummaryThen_3false (s r C : Sm) (t A B D : Tm) (E F L H : Int) (w : World) (hC : Hid (thenS s r = C)) (hE : Hid (thenE s r = 0)) (hA : Hid (applyT s t = A)) (hF : Hid (applyE s t = 0)) (hB : Hid (applyT r A = B)) (hG : Hid (applyE r A = L)) (hD : Hid (applyT C t = D)) (hH : Hid (applyE C t = H)) (hm : Hid (mayS s = false)) (k1 : ¬ L = 0) :
    Calls Try.prog 6 #[.agg #[.int .i64 s.f, .int .i64 s.t, .int .i64 s.k, .int .i64 s.ep, .int .i64 s.x, .int .i64 s.y, .int .i64 s.z], .agg #[.int .i64 r.f, .int .i64 r.t, .int .i64 r.k, .int .i64 r.ep, .int .i64 r.x, .int .i64 r.y, .int .i64 r.z], .agg #[.int .i64 t.e, .int .i64 t.d, .int .i64 t.x, .int .i64 t.y, .int .i64 t.z]] w fun e w' => e = .returned (.bool true) ∧ Below w.heap.size w w' := by
  have e1 := eqS_self
  go_enter Try.func6, Try.ntmps6
  have KS : SBox (((w.alloc (.cells #[.int .i64 s.f, .int .i64 s.t, .int .i64 s.k, .int .i64 s.ep, .int .i64 s.x, .int .i64 s.y, .int .i64 s.z] 24)).alloc (.cells #[.int .i64 r.f, .int .i64 r.t, .int .i64 r.k, .int .i64 r.ep, .int .i64 r.x, .int .i64 r.y, .int .i64 r.z] 24)).alloc (.cells #[.int .i64 t.e, .int .i64 t.d, .int .i64 t.x, .int .i64 t.y, .int .i64 t.z] 30)) (w.heap.size) s := by simp [SBox, go_sem]
  have KR : SBox (((w.alloc (.cells #[.int .i64 s.f, .int .i64 s.t, .int .i64 s.k, .int .i64 s.ep, .int .i64 s.x, .int .i64 s.y, .int .i64 s.z] 24)).alloc (.cells #[.int .i64 r.f, .int .i64 r.t, .int .i64 r.k, .int .i64 r.ep, .int .i64 r.x, .int .i64 r.y, .int .i64 r.z] 24)).alloc (.cells #[.int .i64 t.e, .int .i64 t.d, .int .i64 t.x, .int .i64 t.y, .int .i64 t.z] 30)) (w.heap.size + 1) r := by simp [SBox, go_sem]
  have KT : Box (((w.alloc (.cells #[.int .i64 s.f, .int .i64 s.t, .int .i64 s.k, .int .i64 s.ep, .int .i64 s.x, .int .i64 s.y, .int .i64 s.z] 24)).alloc (.cells #[.int .i64 r.f, .int .i64 r.t, .int .i64 r.k, .int .i64 r.ep, .int .i64 r.x, .int .i64 r.y, .int .i64 r.z] 24)).alloc (.cells #[.int .i64 t.e, .int .i64 t.d, .int .i64 t.x, .int .i64 t.y, .int .i64 t.z] 30)) (w.heap.size + 1 + 1) t := by simp [Box, go_sem]
  have G : Hid (Grow w (((w.alloc (.cells #[.int .i64 s.f, .int .i64 s.t, .int .i64 s.k, .int .i64 s.ep, .int .i64 s.x, .int .i64 s.y, .int .i64 s.z] 24)).alloc (.cells #[.int .i64 r.f, .int .i64 r.t, .int .i64 r.k, .int .i64 r.ep, .int .i64 r.x, .int .i64 r.y, .int .i64 r.z] 24)).alloc (.cells #[.int .i64 t.e, .int .i64 t.d, .int .i64 t.x, .int .i64 t.y, .int .i64 t.z] 30))) := hide (Grow.trans' (Grow.trans' (Grow.alloc' _ _) (Grow.alloc' _ _)) (Grow.alloc' _ _))
  have HS := hide KS
  have HR := hide KR
  have HT := hide KT
  obtain ⟨s_0, s_1, s_2, s_3, s_4, s_5, s_6⟩ := KS
  obtain ⟨r_0, r_1, r_2, r_3, r_4, r_5, r_6⟩ := KR
  obtain ⟨t_0, t_1, t_2, t_3, t_4⟩ := KT
  go_wp2_with fail
  refine (shown_any _).mono ?_
  rintro e w1 ⟨rfl, hb⟩
  clear s_0 s_1 s_2 s_3 s_4 s_5 s_6 r_0 r_1 r_2 r_3 r_4 r_5 r_6 t_0 t_1 t_2 t_3 t_4
  have KS : SBox w1 w.heap.size (s) := HS.out.later hb
  have KR : SBox w1 (w.heap.size + 1) (r) := HR.out.later hb
  have KT : Box w1 (w.heap.size + 1 + 1) (t) := HT.out.later hb
  have G : Hid (Grow w w1) := hide (Grow.trans' G.out hb)
  clear hb HS HR HT
  have HS := hide KS
  have HR := hide KR
  have HT := hide KT
  obtain ⟨s_0, s_1, s_2, s_3, s_4, s_5, s_6⟩ := KS
  obtain ⟨r_0, r_1, r_2, r_3, r_4, r_5, r_6⟩ := KR
  obtain ⟨t_0, t_1, t_2, t_3, t_4⟩ := KT
  go_wp2_with fail
  refine (then_at s r C 0 hC.out hE.out _).mono ?_
  rintro e w2 ⟨rfl, hb⟩
  clear s_0 s_1 s_2 s_3 s_4 s_5 s_6 r_0 r_1 r_2 r_3 r_4 r_5 r_6 t_0 t_1 t_2 t_3 t_4
  have KS : SBox (w2.alloc (.cells #[.int .i64 (C).f, .int .i64 (C).t, .int .i64 (C).k, .int .i64 (C).ep, .int .i64 (C).x, .int .i64 (C).y, .int .i64 (C).z] 24)) w.heap.size (s) := (HS.out.later hb).later (Grow.alloc' _ _)
  have KR : SBox (w2.alloc (.cells #[.int .i64 (C).f, .int .i64 (C).t, .int .i64 (C).k, .int .i64 (C).ep, .int .i64 (C).x, .int .i64 (C).y, .int .i64 (C).z] 24)) (w.heap.size + 1) (r) := (HR.out.later hb).later (Grow.alloc' _ _)
  have KT : Box (w2.alloc (.cells #[.int .i64 (C).f, .int .i64 (C).t, .int .i64 (C).k, .int .i64 (C).ep, .int .i64 (C).x, .int .i64 (C).y, .int .i64 (C).z] 24)) (w.heap.size + 1 + 1) (t) := (HT.out.later hb).later (Grow.alloc' _ _)
  have KC : SBox (w2.alloc (.cells #[.int .i64 (C).f, .int .i64 (C).t, .int .i64 (C).k, .int .i64 (C).ep, .int .i64 (C).x, .int .i64 (C).y, .int .i64 (C).z] 24)) w2.heap.size (C) := SBox.new _ _
  have G : Hid (Grow w (w2.alloc (.cells #[.int .i64 (C).f, .int .i64 (C).t, .int .i64 (C).k, .int .i64 (C).ep, .int .i64 (C).x, .int .i64 (C).y, .int .i64 (C).z] 24))) := hide (Grow.trans' (Grow.trans' G.out hb) (Grow.alloc' _ _))
  clear hb HS HR HT
  have HS := hide KS
  have HR := hide KR
  have HT := hide KT
  have HC := hide KC
  obtain ⟨s_0, s_1, s_2, s_3, s_4, s_5, s_6⟩ := KS
  obtain ⟨r_0, r_1, r_2, r_3, r_4, r_5, r_6⟩ := KR
  obtain ⟨t_0, t_1, t_2, t_3, t_4⟩ := KT
  obtain ⟨c_0, c_1, c_2, c_3, c_4, c_5, c_6⟩ := KC
  go_wp2_with fail
  refine (apply_at s t A 0 hA.out hF.out _).mono ?_
  rintro e w3 ⟨rfl, hb⟩
  clear s_0 s_1 s_2 s_3 s_4 s_5 s_6 r_0 r_1 r_2 r_3 r_4 r_5 r_6 t_0 t_1 t_2 t_3 t_4 c_0 c_1 c_2 c_3 c_4 c_5 c_6
  have KS : SBox (w3.alloc (.cells #[.int .i64 (A).e, .int .i64 (A).d, .int .i64 (A).x, .int .i64 (A).y, .int .i64 (A).z] 30)) w.heap.size (s) := (HS.out.later hb).later (Grow.alloc' _ _)
  have KR : SBox (w3.alloc (.cells #[.int .i64 (A).e, .int .i64 (A).d, .int .i64 (A).x, .int .i64 (A).y, .int .i64 (A).z] 30)) (w.heap.size + 1) (r) := (HR.out.later hb).later (Grow.alloc' _ _)
  have KT : Box (w3.alloc (.cells #[.int .i64 (A).e, .int .i64 (A).d, .int .i64 (A).x, .int .i64 (A).y, .int .i64 (A).z] 30)) (w.heap.size + 1 + 1) (t) := (HT.out.later hb).later (Grow.alloc' _ _)
  have KC : SBox (w3.alloc (.cells #[.int .i64 (A).e, .int .i64 (A).d, .int .i64 (A).x, .int .i64 (A).y, .int .i64 (A).z] 30)) w2.heap.size (C) := (HC.out.later hb).later (Grow.alloc' _ _)
  have KA : Box (w3.alloc (.cells #[.int .i64 (A).e, .int .i64 (A).d, .int .i64 (A).x, .int .i64 (A).y, .int .i64 (A).z] 30)) w3.heap.size (A) := Box.new _ _
  have G : Hid (Grow w (w3.alloc (.cells #[.int .i64 (A).e, .int .i64 (A).d, .int .i64 (A).x, .int .i64 (A).y, .int .i64 (A).z] 30))) := hide (Grow.trans' (Grow.trans' G.out hb) (Grow.alloc' _ _))
  clear hb HS HR HT HC
  have HS := hide KS
  have HR := hide KR
  have HT := hide KT
  have HC := hide KC
  have HA := hide KA
  obtain ⟨s_0, s_1, s_2, s_3, s_4, s_5, s_6⟩ := KS
  obtain ⟨r_0, r_1, r_2, r_3, r_4, r_5, r_6⟩ := KR
  obtain ⟨t_0, t_1, t_2, t_3, t_4⟩ := KT
  obtain ⟨c_0, c_1, c_2, c_3, c_4, c_5, c_6⟩ := KC
  obtain ⟨a_0, a_1, a_2, a_3, a_4⟩ := KA
  go_wp2_with fail
  refine (apply_at r A B L hB.out hG.out _).mono ?_
  rintro e w4 ⟨rfl, hb⟩
  clear s_0 s_1 s_2 s_3 s_4 s_5 s_6 r_0 r_1 r_2 r_3 r_4 r_5 r_6 t_0 t_1 t_2 t_3 t_4 c_0 c_1 c_2 c_3 c_4 c_5 c_6 a_0 a_1 a_2 a_3 a_4
  have KS : SBox (w4.alloc (.cells #[.int .i64 (B).e, .int .i64 (B).d, .int .i64 (B).x, .int .i64 (B).y, .int .i64 (B).z] 30)) w.heap.size (s) := (HS.out.later hb).later (Grow.alloc' _ _)
  have KR : SBox (w4.alloc (.cells #[.int .i64 (B).e, .int .i64 (B).d, .int .i64 (B).x, .int .i64 (B).y, .int .i64 (B).z] 30)) (w.heap.size + 1) (r) := (HR.out.later hb).later (Grow.alloc' _ _)
  have KT : Box (w4.alloc (.cells #[.int .i64 (B).e, .int .i64 (B).d, .int .i64 (B).x, .int .i64 (B).y, .int .i64 (B).z] 30)) (w.heap.size + 1 + 1) (t) := (HT.out.later hb).later (Grow.alloc' _ _)
  have KC : SBox (w4.alloc (.cells #[.int .i64 (B).e, .int .i64 (B).d, .int .i64 (B).x, .int .i64 (B).y, .int .i64 (B).z] 30)) w2.heap.size (C) := (HC.out.later hb).later (Grow.alloc' _ _)
  have KA : Box (w4.alloc (.cells #[.int .i64 (B).e, .int .i64 (B).d, .int .i64 (B).x, .int .i64 (B).y, .int .i64 (B).z] 30)) w3.heap.size (A) := (HA.out.later hb).later (Grow.alloc' _ _)
  have KB : Box (w4.alloc (.cells #[.int .i64 (B).e, .int .i64 (B).d, .int .i64 (B).x, .int .i64 (B).y, .int .i64 (B).z] 30)) w4.heap.size (B) := Box.new _ _
  have G : Hid (Grow w (w4.alloc (.cells #[.int .i64 (B).e, .int .i64 (B).d, .int .i64 (B).x, .int .i64 (B).y, .int .i64 (B).z] 30))) := hide (Grow.trans' (Grow.trans' G.out hb) (Grow.alloc' _ _))
  clear hb HS HR HT HC HA
  have HS := hide KS
  have HR := hide KR
  have HT := hide KT
  have HC := hide KC
  have HA := hide KA
  have HB := hide KB
  obtain ⟨s_0, s_1, s_2, s_3, s_4, s_5, s_6⟩ := KS
  obtain ⟨r_0, r_1, r_2, r_3, r_4, r_5, r_6⟩ := KR
  obtain ⟨t_0, t_1, t_2, t_3, t_4⟩ := KT
  obtain ⟨c_0, c_1, c_2, c_3, c_4, c_5, c_6⟩ := KC
  obtain ⟨a_0, a_1, a_2, a_3, a_4⟩ := KA
  obtain ⟨b_0, b_1, b_2, b_3, b_4⟩ := KB
  go_wp2_with fail
  refine (apply_at C t D H hD.out hH.out _).mono ?_
  rintro e w5 ⟨rfl, hb⟩
  clear s_0 s_1 s_2 s_3 s_4 s_5 s_6 r_0 r_1 r_2 r_3 r_4 r_5 r_6 t_0 t_1 t_2 t_3 t_4 c_0 c_1 c_2 c_3 c_4 c_5 c_6 a_0 a_1 a_2 a_3 a_4 b_0 b_1 b_2 b_3 b_4
  have KS : SBox (w5.alloc (.cells #[.int .i64 (D).e, .int .i64 (D).d, .int .i64 (D).x, .int .i64 (D).y, .int .i64 (D).z] 30)) w.heap.size (s) := (HS.out.later hb).later (Grow.alloc' _ _)
  have KR : SBox (w5.alloc (.cells #[.int .i64 (D).e, .int .i64 (D).d, .int .i64 (D).x, .int .i64 (D).y, .int .i64 (D).z] 30)) (w.heap.size + 1) (r) := (HR.out.later hb).later (Grow.alloc' _ _)
  have KT : Box (w5.alloc (.cells #[.int .i64 (D).e, .int .i64 (D).d, .int .i64 (D).x, .int .i64 (D).y, .int .i64 (D).z] 30)) (w.heap.size + 1 + 1) (t) := (HT.out.later hb).later (Grow.alloc' _ _)
  have KC : SBox (w5.alloc (.cells #[.int .i64 (D).e, .int .i64 (D).d, .int .i64 (D).x, .int .i64 (D).y, .int .i64 (D).z] 30)) w2.heap.size (C) := (HC.out.later hb).later (Grow.alloc' _ _)
  have KA : Box (w5.alloc (.cells #[.int .i64 (D).e, .int .i64 (D).d, .int .i64 (D).x, .int .i64 (D).y, .int .i64 (D).z] 30)) w3.heap.size (A) := (HA.out.later hb).later (Grow.alloc' _ _)
  have KB : Box (w5.alloc (.cells #[.int .i64 (D).e, .int .i64 (D).d, .int .i64 (D).x, .int .i64 (D).y, .int .i64 (D).z] 30)) w4.heap.size (B) := (HB.out.later hb).later (Grow.alloc' _ _)
  have KD : Box (w5.alloc (.cells #[.int .i64 (D).e, .int .i64 (D).d, .int .i64 (D).x, .int .i64 (D).y, .int .i64 (D).z] 30)) w5.heap.size (D) := Box.new _ _
  have G : Hid (Grow w (w5.alloc (.cells #[.int .i64 (D).e, .int .i64 (D).d, .int .i64 (D).x, .int .i64 (D).y, .int .i64 (D).z] 30))) := hide (Grow.trans' (Grow.trans' G.out hb) (Grow.alloc' _ _))
  clear hb HS HR HT HC HA HB
  obtain ⟨s0, s1, s2, s3, s4, s5, s6⟩ := KS
  obtain ⟨b0, b1, b2, b3, b4⟩ := KB
  obtain ⟨d0, d1, d2, d3, d4⟩ := KD
  clear KR KT KC KA
  go_wp2_with fail
  refine (sMayC s false hm.out _).mono ?_
  rintro e w6 ⟨rfl, hb⟩
  have G' := hide (Grow.trans' G.out hb)
  clear s0 s1 s2 s3 s4 s5 s6 b0 b1 b2 b3 b4 d0 d1 d2 d3 d4
  go_wp2
  go_ret
  exact ⟨rfl, G'.out⟩
set_option maxHeartbeats 2000000 in
theorem SummaryThen_4false (s r C : Sm) (t A B D : Tm) (E F L H : Int) (w : World) (hC : Hid (thenS s r = C)) (hE : Hid (thenE s r = 0)) (hA : Hid (applyT s t = A)) (hF : Hid (applyE s t = 0)) (hB : Hid (applyT r A = B)) (hG : Hid (applyE r A = 0)) (hD : Hid (applyT C t = D)) (hH : Hid (applyE C t = 0)) (hm : Hid (mayS s = false)) (k1 : eqB D B = true) :
    Calls Try.prog 6 #[.agg #[.int .i64 s.f, .int .i64 s.t, .int .i64 s.k, .int .i64 s.ep, .int .i64 s.x, .int .i64 s.y, .int .i64 s.z], .agg #[.int .i64 r.f, .int .i64 r.t, .int .i64 r.k, .int .i64 r.ep, .int .i64 r.x, .int .i64 r.y, .int .i64 r.z], .agg #[.int .i64 t.e, .int .i64 t.d, .int .i64 t.x, .int .i64 t.y, .int .i64 t.z]] w fun e w' => e = .returned (.bool true) ∧ Below w.heap.size w w' := by
  have e1 := eqS_self
  go_enter Try.func6, Try.ntmps6
  have KS : SBox (((w.alloc (.cells #[.int .i64 s.f, .int .i64 s.t, .int .i64 s.k, .int .i64 s.ep, .int .i64 s.x, .int .i64 s.y, .int .i64 s.z] 24)).alloc (.cells #[.int .i64 r.f, .int .i64 r.t, .int .i64 r.k, .int .i64 r.ep, .int .i64 r.x, .int .i64 r.y, .int .i64 r.z] 24)).alloc (.cells #[.int .i64 t.e, .int .i64 t.d, .int .i64 t.x, .int .i64 t.y, .int .i64 t.z] 30)) (w.heap.size) s := by simp [SBox, go_sem]
  have KR : SBox (((w.alloc (.cells #[.int .i64 s.f, .int .i64 s.t, .int .i64 s.k, .int .i64 s.ep, .int .i64 s.x, .int .i64 s.y, .int .i64 s.z] 24)).alloc (.cells #[.int .i64 r.f, .int .i64 r.t, .int .i64 r.k, .int .i64 r.ep, .int .i64 r.x, .int .i64 r.y, .int .i64 r.z] 24)).alloc (.cells #[.int .i64 t.e, .int .i64 t.d, .int .i64 t.x, .int .i64 t.y, .int .i64 t.z] 30)) (w.heap.size + 1) r := by simp [SBox, go_sem]
  have KT : Box (((w.alloc (.cells #[.int .i64 s.f, .int .i64 s.t, .int .i64 s.k, .int .i64 s.ep, .int .i64 s.x, .int .i64 s.y, .int .i64 s.z] 24)).alloc (.cells #[.int .i64 r.f, .int .i64 r.t, .int .i64 r.k, .int .i64 r.ep, .int .i64 r.x, .int .i64 r.y, .int .i64 r.z] 24)).alloc (.cells #[.int .i64 t.e, .int .i64 t.d, .int .i64 t.x, .int .i64 t.y, .int .i64 t.z] 30)) (w.heap.size + 1 + 1) t := by simp [Box, go_sem]
  have G : Hid (Grow w (((w.alloc (.cells #[.int .i64 s.f, .int .i64 s.t, .int .i64 s.k, .int .i64 s.ep, .int .i64 s.x, .int .i64 s.y, .int .i64 s.z] 24)).alloc (.cells #[.int .i64 r.f, .int .i64 r.t, .int .i64 r.k, .int .i64 r.ep, .int .i64 r.x, .int .i64 r.y, .int .i64 r.z] 24)).alloc (.cells #[.int .i64 t.e, .int .i64 t.d, .int .i64 t.x, .int .i64 t.y, .int .i64 t.z] 30))) := hide (Grow.trans' (Grow.trans' (Grow.alloc' _ _) (Grow.alloc' _ _)) (Grow.alloc' _ _))
  have HS := hide KS
  have HR := hide KR
  have HT := hide KT
  obtain ⟨s_0, s_1, s_2, s_3, s_4, s_5, s_6⟩ := KS
  obtain ⟨r_0, r_1, r_2, r_3, r_4, r_5, r_6⟩ := KR
  obtain ⟨t_0, t_1, t_2, t_3, t_4⟩ := KT
  go_wp2_with fail
  refine (shown_any _).mono ?_
  rintro e w1 ⟨rfl, hb⟩
  clear s_0 s_1 s_2 s_3 s_4 s_5 s_6 r_0 r_1 r_2 r_3 r_4 r_5 r_6 t_0 t_1 t_2 t_3 t_4
  have KS : SBox w1 w.heap.size (s) := HS.out.later hb
  have KR : SBox w1 (w.heap.size + 1) (r) := HR.out.later hb
  have KT : Box w1 (w.heap.size + 1 + 1) (t) := HT.out.later hb
  have G : Hid (Grow w w1) := hide (Grow.trans' G.out hb)
  clear hb HS HR HT
  have HS := hide KS
  have HR := hide KR
  have HT := hide KT
  obtain ⟨s_0, s_1, s_2, s_3, s_4, s_5, s_6⟩ := KS
  obtain ⟨r_0, r_1, r_2, r_3, r_4, r_5, r_6⟩ := KR
  obtain ⟨t_0, t_1, t_2, t_3, t_4⟩ := KT
  go_wp2_with fail
  refine (then_at s r C 0 hC.out hE.out _).mono ?_
  rintro e w2 ⟨rfl, hb⟩
  clear s_0 s_1 s_2 s_3 s_4 s_5 s_6 r_0 r_1 r_2 r_3 r_4 r_5 r_6 t_0 t_1 t_2 t_3 t_4
  have KS : SBox (w2.alloc (.cells #[.int .i64 (C).f, .int .i64 (C).t, .int .i64 (C).k, .int .i64 (C).ep, .int .i64 (C).x, .int .i64 (C).y, .int .i64 (C).z] 24)) w.heap.size (s) := (HS.out.later hb).later (Grow.alloc' _ _)
  have KR : SBox (w2.alloc (.cells #[.int .i64 (C).f, .int .i64 (C).t, .int .i64 (C).k, .int .i64 (C).ep, .int .i64 (C).x, .int .i64 (C).y, .int .i64 (C).z] 24)) (w.heap.size + 1) (r) := (HR.out.later hb).later (Grow.alloc' _ _)
  have KT : Box (w2.alloc (.cells #[.int .i64 (C).f, .int .i64 (C).t, .int .i64 (C).k, .int .i64 (C).ep, .int .i64 (C).x, .int .i64 (C).y, .int .i64 (C).z] 24)) (w.heap.size + 1 + 1) (t) := (HT.out.later hb).later (Grow.alloc' _ _)
  have KC : SBox (w2.alloc (.cells #[.int .i64 (C).f, .int .i64 (C).t, .int .i64 (C).k, .int .i64 (C).ep, .int .i64 (C).x, .int .i64 (C).y, .int .i64 (C).z] 24)) w2.heap.size (C) := SBox.new _ _
  have G : Hid (Grow w (w2.alloc (.cells #[.int .i64 (C).f, .int .i64 (C).t, .int .i64 (C).k, .int .i64 (C).ep, .int .i64 (C).x, .int .i64 (C).y, .int .i64 (C).z] 24))) := hide (Grow.trans' (Grow.trans' G.out hb) (Grow.alloc' _ _))
  clear hb HS HR HT
  have HS := hide KS
  have HR := hide KR
  have HT := hide KT
  have HC := hide KC
  obtain ⟨s_0, s_1, s_2, s_3, s_4, s_5, s_6⟩ := KS
  obtain ⟨r_0, r_1, r_2, r_3, r_4, r_5, r_6⟩ := KR
  obtain ⟨t_0, t_1, t_2, t_3, t_4⟩ := KT
  obtain ⟨c_0, c_1, c_2, c_3, c_4, c_5, c_6⟩ := KC
  go_wp2_with fail
  refine (apply_at s t A 0 hA.out hF.out _).mono ?_
  rintro e w3 ⟨rfl, hb⟩
  clear s_0 s_1 s_2 s_3 s_4 s_5 s_6 r_0 r_1 r_2 r_3 r_4 r_5 r_6 t_0 t_1 t_2 t_3 t_4 c_0 c_1 c_2 c_3 c_4 c_5 c_6
  have KS : SBox (w3.alloc (.cells #[.int .i64 (A).e, .int .i64 (A).d, .int .i64 (A).x, .int .i64 (A).y, .int .i64 (A).z] 30)) w.heap.size (s) := (HS.out.later hb).later (Grow.alloc' _ _)
  have KR : SBox (w3.alloc (.cells #[.int .i64 (A).e, .int .i64 (A).d, .int .i64 (A).x, .int .i64 (A).y, .int .i64 (A).z] 30)) (w.heap.size + 1) (r) := (HR.out.later hb).later (Grow.alloc' _ _)
  have KT : Box (w3.alloc (.cells #[.int .i64 (A).e, .int .i64 (A).d, .int .i64 (A).x, .int .i64 (A).y, .int .i64 (A).z] 30)) (w.heap.size + 1 + 1) (t) := (HT.out.later hb).later (Grow.alloc' _ _)
  have KC : SBox (w3.alloc (.cells #[.int .i64 (A).e, .int .i64 (A).d, .int .i64 (A).x, .int .i64 (A).y, .int .i64 (A).z] 30)) w2.heap.size (C) := (HC.out.later hb).later (Grow.alloc' _ _)
  have KA : Box (w3.alloc (.cells #[.int .i64 (A).e, .int .i64 (A).d, .int .i64 (A).x, .int .i64 (A).y, .int .i64 (A).z] 30)) w3.heap.size (A) := Box.new _ _
  have G : Hid (Grow w (w3.alloc (.cells #[.int .i64 (A).e, .int .i64 (A).d, .int .i64 (A).x, .int .i64 (A).y, .int .i64 (A).z] 30))) := hide (Grow.trans' (Grow.trans' G.out hb) (Grow.alloc' _ _))
  clear hb HS HR HT HC
  have HS := hide KS
  have HR := hide KR
  have HT := hide KT
  have HC := hide KC
  have HA := hide KA
  obtain ⟨s_0, s_1, s_2, s_3, s_4, s_5, s_6⟩ := KS
  obtain ⟨r_0, r_1, r_2, r_3, r_4, r_5, r_6⟩ := KR
  obtain ⟨t_0, t_1, t_2, t_3, t_4⟩ := KT
  obtain ⟨c_0, c_1, c_2, c_3, c_4, c_5, c_6⟩ := KC
  obtain ⟨a_0, a_1, a_2, a_3, a_4⟩ := KA
  go_wp2_with fail
  refine (apply_at r A B 0 hB.out hG.out _).mono ?_
  rintro e w4 ⟨rfl, hb⟩
  clear s_0 s_1 s_2 s_3 s_4 s_5 s_6 r_0 r_1 r_2 r_3 r_4 r_5 r_6 t_0 t_1 t_2 t_3 t_4 c_0 c_1 c_2 c_3 c_4 c_5 c_6 a_0 a_1 a_2 a_3 a_4
  have KS : SBox (w4.alloc (.cells #[.int .i64 (B).e, .int .i64 (B).d, .int .i64 (B).x, .int .i64 (B).y, .int .i64 (B).z] 30)) w.heap.size (s) := (HS.out.later hb).later (Grow.alloc' _ _)
  have KR : SBox (w4.alloc (.cells #[.int .i64 (B).e, .int .i64 (B).d, .int .i64 (B).x, .int .i64 (B).y, .int .i64 (B).z] 30)) (w.heap.size + 1) (r) := (HR.out.later hb).later (Grow.alloc' _ _)
  have KT : Box (w4.alloc (.cells #[.int .i64 (B).e, .int .i64 (B).d, .int .i64 (B).x, .int .i64 (B).y, .int .i64 (B).z] 30)) (w.heap.size + 1 + 1) (t) := (HT.out.later hb).later (Grow.alloc' _ _)
  have KC : SBox (w4.alloc (.cells #[.int .i64 (B).e, .int .i64 (B).d, .int .i64 (B).x, .int .i64 (B).y, .int .i64 (B).z] 30)) w2.heap.size (C) := (HC.out.later hb).later (Grow.alloc' _ _)
  have KA : Box (w4.alloc (.cells #[.int .i64 (B).e, .int .i64 (B).d, .int .i64 (B).x, .int .i64 (B).y, .int .i64 (B).z] 30)) w3.heap.size (A) := (HA.out.later hb).later (Grow.alloc' _ _)
  have KB : Box (w4.alloc (.cells #[.int .i64 (B).e, .int .i64 (B).d, .int .i64 (B).x, .int .i64 (B).y, .int .i64 (B).z] 30)) w4.heap.size (B) := Box.new _ _
  have G : Hid (Grow w (w4.alloc (.cells #[.int .i64 (B).e, .int .i64 (B).d, .int .i64 (B).x, .int .i64 (B).y, .int .i64 (B).z] 30))) := hide (Grow.trans' (Grow.trans' G.out hb) (Grow.alloc' _ _))
  clear hb HS HR HT HC HA
  have HS := hide KS
  have HR := hide KR
  have HT := hide KT
  have HC := hide KC
  have HA := hide KA
  have HB := hide KB
  obtain ⟨s_0, s_1, s_2, s_3, s_4, s_5, s_6⟩ := KS
  obtain ⟨r_0, r_1, r_2, r_3, r_4, r_5, r_6⟩ := KR
  obtain ⟨t_0, t_1, t_2, t_3, t_4⟩ := KT
  obtain ⟨c_0, c_1, c_2, c_3, c_4, c_5, c_6⟩ := KC
  obtain ⟨a_0, a_1, a_2, a_3, a_4⟩ := KA
  obtain ⟨b_0, b_1, b_2, b_3, b_4⟩ := KB
  go_wp2_with fail
  refine (apply_at C t D 0 hD.out hH.out _).mono ?_
  rintro e w5 ⟨rfl, hb⟩
  clear s_0 s_1 s_2 s_3 s_4 s_5 s_6 r_0 r_1 r_2 r_3 r_4 r_5 r_6 t_0 t_1 t_2 t_3 t_4 c_0 c_1 c_2 c_3 c_4 c_5 c_6 a_0 a_1 a_2 a_3 a_4 b_0 b_1 b_2 b_3 b_4
  have KS : SBox (w5.alloc (.cells #[.int .i64 (D).e, .int .i64 (D).d, .int .i64 (D).x, .int .i64 (D).y, .int .i64 (D).z] 30)) w.heap.size (s) := (HS.out.later hb).later (Grow.alloc' _ _)
  have KR : SBox (w5.alloc (.cells #[.int .i64 (D).e, .int .i64 (D).d, .int .i64 (D).x, .int .i64 (D).y, .int .i64 (D).z] 30)) (w.heap.size + 1) (r) := (HR.out.later hb).later (Grow.alloc' _ _)
  have KT : Box (w5.alloc (.cells #[.int .i64 (D).e, .int .i64 (D).d, .int .i64 (D).x, .int .i64 (D).y, .int .i64 (D).z] 30)) (w.heap.size + 1 + 1) (t) := (HT.out.later hb).later (Grow.alloc' _ _)
  have KC : SBox (w5.alloc (.cells #[.int .i64 (D).e, .int .i64 (D).d, .int .i64 (D).x, .int .i64 (D).y, .int .i64 (D).z] 30)) w2.heap.size (C) := (HC.out.later hb).later (Grow.alloc' _ _)
  have KA : Box (w5.alloc (.cells #[.int .i64 (D).e, .int .i64 (D).d, .int .i64 (D).x, .int .i64 (D).y, .int .i64 (D).z] 30)) w3.heap.size (A) := (HA.out.later hb).later (Grow.alloc' _ _)
  have KB : Box (w5.alloc (.cells #[.int .i64 (D).e, .int .i64 (D).d, .int .i64 (D).x, .int .i64 (D).y, .int .i64 (D).z] 30)) w4.heap.size (B) := (HB.out.later hb).later (Grow.alloc' _ _)
  have KD : Box (w5.alloc (.cells #[.int .i64 (D).e, .int .i64 (D).d, .int .i64 (D).x, .int .i64 (D).y, .int .i64 (D).z] 30)) w5.heap.size (D) := Box.new _ _
  have G : Hid (Grow w (w5.alloc (.cells #[.int .i64 (D).e, .int .i64 (D).d, .int .i64 (D).x, .int .i64 (D).y, .int .i64 (D).z] 30))) := hide (Grow.trans' (Grow.trans' G.out hb) (Grow.alloc' _ _))
  clear hb HS HR HT HC HA HB
  obtain ⟨s0, s1, s2, s3, s4, s5, s6⟩ := KS
  obtain ⟨b0, b1, b2, b3, b4⟩ := KB
  obtain ⟨d0, d1, d2, d3, d4⟩ := KD
  clear KR KT KC KA
  go_wp2_with fail
  refine (sMayC s false hm.out _).mono ?_
  rintro e w6 ⟨rfl, hb⟩
  have G' := hide (Grow.trans' G.out hb)
  clear s0 s1 s2 s3 s4 s5 s6 b0 b1 b2 b3 b4 d0 d1 d2 d3 d4
  go_wp2
  go_ret
  exact ⟨rfl, G'.out⟩
set_option maxHeartbeats 2000000 in
theorem SummaryThen_1true (s r C : Sm) (t A B D : Tm) (E F L H : Int) (w : World) (hC : Hid (thenS s r = C)) (hE : Hid (thenE s r = E)) (hA : Hid (applyT s t = A)) (hF : Hid (applyE s t = F)) (hB : Hid (applyT r A = B)) (hG : Hid (applyE r A = L)) (hD : Hid (applyT C t = D)) (hH : Hid (applyE C t = H)) (hm : Hid (mayS s = true)) (k1 : ¬ E = 0) :
    Calls Try.prog 6 #[.agg #[.int .i64 s.f, .int .i64 s.t, .int .i64 s.k, .int .i64 s.ep, .int .i64 s.x, .int .i64 s.y, .int .i64 s.z], .agg #[.int .i64 r.f, .int .i64 r.t, .int .i64 r.k, .int .i64 r.ep, .int .i64 r.x, .int .i64 r.y, .int .i64 r.z], .agg #[.int .i64 t.e, .int .i64 t.d, .int .i64 t.x, .int .i64 t.y, .int .i64 t.z]] w fun e w' => e = .returned (.bool true) ∧ Below w.heap.size w w' := by
  have e1 := eqS_self
  have hx := hide (same_then hm.out)
  have hy := hide (then_same hm.out)
  go_enter Try.func6, Try.ntmps6
  have KS : SBox (((w.alloc (.cells #[.int .i64 s.f, .int .i64 s.t, .int .i64 s.k, .int .i64 s.ep, .int .i64 s.x, .int .i64 s.y, .int .i64 s.z] 24)).alloc (.cells #[.int .i64 r.f, .int .i64 r.t, .int .i64 r.k, .int .i64 r.ep, .int .i64 r.x, .int .i64 r.y, .int .i64 r.z] 24)).alloc (.cells #[.int .i64 t.e, .int .i64 t.d, .int .i64 t.x, .int .i64 t.y, .int .i64 t.z] 30)) (w.heap.size) s := by simp [SBox, go_sem]
  have KR : SBox (((w.alloc (.cells #[.int .i64 s.f, .int .i64 s.t, .int .i64 s.k, .int .i64 s.ep, .int .i64 s.x, .int .i64 s.y, .int .i64 s.z] 24)).alloc (.cells #[.int .i64 r.f, .int .i64 r.t, .int .i64 r.k, .int .i64 r.ep, .int .i64 r.x, .int .i64 r.y, .int .i64 r.z] 24)).alloc (.cells #[.int .i64 t.e, .int .i64 t.d, .int .i64 t.x, .int .i64 t.y, .int .i64 t.z] 30)) (w.heap.size + 1) r := by simp [SBox, go_sem]
  have KT : Box (((w.alloc (.cells #[.int .i64 s.f, .int .i64 s.t, .int .i64 s.k, .int .i64 s.ep, .int .i64 s.x, .int .i64 s.y, .int .i64 s.z] 24)).alloc (.cells #[.int .i64 r.f, .int .i64 r.t, .int .i64 r.k, .int .i64 r.ep, .int .i64 r.x, .int .i64 r.y, .int .i64 r.z] 24)).alloc (.cells #[.int .i64 t.e, .int .i64 t.d, .int .i64 t.x, .int .i64 t.y, .int .i64 t.z] 30)) (w.heap.size + 1 + 1) t := by simp [Box, go_sem]
  have G : Hid (Grow w (((w.alloc (.cells #[.int .i64 s.f, .int .i64 s.t, .int .i64 s.k, .int .i64 s.ep, .int .i64 s.x, .int .i64 s.y, .int .i64 s.z] 24)).alloc (.cells #[.int .i64 r.f, .int .i64 r.t, .int .i64 r.k, .int .i64 r.ep, .int .i64 r.x, .int .i64 r.y, .int .i64 r.z] 24)).alloc (.cells #[.int .i64 t.e, .int .i64 t.d, .int .i64 t.x, .int .i64 t.y, .int .i64 t.z] 30))) := hide (Grow.trans' (Grow.trans' (Grow.alloc' _ _) (Grow.alloc' _ _)) (Grow.alloc' _ _))
  have HS := hide KS
  have HR := hide KR
  have HT := hide KT
  obtain ⟨s_0, s_1, s_2, s_3, s_4, s_5, s_6⟩ := KS
  obtain ⟨r_0, r_1, r_2, r_3, r_4, r_5, r_6⟩ := KR
  obtain ⟨t_0, t_1, t_2, t_3, t_4⟩ := KT
  go_wp2_with fail
  refine (shown_any _).mono ?_
  rintro e w1 ⟨rfl, hb⟩
  clear s_0 s_1 s_2 s_3 s_4 s_5 s_6 r_0 r_1 r_2 r_3 r_4 r_5 r_6 t_0 t_1 t_2 t_3 t_4
  have KS : SBox w1 w.heap.size (s) := HS.out.later hb
  have KR : SBox w1 (w.heap.size + 1) (r) := HR.out.later hb
  have KT : Box w1 (w.heap.size + 1 + 1) (t) := HT.out.later hb
  have G : Hid (Grow w w1) := hide (Grow.trans' G.out hb)
  clear hb HS HR HT
  have HS := hide KS
  have HR := hide KR
  have HT := hide KT
  obtain ⟨s_0, s_1, s_2, s_3, s_4, s_5, s_6⟩ := KS
  obtain ⟨r_0, r_1, r_2, r_3, r_4, r_5, r_6⟩ := KR
  obtain ⟨t_0, t_1, t_2, t_3, t_4⟩ := KT
  go_wp2_with fail
  refine (then_at s r C E hC.out hE.out _).mono ?_
  rintro e w2 ⟨rfl, hb⟩
  clear s_0 s_1 s_2 s_3 s_4 s_5 s_6 r_0 r_1 r_2 r_3 r_4 r_5 r_6 t_0 t_1 t_2 t_3 t_4
  have KS : SBox (w2.alloc (.cells #[.int .i64 (C).f, .int .i64 (C).t, .int .i64 (C).k, .int .i64 (C).ep, .int .i64 (C).x, .int .i64 (C).y, .int .i64 (C).z] 24)) w.heap.size (s) := (HS.out.later hb).later (Grow.alloc' _ _)
  have KR : SBox (w2.alloc (.cells #[.int .i64 (C).f, .int .i64 (C).t, .int .i64 (C).k, .int .i64 (C).ep, .int .i64 (C).x, .int .i64 (C).y, .int .i64 (C).z] 24)) (w.heap.size + 1) (r) := (HR.out.later hb).later (Grow.alloc' _ _)
  have KT : Box (w2.alloc (.cells #[.int .i64 (C).f, .int .i64 (C).t, .int .i64 (C).k, .int .i64 (C).ep, .int .i64 (C).x, .int .i64 (C).y, .int .i64 (C).z] 24)) (w.heap.size + 1 + 1) (t) := (HT.out.later hb).later (Grow.alloc' _ _)
  have KC : SBox (w2.alloc (.cells #[.int .i64 (C).f, .int .i64 (C).t, .int .i64 (C).k, .int .i64 (C).ep, .int .i64 (C).x, .int .i64 (C).y, .int .i64 (C).z] 24)) w2.heap.size (C) := SBox.new _ _
  have G : Hid (Grow w (w2.alloc (.cells #[.int .i64 (C).f, .int .i64 (C).t, .int .i64 (C).k, .int .i64 (C).ep, .int .i64 (C).x, .int .i64 (C).y, .int .i64 (C).z] 24))) := hide (Grow.trans' (Grow.trans' G.out hb) (Grow.alloc' _ _))
  clear hb HS HR HT
  have HS := hide KS
  have HR := hide KR
  have HT := hide KT
  have HC := hide KC
  obtain ⟨s_0, s_1, s_2, s_3, s_4, s_5, s_6⟩ := KS
  obtain ⟨r_0, r_1, r_2, r_3, r_4, r_5, r_6⟩ := KR
  obtain ⟨t_0, t_1, t_2, t_3, t_4⟩ := KT
  obtain ⟨c_0, c_1, c_2, c_3, c_4, c_5, c_6⟩ := KC
  go_wp2_with fail
  refine (apply_at s t A F hA.out hF.out _).mono ?_
  rintro e w3 ⟨rfl, hb⟩
  clear s_0 s_1 s_2 s_3 s_4 s_5 s_6 r_0 r_1 r_2 r_3 r_4 r_5 r_6 t_0 t_1 t_2 t_3 t_4 c_0 c_1 c_2 c_3 c_4 c_5 c_6
  have KS : SBox (w3.alloc (.cells #[.int .i64 (A).e, .int .i64 (A).d, .int .i64 (A).x, .int .i64 (A).y, .int .i64 (A).z] 30)) w.heap.size (s) := (HS.out.later hb).later (Grow.alloc' _ _)
  have KR : SBox (w3.alloc (.cells #[.int .i64 (A).e, .int .i64 (A).d, .int .i64 (A).x, .int .i64 (A).y, .int .i64 (A).z] 30)) (w.heap.size + 1) (r) := (HR.out.later hb).later (Grow.alloc' _ _)
  have KT : Box (w3.alloc (.cells #[.int .i64 (A).e, .int .i64 (A).d, .int .i64 (A).x, .int .i64 (A).y, .int .i64 (A).z] 30)) (w.heap.size + 1 + 1) (t) := (HT.out.later hb).later (Grow.alloc' _ _)
  have KC : SBox (w3.alloc (.cells #[.int .i64 (A).e, .int .i64 (A).d, .int .i64 (A).x, .int .i64 (A).y, .int .i64 (A).z] 30)) w2.heap.size (C) := (HC.out.later hb).later (Grow.alloc' _ _)
  have KA : Box (w3.alloc (.cells #[.int .i64 (A).e, .int .i64 (A).d, .int .i64 (A).x, .int .i64 (A).y, .int .i64 (A).z] 30)) w3.heap.size (A) := Box.new _ _
  have G : Hid (Grow w (w3.alloc (.cells #[.int .i64 (A).e, .int .i64 (A).d, .int .i64 (A).x, .int .i64 (A).y, .int .i64 (A).z] 30))) := hide (Grow.trans' (Grow.trans' G.out hb) (Grow.alloc' _ _))
  clear hb HS HR HT HC
  have HS := hide KS
  have HR := hide KR
  have HT := hide KT
  have HC := hide KC
  have HA := hide KA
  obtain ⟨s_0, s_1, s_2, s_3, s_4, s_5, s_6⟩ := KS
  obtain ⟨r_0, r_1, r_2, r_3, r_4, r_5, r_6⟩ := KR
  obtain ⟨t_0, t_1, t_2, t_3, t_4⟩ := KT
  obtain ⟨c_0, c_1, c_2, c_3, c_4, c_5, c_6⟩ := KC
  obtain ⟨a_0, a_1, a_2, a_3, a_4⟩ := KA
  go_wp2_with fail
  refine (apply_at r A B L hB.out hG.out _).mono ?_
  rintro e w4 ⟨rfl, hb⟩
  clear s_0 s_1 s_2 s_3 s_4 s_5 s_6 r_0 r_1 r_2 r_3 r_4 r_5 r_6 t_0 t_1 t_2 t_3 t_4 c_0 c_1 c_2 c_3 c_4 c_5 c_6 a_0 a_1 a_2 a_3 a_4
  have KS : SBox (w4.alloc (.cells #[.int .i64 (B).e, .int .i64 (B).d, .int .i64 (B).x, .int .i64 (B).y, .int .i64 (B).z] 30)) w.heap.size (s) := (HS.out.later hb).later (Grow.alloc' _ _)
  have KR : SBox (w4.alloc (.cells #[.int .i64 (B).e, .int .i64 (B).d, .int .i64 (B).x, .int .i64 (B).y, .int .i64 (B).z] 30)) (w.heap.size + 1) (r) := (HR.out.later hb).later (Grow.alloc' _ _)
  have KT : Box (w4.alloc (.cells #[.int .i64 (B).e, .int .i64 (B).d, .int .i64 (B).x, .int .i64 (B).y, .int .i64 (B).z] 30)) (w.heap.size + 1 + 1) (t) := (HT.out.later hb).later (Grow.alloc' _ _)
  have KC : SBox (w4.alloc (.cells #[.int .i64 (B).e, .int .i64 (B).d, .int .i64 (B).x, .int .i64 (B).y, .int .i64 (B).z] 30)) w2.heap.size (C) := (HC.out.later hb).later (Grow.alloc' _ _)
  have KA : Box (w4.alloc (.cells #[.int .i64 (B).e, .int .i64 (B).d, .int .i64 (B).x, .int .i64 (B).y, .int .i64 (B).z] 30)) w3.heap.size (A) := (HA.out.later hb).later (Grow.alloc' _ _)
  have KB : Box (w4.alloc (.cells #[.int .i64 (B).e, .int .i64 (B).d, .int .i64 (B).x, .int .i64 (B).y, .int .i64 (B).z] 30)) w4.heap.size (B) := Box.new _ _
  have G : Hid (Grow w (w4.alloc (.cells #[.int .i64 (B).e, .int .i64 (B).d, .int .i64 (B).x, .int .i64 (B).y, .int .i64 (B).z] 30))) := hide (Grow.trans' (Grow.trans' G.out hb) (Grow.alloc' _ _))
  clear hb HS HR HT HC HA
  have HS := hide KS
  have HR := hide KR
  have HT := hide KT
  have HC := hide KC
  have HA := hide KA
  have HB := hide KB
  obtain ⟨s_0, s_1, s_2, s_3, s_4, s_5, s_6⟩ := KS
  obtain ⟨r_0, r_1, r_2, r_3, r_4, r_5, r_6⟩ := KR
  obtain ⟨t_0, t_1, t_2, t_3, t_4⟩ := KT
  obtain ⟨c_0, c_1, c_2, c_3, c_4, c_5, c_6⟩ := KC
  obtain ⟨a_0, a_1, a_2, a_3, a_4⟩ := KA
  obtain ⟨b_0, b_1, b_2, b_3, b_4⟩ := KB
  go_wp2_with fail
  refine (apply_at C t D H hD.out hH.out _).mono ?_
  rintro e w5 ⟨rfl, hb⟩
  clear s_0 s_1 s_2 s_3 s_4 s_5 s_6 r_0 r_1 r_2 r_3 r_4 r_5 r_6 t_0 t_1 t_2 t_3 t_4 c_0 c_1 c_2 c_3 c_4 c_5 c_6 a_0 a_1 a_2 a_3 a_4 b_0 b_1 b_2 b_3 b_4
  have KS : SBox (w5.alloc (.cells #[.int .i64 (D).e, .int .i64 (D).d, .int .i64 (D).x, .int .i64 (D).y, .int .i64 (D).z] 30)) w.heap.size (s) := (HS.out.later hb).later (Grow.alloc' _ _)
  have KR : SBox (w5.alloc (.cells #[.int .i64 (D).e, .int .i64 (D).d, .int .i64 (D).x, .int .i64 (D).y, .int .i64 (D).z] 30)) (w.heap.size + 1) (r) := (HR.out.later hb).later (Grow.alloc' _ _)
  have KT : Box (w5.alloc (.cells #[.int .i64 (D).e, .int .i64 (D).d, .int .i64 (D).x, .int .i64 (D).y, .int .i64 (D).z] 30)) (w.heap.size + 1 + 1) (t) := (HT.out.later hb).later (Grow.alloc' _ _)
  have KC : SBox (w5.alloc (.cells #[.int .i64 (D).e, .int .i64 (D).d, .int .i64 (D).x, .int .i64 (D).y, .int .i64 (D).z] 30)) w2.heap.size (C) := (HC.out.later hb).later (Grow.alloc' _ _)
  have KA : Box (w5.alloc (.cells #[.int .i64 (D).e, .int .i64 (D).d, .int .i64 (D).x, .int .i64 (D).y, .int .i64 (D).z] 30)) w3.heap.size (A) := (HA.out.later hb).later (Grow.alloc' _ _)
  have KB : Box (w5.alloc (.cells #[.int .i64 (D).e, .int .i64 (D).d, .int .i64 (D).x, .int .i64 (D).y, .int .i64 (D).z] 30)) w4.heap.size (B) := (HB.out.later hb).later (Grow.alloc' _ _)
  have KD : Box (w5.alloc (.cells #[.int .i64 (D).e, .int .i64 (D).d, .int .i64 (D).x, .int .i64 (D).y, .int .i64 (D).z] 30)) w5.heap.size (D) := Box.new _ _
  have G : Hid (Grow w (w5.alloc (.cells #[.int .i64 (D).e, .int .i64 (D).d, .int .i64 (D).x, .int .i64 (D).y, .int .i64 (D).z] 30))) := hide (Grow.trans' (Grow.trans' G.out hb) (Grow.alloc' _ _))
  clear hb HS HR HT HC HA HB
  obtain ⟨s0, s1, s2, s3, s4, s5, s6⟩ := KS
  obtain ⟨b0, b1, b2, b3, b4⟩ := KB
  obtain ⟨d0, d1, d2, d3, d4⟩ := KD
  clear KR KT KC KA
  go_wp2_with fail
  refine (sMayC s true hm.out _).mono ?_
  rintro e w6 ⟨rfl, hb⟩
  have G' := hide (Grow.trans' G.out hb)
  have KS : SBox w6 w.heap.size s := SBox.later hb ⟨s0, s1, s2, s3, s4, s5, s6⟩
  clear s0 s1 s2 s3 s4 s5 s6 b0 b1 b2 b3 b4 d0 d1 d2 d3 d4 hb G
  have G := G'
  clear G'
  have HS : Hid (SBox w6 (w.heap.size) s) := hide KS
  clear KS
  have HH : ∀ w', Grow w6 w' → (fun w' => Grow w6 w' ∧ w'.cell? ⟨w.heap.size, 0, none⟩ = some (.int .i64 s.f) ∧ w'.cell? ⟨w.heap.size, 1, none⟩ = some (.int .i64 s.t) ∧ w'.cell? ⟨w.heap.size, 2, none⟩ = some (.int .i64 s.k) ∧ w'.cell? ⟨w.heap.size, 3, none⟩ = some (.int .i64 s.ep) ∧ w'.cell? ⟨w.heap.size, 4, none⟩ = some (.int .i64 s.x) ∧ w'.cell? ⟨w.heap.size, 5, none⟩ = some (.int .i64 s.y) ∧ w'.cell? ⟨w.heap.size, 6, none⟩ = some (.int .i64 s.z)) w' := fun w' hq => by
    obtain ⟨qS0, qS1, qS2, qS3, qS4, qS5, qS6⟩ := HS.out.later hq
    exact ⟨hq, qS0, qS1, qS2, qS3, qS4, qS5, qS6⟩
  have HK := hide HH
  clear HH
  go_wp2_with fail
  go_region_held3 (fun w' => Grow w6 w' ∧ w'.cell? ⟨w.heap.size, 0, none⟩ = some (.int .i64 s.f) ∧ w'.cell? ⟨w.heap.size, 1, none⟩ = some (.int .i64 s.t) ∧ w'.cell? ⟨w.heap.size, 2, none⟩ = some (.int .i64 s.k) ∧ w'.cell? ⟨w.heap.size, 3, none⟩ = some (.int .i64 s.ep) ∧ w'.cell? ⟨w.heap.size, 4, none⟩ = some (.int .i64 s.x) ∧ w'.cell? ⟨w.heap.size, 5, none⟩ = some (.int .i64 s.y) ∧ w'.cell? ⟨w.heap.size, 6, none⟩ = some (.int .i64 s.z)) (first | (refine HK.out _ ?_; simp (maxDischargeDepth := 30) only [growR, growA, growD]; done) | (with_reducible exact HK.out _ gu00) | (refine HK.out _ ?_; simp (maxDischargeDepth := 30) [growA, gu00]; done) | (with_reducible exact HK.out _ gu01) | (refine HK.out _ ?_; simp (maxDischargeDepth := 30) [growA, growS, zu00, gu01]; done)) (first | (go_at_call 10; refine (same_any s.f _).mono ?_; rintro e u00 ⟨rfl, hbu00⟩; have gu00 : Below w6.heap.size w6 u00 := Grow.trans' (‹Grow w6 _ ∧ _›).1 hbu00; have zu00 := gu00.size; have yu00 := hbu00.size; (try simp at yu00); (try (refine (fun v000 : w6.heap.size < u00.heap.size => ?_) ?_; rotate_left; focus omega)); obtain ⟨hcu00, hfu00⟩ := bcell hbu00) | (go_at_call 22; refine (then_at (sameS s.f) s s 0 hx.out.2 hx.out.1 _).mono ?_; rintro e u01 ⟨rfl, hbu01⟩; have gu01 : Below w6.heap.size w6 u01 := Grow.trans' (‹Grow w6 _ ∧ _›).1 hbu01; have zu01 := gu01.size; have yu01 := hbu01.size; (try simp at yu01); (try (refine (fun v010 : w6.heap.size < u01.heap.size => ?_) ?_; rotate_left; focus omega)); (try (refine (fun v011 : u00.heap.size < u01.heap.size => ?_) ?_; rotate_left; focus omega)); obtain ⟨hcu01, hfu01⟩ := bcell hbu01))
  all_goals
    obtain ⟨X0, hX⟩ := world_of (‹Grow w6 _ ∧ _›).1
    have HGW := (‹Grow w6 _ ∧ _›).1
    rw [← hX] at HGW ⊢
    first
      | (refine cutP (P := SBox X0 u01.heap.size (s)) ?_ ?_; (focus (rw [hX]; simp (maxDischargeDepth := 30) [SBox, go_sem, *]; done)); intro KX; obtain ⟨bX, hbl⟩ : ∃ b, b = u01.heap.size := ⟨_, rfl⟩; rw [← hbl] at KX ⊢; clear hbl)
      | (refine cutP (P := SBox X0 u00.heap.size (s)) ?_ ?_; (focus (rw [hX]; simp (maxDischargeDepth := 30) [SBox, go_sem, *]; done)); intro KX; obtain ⟨bX, hbl⟩ : ∃ b, b = u00.heap.size := ⟨_, rfl⟩; rw [← hbl] at KX ⊢; clear hbl)
      | (refine cutP (P := SBox X0 w6.heap.size (s)) ?_ ?_; (focus (rw [hX]; simp (maxDischargeDepth := 30) [SBox, go_sem, *]; done)); intro KX; obtain ⟨bX, hbl⟩ : ∃ b, b = w6.heap.size := ⟨_, rfl⟩; rw [← hbl] at KX ⊢; clear hbl)
    have KS : SBox X0 (w.heap.size) s := HS.out.later HGW
    have G : Hid (Grow w X0) := hide (Grow.trans' G.out HGW)
    clear hX HGW HK
    clear hcu00 hfu00 hbu00 gu00 zu00 yu00
    clear hcu01 hfu01 hbu01 gu01 zu01 yu01
    have HS : Hid (SBox X0 (w.heap.size) s) := hide KS
    have HX : Hid (SBox X0 (bX) s) := hide KX
    clear KS KX
    have HH : ∀ w', Grow X0 w' → (fun w' => Grow X0 w' ∧ w'.cell? ⟨w.heap.size, 0, none⟩ = some (.int .i64 s.f) ∧ w'.cell? ⟨w.heap.size, 1, none⟩ = some (.int .i64 s.t) ∧ w'.cell? ⟨w.heap.size, 2, none⟩ = some (.int .i64 s.k) ∧ w'.cell? ⟨w.heap.size, 3, none⟩ = some (.int .i64 s.ep) ∧ w'.cell? ⟨w.heap.size, 4, none⟩ = some (.int .i64 s.x) ∧ w'.cell? ⟨w.heap.size, 5, none⟩ = some (.int .i64 s.y) ∧ w'.cell? ⟨w.heap.size, 6, none⟩ = some (.int .i64 s.z) ∧ w'.cell? ⟨bX, 0, none⟩ = some (.int .i64 s.f) ∧ w'.cell? ⟨bX, 1, none⟩ = some (.int .i64 s.t) ∧ w'.cell? ⟨bX, 2, none⟩ = some (.int .i64 s.k) ∧ w'.cell? ⟨bX, 3, none⟩ = some (.int .i64 s.ep) ∧ w'.cell? ⟨bX, 4, none⟩ = some (.int .i64 s.x) ∧ w'.cell? ⟨bX, 5, none⟩ = some (.int .i64 s.y) ∧ w'.cell? ⟨bX, 6, none⟩ = some (.int .i64 s.z)) w' := fun w' hq => by
      obtain ⟨qS0, qS1, qS2, qS3, qS4, qS5, qS6⟩ := HS.out.later hq
      obtain ⟨qX0, qX1, qX2, qX3, qX4, qX5, qX6⟩ := HX.out.later hq
      exact ⟨hq, qS0, qS1, qS2, qS3, qS4, qS5, qS6, qX0, qX1, qX2, qX3, qX4, qX5, qX6⟩
    have HK := hide HH
    clear HH
    go_wp2_with fail
    go_region_held3 (fun w' => Grow X0 w' ∧ w'.cell? ⟨w.heap.size, 0, none⟩ = some (.int .i64 s.f) ∧ w'.cell? ⟨w.heap.size, 1, none⟩ = some (.int .i64 s.t) ∧ w'.cell? ⟨w.heap.size, 2, none⟩ = some (.int .i64 s.k) ∧ w'.cell? ⟨w.heap.size, 3, none⟩ = some (.int .i64 s.ep) ∧ w'.cell? ⟨w.heap.size, 4, none⟩ = some (.int .i64 s.x) ∧ w'.cell? ⟨w.heap.size, 5, none⟩ = some (.int .i64 s.y) ∧ w'.cell? ⟨w.heap.size, 6, none⟩ = some (.int .i64 s.z) ∧ w'.cell? ⟨bX, 0, none⟩ = some (.int .i64 s.f) ∧ w'.cell? ⟨bX, 1, none⟩ = some (.int .i64 s.t) ∧ w'.cell? ⟨bX, 2, none⟩ = some (.int .i64 s.k) ∧ w'.cell? ⟨bX, 3, none⟩ = some (.int .i64 s.ep) ∧ w'.cell? ⟨bX, 4, none⟩ = some (.int .i64 s.x) ∧ w'.cell? ⟨bX, 5, none⟩ = some (.int .i64 s.y) ∧ w'.cell? ⟨bX, 6, none⟩ = some (.int .i64 s.z)) (first | (refine HK.out _ ?_; simp (maxDischargeDepth := 30) only [growR, growA, growD]; done) | (with_reducible exact HK.out _ gu10) | (refine HK.out _ ?_; simp (maxDischargeDepth := 30) [growA, gu10]; done) | (with_reducible exact HK.out _ gu11) | (refine HK.out _ ?_; simp (maxDischargeDepth := 30) [growA, growS, zu10, gu11]; done)) (first | (go_at_call 10; refine (same_any s.t _).mono ?_; rintro e u10 ⟨rfl, hbu10⟩; have gu10 : Below X0.heap.size X0 u10 := Grow.trans' (‹Grow X0 _ ∧ _›).1 hbu10; have zu10 := gu10.size; have yu10 := hbu10.size; (try simp at yu10); (try (refine (fun v100 : X0.heap.size < u10.heap.size => ?_) ?_; rotate_left; focus omega)); obtain ⟨hcu10, hfu10⟩ := bcell hbu10) | (go_at_call 22; refine (then_at s (sameS s.t) s 0 hy.out.2 hy.out.1 _).mono ?_; rintro e u11 ⟨rfl, hbu11⟩; have gu11 : Below X0.heap.size X0 u11 := Grow.trans' (‹Grow X0 _ ∧ _›).1 hbu11; have zu11 := gu11.size; have yu11 := hbu11.size; (try simp at yu11); (try (refine (fun v110 : X0.heap.size < u11.heap.size => ?_) ?_; rotate_left; focus omega)); (try (refine (fun v111 : u10.heap.size < u11.heap.size => ?_) ?_; rotate_left; focus omega)); obtain ⟨hcu11, hfu11⟩ := bcell hbu11))
    all_goals
      obtain ⟨X1, hX⟩ := world_of (‹Grow X0 _ ∧ _›).1
      have HGW := (‹Grow X0 _ ∧ _›).1
      rw [← hX] at HGW ⊢
      first
        | (refine cutP (P := SBox X1 u11.heap.size (s)) ?_ ?_; (focus (rw [hX]; simp (maxDischargeDepth := 30) [SBox, go_sem, *]; done)); intro KY; obtain ⟨bY, hbl⟩ : ∃ b, b = u11.heap.size := ⟨_, rfl⟩; rw [← hbl] at KY ⊢; clear hbl)
        | (refine cutP (P := SBox X1 u10.heap.size (s)) ?_ ?_; (focus (rw [hX]; simp (maxDischargeDepth := 30) [SBox, go_sem, *]; done)); intro KY; obtain ⟨bY, hbl⟩ : ∃ b, b = u10.heap.size := ⟨_, rfl⟩; rw [← hbl] at KY ⊢; clear hbl)
        | (refine cutP (P := SBox X1 X0.heap.size (s)) ?_ ?_; (focus (rw [hX]; simp (maxDischargeDepth := 30) [SBox, go_sem, *]; done)); intro KY; obtain ⟨bY, hbl⟩ : ∃ b, b = X0.heap.size := ⟨_, rfl⟩; rw [← hbl] at KY ⊢; clear hbl)
      have KS : SBox X1 (w.heap.size) s := HS.out.later HGW
      have KX : SBox X1 (bX) s := HX.out.later HGW
      have G : Hid (Grow w X1) := hide (Grow.trans' G.out HGW)
      clear hX HGW HK
      clear hcu10 hfu10 hbu10 gu10 zu10 yu10
      clear hcu11 hfu11 hbu11 gu11 zu11 yu11
      obtain ⟨s0, s1, s2, s3, s4, s5, s6⟩ := KS
      obtain ⟨x0, x1, x2, x3, x4, x5, x6⟩ := KX
      obtain ⟨y0, y1, y2, y3, y4, y5, y6⟩ := KY
      go_wp2
      go_ret
      exact ⟨rfl, G.out⟩
set_option maxHeartbeats 2000000 in
theorem SummaryThen_2true (s r C : Sm) (t A B D : Tm) (E F L H : Int) (w : World) (hC : Hid (thenS s r = C)) (hE : Hid (thenE s r = 0)) (hA : Hid (applyT s t = A)) (hF : Hid (applyE s t = F)) (hB : Hid (applyT r A = B)) (hG : Hid (applyE r A = L)) (hD : Hid (applyT C t = D)) (hH : Hid (applyE C t = H)) (hm : Hid (mayS s = true)) (k1 : ¬ F = 0) :
    Calls Try.prog 6 #[.agg #[.int .i64 s.f, .int .i64 s.t, .int .i64 s.k, .int .i64 s.ep, .int .i64 s.x, .int .i64 s.y, .int .i64 s.z], .agg #[.int .i64 r.f, .int .i64 r.t, .int .i64 r.k, .int .i64 r.ep, .int .i64 r.x, .int .i64 r.y, .int .i64 r.z], .agg #[.int .i64 t.e, .int .i64 t.d, .int .i64 t.x, .int .i64 t.y, .int .i64 t.z]] w fun e w' => e = .returned (.bool true) ∧ Below w.heap.size w w' := by
  have e1 := eqS_self
  have hx := hide (same_then hm.out)
  have hy := hide (then_same hm.out)
  go_enter Try.func6, Try.ntmps6
  have KS : SBox (((w.alloc (.cells #[.int .i64 s.f, .int .i64 s.t, .int .i64 s.k, .int .i64 s.ep, .int .i64 s.x, .int .i64 s.y, .int .i64 s.z] 24)).alloc (.cells #[.int .i64 r.f, .int .i64 r.t, .int .i64 r.k, .int .i64 r.ep, .int .i64 r.x, .int .i64 r.y, .int .i64 r.z] 24)).alloc (.cells #[.int .i64 t.e, .int .i64 t.d, .int .i64 t.x, .int .i64 t.y, .int .i64 t.z] 30)) (w.heap.size) s := by simp [SBox, go_sem]
  have KR : SBox (((w.alloc (.cells #[.int .i64 s.f, .int .i64 s.t, .int .i64 s.k, .int .i64 s.ep, .int .i64 s.x, .int .i64 s.y, .int .i64 s.z] 24)).alloc (.cells #[.int .i64 r.f, .int .i64 r.t, .int .i64 r.k, .int .i64 r.ep, .int .i64 r.x, .int .i64 r.y, .int .i64 r.z] 24)).alloc (.cells #[.int .i64 t.e, .int .i64 t.d, .int .i64 t.x, .int .i64 t.y, .int .i64 t.z] 30)) (w.heap.size + 1) r := by simp [SBox, go_sem]
  have KT : Box (((w.alloc (.cells #[.int .i64 s.f, .int .i64 s.t, .int .i64 s.k, .int .i64 s.ep, .int .i64 s.x, .int .i64 s.y, .int .i64 s.z] 24)).alloc (.cells #[.int .i64 r.f, .int .i64 r.t, .int .i64 r.k, .int .i64 r.ep, .int .i64 r.x, .int .i64 r.y, .int .i64 r.z] 24)).alloc (.cells #[.int .i64 t.e, .int .i64 t.d, .int .i64 t.x, .int .i64 t.y, .int .i64 t.z] 30)) (w.heap.size + 1 + 1) t := by simp [Box, go_sem]
  have G : Hid (Grow w (((w.alloc (.cells #[.int .i64 s.f, .int .i64 s.t, .int .i64 s.k, .int .i64 s.ep, .int .i64 s.x, .int .i64 s.y, .int .i64 s.z] 24)).alloc (.cells #[.int .i64 r.f, .int .i64 r.t, .int .i64 r.k, .int .i64 r.ep, .int .i64 r.x, .int .i64 r.y, .int .i64 r.z] 24)).alloc (.cells #[.int .i64 t.e, .int .i64 t.d, .int .i64 t.x, .int .i64 t.y, .int .i64 t.z] 30))) := hide (Grow.trans' (Grow.trans' (Grow.alloc' _ _) (Grow.alloc' _ _)) (Grow.alloc' _ _))
  have HS := hide KS
  have HR := hide KR
  have HT := hide KT
  obtain ⟨s_0, s_1, s_2, s_3, s_4, s_5, s_6⟩ := KS
  obtain ⟨r_0, r_1, r_2, r_3, r_4, r_5, r_6⟩ := KR
  obtain ⟨t_0, t_1, t_2, t_3, t_4⟩ := KT
  go_wp2_with fail
  refine (shown_any _).mono ?_
  rintro e w1 ⟨rfl, hb⟩
  clear s_0 s_1 s_2 s_3 s_4 s_5 s_6 r_0 r_1 r_2 r_3 r_4 r_5 r_6 t_0 t_1 t_2 t_3 t_4
  have KS : SBox w1 w.heap.size (s) := HS.out.later hb
  have KR : SBox w1 (w.heap.size + 1) (r) := HR.out.later hb
  have KT : Box w1 (w.heap.size + 1 + 1) (t) := HT.out.later hb
  have G : Hid (Grow w w1) := hide (Grow.trans' G.out hb)
  clear hb HS HR HT
  have HS := hide KS
  have HR := hide KR
  have HT := hide KT
  obtain ⟨s_0, s_1, s_2, s_3, s_4, s_5, s_6⟩ := KS
  obtain ⟨r_0, r_1, r_2, r_3, r_4, r_5, r_6⟩ := KR
  obtain ⟨t_0, t_1, t_2, t_3, t_4⟩ := KT
  go_wp2_with fail
  refine (then_at s r C 0 hC.out hE.out _).mono ?_
  rintro e w2 ⟨rfl, hb⟩
  clear s_0 s_1 s_2 s_3 s_4 s_5 s_6 r_0 r_1 r_2 r_3 r_4 r_5 r_6 t_0 t_1 t_2 t_3 t_4
  have KS : SBox (w2.alloc (.cells #[.int .i64 (C).f, .int .i64 (C).t, .int .i64 (C).k, .int .i64 (C).ep, .int .i64 (C).x, .int .i64 (C).y, .int .i64 (C).z] 24)) w.heap.size (s) := (HS.out.later hb).later (Grow.alloc' _ _)
  have KR : SBox (w2.alloc (.cells #[.int .i64 (C).f, .int .i64 (C).t, .int .i64 (C).k, .int .i64 (C).ep, .int .i64 (C).x, .int .i64 (C).y, .int .i64 (C).z] 24)) (w.heap.size + 1) (r) := (HR.out.later hb).later (Grow.alloc' _ _)
  have KT : Box (w2.alloc (.cells #[.int .i64 (C).f, .int .i64 (C).t, .int .i64 (C).k, .int .i64 (C).ep, .int .i64 (C).x, .int .i64 (C).y, .int .i64 (C).z] 24)) (w.heap.size + 1 + 1) (t) := (HT.out.later hb).later (Grow.alloc' _ _)
  have KC : SBox (w2.alloc (.cells #[.int .i64 (C).f, .int .i64 (C).t, .int .i64 (C).k, .int .i64 (C).ep, .int .i64 (C).x, .int .i64 (C).y, .int .i64 (C).z] 24)) w2.heap.size (C) := SBox.new _ _
  have G : Hid (Grow w (w2.alloc (.cells #[.int .i64 (C).f, .int .i64 (C).t, .int .i64 (C).k, .int .i64 (C).ep, .int .i64 (C).x, .int .i64 (C).y, .int .i64 (C).z] 24))) := hide (Grow.trans' (Grow.trans' G.out hb) (Grow.alloc' _ _))
  clear hb HS HR HT
  have HS := hide KS
  have HR := hide KR
  have HT := hide KT
  have HC := hide KC
  obtain ⟨s_0, s_1, s_2, s_3, s_4, s_5, s_6⟩ := KS
  obtain ⟨r_0, r_1, r_2, r_3, r_4, r_5, r_6⟩ := KR
  obtain ⟨t_0, t_1, t_2, t_3, t_4⟩ := KT
  obtain ⟨c_0, c_1, c_2, c_3, c_4, c_5, c_6⟩ := KC
  go_wp2_with fail
  refine (apply_at s t A F hA.out hF.out _).mono ?_
  rintro e w3 ⟨rfl, hb⟩
  clear s_0 s_1 s_2 s_3 s_4 s_5 s_6 r_0 r_1 r_2 r_3 r_4 r_5 r_6 t_0 t_1 t_2 t_3 t_4 c_0 c_1 c_2 c_3 c_4 c_5 c_6
  have KS : SBox (w3.alloc (.cells #[.int .i64 (A).e, .int .i64 (A).d, .int .i64 (A).x, .int .i64 (A).y, .int .i64 (A).z] 30)) w.heap.size (s) := (HS.out.later hb).later (Grow.alloc' _ _)
  have KR : SBox (w3.alloc (.cells #[.int .i64 (A).e, .int .i64 (A).d, .int .i64 (A).x, .int .i64 (A).y, .int .i64 (A).z] 30)) (w.heap.size + 1) (r) := (HR.out.later hb).later (Grow.alloc' _ _)
  have KT : Box (w3.alloc (.cells #[.int .i64 (A).e, .int .i64 (A).d, .int .i64 (A).x, .int .i64 (A).y, .int .i64 (A).z] 30)) (w.heap.size + 1 + 1) (t) := (HT.out.later hb).later (Grow.alloc' _ _)
  have KC : SBox (w3.alloc (.cells #[.int .i64 (A).e, .int .i64 (A).d, .int .i64 (A).x, .int .i64 (A).y, .int .i64 (A).z] 30)) w2.heap.size (C) := (HC.out.later hb).later (Grow.alloc' _ _)
  have KA : Box (w3.alloc (.cells #[.int .i64 (A).e, .int .i64 (A).d, .int .i64 (A).x, .int .i64 (A).y, .int .i64 (A).z] 30)) w3.heap.size (A) := Box.new _ _
  have G : Hid (Grow w (w3.alloc (.cells #[.int .i64 (A).e, .int .i64 (A).d, .int .i64 (A).x, .int .i64 (A).y, .int .i64 (A).z] 30))) := hide (Grow.trans' (Grow.trans' G.out hb) (Grow.alloc' _ _))
  clear hb HS HR HT HC
  have HS := hide KS
  have HR := hide KR
  have HT := hide KT
  have HC := hide KC
  have HA := hide KA
  obtain ⟨s_0, s_1, s_2, s_3, s_4, s_5, s_6⟩ := KS
  obtain ⟨r_0, r_1, r_2, r_3, r_4, r_5, r_6⟩ := KR
  obtain ⟨t_0, t_1, t_2, t_3, t_4⟩ := KT
  obtain ⟨c_0, c_1, c_2, c_3, c_4, c_5, c_6⟩ := KC
  obtain ⟨a_0, a_1, a_2, a_3, a_4⟩ := KA
  go_wp2_with fail
  refine (apply_at r A B L hB.out hG.out _).mono ?_
  rintro e w4 ⟨rfl, hb⟩
  clear s_0 s_1 s_2 s_3 s_4 s_5 s_6 r_0 r_1 r_2 r_3 r_4 r_5 r_6 t_0 t_1 t_2 t_3 t_4 c_0 c_1 c_2 c_3 c_4 c_5 c_6 a_0 a_1 a_2 a_3 a_4
  have KS : SBox (w4.alloc (.cells #[.int .i64 (B).e, .int .i64 (B).d, .int .i64 (B).x, .int .i64 (B).y, .int .i64 (B).z] 30)) w.heap.size (s) := (HS.out.later hb).later (Grow.alloc' _ _)
  have KR : SBox (w4.alloc (.cells #[.int .i64 (B).e, .int .i64 (B).d, .int .i64 (B).x, .int .i64 (B).y, .int .i64 (B).z] 30)) (w.heap.size + 1) (r) := (HR.out.later hb).later (Grow.alloc' _ _)
  have KT : Box (w4.alloc (.cells #[.int .i64 (B).e, .int .i64 (B).d, .int .i64 (B).x, .int .i64 (B).y, .int .i64 (B).z] 30)) (w.heap.size + 1 + 1) (t) := (HT.out.later hb).later (Grow.alloc' _ _)
  have KC : SBox (w4.alloc (.cells #[.int .i64 (B).e, .int .i64 (B).d, .int .i64 (B).x, .int .i64 (B).y, .int .i64 (B).z] 30)) w2.heap.size (C) := (HC.out.later hb).later (Grow.alloc' _ _)
  have KA : Box (w4.alloc (.cells #[.int .i64 (B).e, .int .i64 (B).d, .int .i64 (B).x, .int .i64 (B).y, .int .i64 (B).z] 30)) w3.heap.size (A) := (HA.out.later hb).later (Grow.alloc' _ _)
  have KB : Box (w4.alloc (.cells #[.int .i64 (B).e, .int .i64 (B).d, .int .i64 (B).x, .int .i64 (B).y, .int .i64 (B).z] 30)) w4.heap.size (B) := Box.new _ _
  have G : Hid (Grow w (w4.alloc (.cells #[.int .i64 (B).e, .int .i64 (B).d, .int .i64 (B).x, .int .i64 (B).y, .int .i64 (B).z] 30))) := hide (Grow.trans' (Grow.trans' G.out hb) (Grow.alloc' _ _))
  clear hb HS HR HT HC HA
  have HS := hide KS
  have HR := hide KR
  have HT := hide KT
  have HC := hide KC
  have HA := hide KA
  have HB := hide KB
  obtain ⟨s_0, s_1, s_2, s_3, s_4, s_5, s_6⟩ := KS
  obtain ⟨r_0, r_1, r_2, r_3, r_4, r_5, r_6⟩ := KR
  obtain ⟨t_0, t_1, t_2, t_3, t_4⟩ := KT
  obtain ⟨c_0, c_1, c_2, c_3, c_4, c_5, c_6⟩ := KC
  obtain ⟨a_0, a_1, a_2, a_3, a_4⟩ := KA
  obtain ⟨b_0, b_1, b_2, b_3, b_4⟩ := KB
  go_wp2_with fail
  refine (apply_at C t D H hD.out hH.out _).mono ?_
  rintro e w5 ⟨rfl, hb⟩
  clear s_0 s_1 s_2 s_3 s_4 s_5 s_6 r_0 r_1 r_2 r_3 r_4 r_5 r_6 t_0 t_1 t_2 t_3 t_4 c_0 c_1 c_2 c_3 c_4 c_5 c_6 a_0 a_1 a_2 a_3 a_4 b_0 b_1 b_2 b_3 b_4
  have KS : SBox (w5.alloc (.cells #[.int .i64 (D).e, .int .i64 (D).d, .int .i64 (D).x, .int .i64 (D).y, .int .i64 (D).z] 30)) w.heap.size (s) := (HS.out.later hb).later (Grow.alloc' _ _)
  have KR : SBox (w5.alloc (.cells #[.int .i64 (D).e, .int .i64 (D).d, .int .i64 (D).x, .int .i64 (D).y, .int .i64 (D).z] 30)) (w.heap.size + 1) (r) := (HR.out.later hb).later (Grow.alloc' _ _)
  have KT : Box (w5.alloc (.cells #[.int .i64 (D).e, .int .i64 (D).d, .int .i64 (D).x, .int .i64 (D).y, .int .i64 (D).z] 30)) (w.heap.size + 1 + 1) (t) := (HT.out.later hb).later (Grow.alloc' _ _)
  have KC : SBox (w5.alloc (.cells #[.int .i64 (D).e, .int .i64 (D).d, .int .i64 (D).x, .int .i64 (D).y, .int .i64 (D).z] 30)) w2.heap.size (C) := (HC.out.later hb).later (Grow.alloc' _ _)
  have KA : Box (w5.alloc (.cells #[.int .i64 (D).e, .int .i64 (D).d, .int .i64 (D).x, .int .i64 (D).y, .int .i64 (D).z] 30)) w3.heap.size (A) := (HA.out.later hb).later (Grow.alloc' _ _)
  have KB : Box (w5.alloc (.cells #[.int .i64 (D).e, .int .i64 (D).d, .int .i64 (D).x, .int .i64 (D).y, .int .i64 (D).z] 30)) w4.heap.size (B) := (HB.out.later hb).later (Grow.alloc' _ _)
  have KD : Box (w5.alloc (.cells #[.int .i64 (D).e, .int .i64 (D).d, .int .i64 (D).x, .int .i64 (D).y, .int .i64 (D).z] 30)) w5.heap.size (D) := Box.new _ _
  have G : Hid (Grow w (w5.alloc (.cells #[.int .i64 (D).e, .int .i64 (D).d, .int .i64 (D).x, .int .i64 (D).y, .int .i64 (D).z] 30))) := hide (Grow.trans' (Grow.trans' G.out hb) (Grow.alloc' _ _))
  clear hb HS HR HT HC HA HB
  obtain ⟨s0, s1, s2, s3, s4, s5, s6⟩ := KS
  obtain ⟨b0, b1, b2, b3, b4⟩ := KB
  obtain ⟨d0, d1, d2, d3, d4⟩ := KD
  clear KR KT KC KA
  go_wp2_with fail
  refine (sMayC s true hm.out _).mono ?_
  rintro e w6 ⟨rfl, hb⟩
  have G' := hide (Grow.trans' G.out hb)
  have KS : SBox w6 w.heap.size s := SBox.later hb ⟨s0, s1, s2, s3, s4, s5, s6⟩
  clear s0 s1 s2 s3 s4 s5 s6 b0 b1 b2 b3 b4 d0 d1 d2 d3 d4 hb G
  have G := G'
  clear G'
  have HS : Hid (SBox w6 (w.heap.size) s) := hide KS
  clear KS
  have HH : ∀ w', Grow w6 w' → (fun w' => Grow w6 w' ∧ w'.cell? ⟨w.heap.size, 0, none⟩ = some (.int .i64 s.f) ∧ w'.cell? ⟨w.heap.size, 1, none⟩ = some (.int .i64 s.t) ∧ w'.cell? ⟨w.heap.size, 2, none⟩ = some (.int .i64 s.k) ∧ w'.cell? ⟨w.heap.size, 3, none⟩ = some (.int .i64 s.ep) ∧ w'.cell? ⟨w.heap.size, 4, none⟩ = some (.int .i64 s.x) ∧ w'.cell? ⟨w.heap.size, 5, none⟩ = some (.int .i64 s.y) ∧ w'.cell? ⟨w.heap.size, 6, none⟩ = some (.int .i64 s.z)) w' := fun w' hq => by
    obtain ⟨qS0, qS1, qS2, qS3, qS4, qS5, qS6⟩ := HS.out.later hq
    exact ⟨hq, qS0, qS1, qS2, qS3, qS4, qS5, qS6⟩
  have HK := hide HH
  clear HH
  go_wp2_with fail
  go_region_held3 (fun w' => Grow w6 w' ∧ w'.cell? ⟨w.heap.size, 0, none⟩ = some (.int .i64 s.f) ∧ w'.cell? ⟨w.heap.size, 1, none⟩ = some (.int .i64 s.t) ∧ w'.cell? ⟨w.heap.size, 2, none⟩ = some (.int .i64 s.k) ∧ w'.cell? ⟨w.heap.size, 3, none⟩ = some (.int .i64 s.ep) ∧ w'.cell? ⟨w.heap.size, 4, none⟩ = some (.int .i64 s.x) ∧ w'.cell? ⟨w.heap.size, 5, none⟩ = some (.int .i64 s.y) ∧ w'.cell? ⟨w.heap.size, 6, none⟩ = some (.int .i64 s.z)) (first | (refine HK.out _ ?_; simp (maxDischargeDepth := 30) only [growR, growA, growD]; done) | (with_reducible exact HK.out _ gu00) | (refine HK.out _ ?_; simp (maxDischargeDepth := 30) [growA, gu00]; done) | (with_reducible exact HK.out _ gu01) | (refine HK.out _ ?_; simp (maxDischargeDepth := 30) [growA, growS, zu00, gu01]; done)) (first | (go_at_call 10; refine (same_any s.f _).mono ?_; rintro e u00 ⟨rfl, hbu00⟩; have gu00 : Below w6.heap.size w6 u00 := Grow.trans' (‹Grow w6 _ ∧ _›).1 hbu00; have zu00 := gu00.size; have yu00 := hbu00.size; (try simp at yu00); (try (refine (fun v000 : w6.heap.size < u00.heap.size => ?_) ?_; rotate_left; focus omega)); obtain ⟨hcu00, hfu00⟩ := bcell hbu00) | (go_at_call 22; refine (then_at (sameS s.f) s s 0 hx.out.2 hx.out.1 _).mono ?_; rintro e u01 ⟨rfl, hbu01⟩; have gu01 : Below w6.heap.size w6 u01 := Grow.trans' (‹Grow w6 _ ∧ _›).1 hbu01; have zu01 := gu01.size; have yu01 := hbu01.size; (try simp at yu01); (try (refine (fun v010 : w6.heap.size < u01.heap.size => ?_) ?_; rotate_left; focus omega)); (try (refine (fun v011 : u00.heap.size < u01.heap.size => ?_) ?_; rotate_left; focus omega)); obtain ⟨hcu01, hfu01⟩ := bcell hbu01))
  all_goals
    obtain ⟨X0, hX⟩ := world_of (‹Grow w6 _ ∧ _›).1
    have HGW := (‹Grow w6 _ ∧ _›).1
    rw [← hX] at HGW ⊢
    first
      | (refine cutP (P := SBox X0 u01.heap.size (s)) ?_ ?_; (focus (rw [hX]; simp (maxDischargeDepth := 30) [SBox, go_sem, *]; done)); intro KX; obtain ⟨bX, hbl⟩ : ∃ b, b = u01.heap.size := ⟨_, rfl⟩; rw [← hbl] at KX ⊢; clear hbl)
      | (refine cutP (P := SBox X0 u00.heap.size (s)) ?_ ?_; (focus (rw [hX]; simp (maxDischargeDepth := 30) [SBox, go_sem, *]; done)); intro KX; obtain ⟨bX, hbl⟩ : ∃ b, b = u00.heap.size := ⟨_, rfl⟩; rw [← hbl] at KX ⊢; clear hbl)
      | (refine cutP (P := SBox X0 w6.heap.size (s)) ?_ ?_; (focus (rw [hX]; simp (maxDischargeDepth := 30) [SBox, go_sem, *]; done)); intro KX; obtain ⟨bX, hbl⟩ : ∃ b, b = w6.heap.size := ⟨_, rfl⟩; rw [← hbl] at KX ⊢; clear hbl)
    have KS : SBox X0 (w.heap.size) s := HS.out.later HGW
    have G : Hid (Grow w X0) := hide (Grow.trans' G.out HGW)
    clear hX HGW HK
    clear hcu00 hfu00 hbu00 gu00 zu00 yu00
    clear hcu01 hfu01 hbu01 gu01 zu01 yu01
    have HS : Hid (SBox X0 (w.heap.size) s) := hide KS
    have HX : Hid (SBox X0 (bX) s) := hide KX
    clear KS KX
    have HH : ∀ w', Grow X0 w' → (fun w' => Grow X0 w' ∧ w'.cell? ⟨w.heap.size, 0, none⟩ = some (.int .i64 s.f) ∧ w'.cell? ⟨w.heap.size, 1, none⟩ = some (.int .i64 s.t) ∧ w'.cell? ⟨w.heap.size, 2, none⟩ = some (.int .i64 s.k) ∧ w'.cell? ⟨w.heap.size, 3, none⟩ = some (.int .i64 s.ep) ∧ w'.cell? ⟨w.heap.size, 4, none⟩ = some (.int .i64 s.x) ∧ w'.cell? ⟨w.heap.size, 5, none⟩ = some (.int .i64 s.y) ∧ w'.cell? ⟨w.heap.size, 6, none⟩ = some (.int .i64 s.z) ∧ w'.cell? ⟨bX, 0, none⟩ = some (.int .i64 s.f) ∧ w'.cell? ⟨bX, 1, none⟩ = some (.int .i64 s.t) ∧ w'.cell? ⟨bX, 2, none⟩ = some (.int .i64 s.k) ∧ w'.cell? ⟨bX, 3, none⟩ = some (.int .i64 s.ep) ∧ w'.cell? ⟨bX, 4, none⟩ = some (.int .i64 s.x) ∧ w'.cell? ⟨bX, 5, none⟩ = some (.int .i64 s.y) ∧ w'.cell? ⟨bX, 6, none⟩ = some (.int .i64 s.z)) w' := fun w' hq => by
      obtain ⟨qS0, qS1, qS2, qS3, qS4, qS5, qS6⟩ := HS.out.later hq
      obtain ⟨qX0, qX1, qX2, qX3, qX4, qX5, qX6⟩ := HX.out.later hq
      exact ⟨hq, qS0, qS1, qS2, qS3, qS4, qS5, qS6, qX0, qX1, qX2, qX3, qX4, qX5, qX6⟩
    have HK := hide HH
    clear HH
    go_wp2_with fail
    go_region_held3 (fun w' => Grow X0 w' ∧ w'.cell? ⟨w.heap.size, 0, none⟩ = some (.int .i64 s.f) ∧ w'.cell? ⟨w.heap.size, 1, none⟩ = some (.int .i64 s.t) ∧ w'.cell? ⟨w.heap.size, 2, none⟩ = some (.int .i64 s.k) ∧ w'.cell? ⟨w.heap.size, 3, none⟩ = some (.int .i64 s.ep) ∧ w'.cell? ⟨w.heap.size, 4, none⟩ = some (.int .i64 s.x) ∧ w'.cell? ⟨w.heap.size, 5, none⟩ = some (.int .i64 s.y) ∧ w'.cell? ⟨w.heap.size, 6, none⟩ = some (.int .i64 s.z) ∧ w'.cell? ⟨bX, 0, none⟩ = some (.int .i64 s.f) ∧ w'.cell? ⟨bX, 1, none⟩ = some (.int .i64 s.t) ∧ w'.cell? ⟨bX, 2, none⟩ = some (.int .i64 s.k) ∧ w'.cell? ⟨bX, 3, none⟩ = some (.int .i64 s.ep) ∧ w'.cell? ⟨bX, 4, none⟩ = some (.int .i64 s.x) ∧ w'.cell? ⟨bX, 5, none⟩ = some (.int .i64 s.y) ∧ w'.cell? ⟨bX, 6, none⟩ = some (.int .i64 s.z)) (first | (refine HK.out _ ?_; simp (maxDischargeDepth := 30) only [growR, growA, growD]; done) | (with_reducible exact HK.out _ gu10) | (refine HK.out _ ?_; simp (maxDischargeDepth := 30) [growA, gu10]; done) | (with_reducible exact HK.out _ gu11) | (refine HK.out _ ?_; simp (maxDischargeDepth := 30) [growA, growS, zu10, gu11]; done)) (first | (go_at_call 10; refine (same_any s.t _).mono ?_; rintro e u10 ⟨rfl, hbu10⟩; have gu10 : Below X0.heap.size X0 u10 := Grow.trans' (‹Grow X0 _ ∧ _›).1 hbu10; have zu10 := gu10.size; have yu10 := hbu10.size; (try simp at yu10); (try (refine (fun v100 : X0.heap.size < u10.heap.size => ?_) ?_; rotate_left; focus omega)); obtain ⟨hcu10, hfu10⟩ := bcell hbu10) | (go_at_call 22; refine (then_at s (sameS s.t) s 0 hy.out.2 hy.out.1 _).mono ?_; rintro e u11 ⟨rfl, hbu11⟩; have gu11 : Below X0.heap.size X0 u11 := Grow.trans' (‹Grow X0 _ ∧ _›).1 hbu11; have zu11 := gu11.size; have yu11 := hbu11.size; (try simp at yu11); (try (refine (fun v110 : X0.heap.size < u11.heap.size => ?_) ?_; rotate_left; focus omega)); (try (refine (fun v111 : u10.heap.size < u11.heap.size => ?_) ?_; rotate_left; focus omega)); obtain ⟨hcu11, hfu11⟩ := bcell hbu11))
    all_goals
      obtain ⟨X1, hX⟩ := world_of (‹Grow X0 _ ∧ _›).1
      have HGW := (‹Grow X0 _ ∧ _›).1
      rw [← hX] at HGW ⊢
      first
        | (refine cutP (P := SBox X1 u11.heap.size (s)) ?_ ?_; (focus (rw [hX]; simp (maxDischargeDepth := 30) [SBox, go_sem, *]; done)); intro KY; obtain ⟨bY, hbl⟩ : ∃ b, b = u11.heap.size := ⟨_, rfl⟩; rw [← hbl] at KY ⊢; clear hbl)
        | (refine cutP (P := SBox X1 u10.heap.size (s)) ?_ ?_; (focus (rw [hX]; simp (maxDischargeDepth := 30) [SBox, go_sem, *]; done)); intro KY; obtain ⟨bY, hbl⟩ : ∃ b, b = u10.heap.size := ⟨_, rfl⟩; rw [← hbl] at KY ⊢; clear hbl)
        | (refine cutP (P := SBox X1 X0.heap.size (s)) ?_ ?_; (focus (rw [hX]; simp (maxDischargeDepth := 30) [SBox, go_sem, *]; done)); intro KY; obtain ⟨bY, hbl⟩ : ∃ b, b = X0.heap.size := ⟨_, rfl⟩; rw [← hbl] at KY ⊢; clear hbl)
      have KS : SBox X1 (w.heap.size) s := HS.out.later HGW
      have KX : SBox X1 (bX) s := HX.out.later HGW
      have G : Hid (Grow w X1) := hide (Grow.trans' G.out HGW)
      clear hX HGW HK
      clear hcu10 hfu10 hbu10 gu10 zu10 yu10
      clear hcu11 hfu11 hbu11 gu11 zu11 yu11
      obtain ⟨s0, s1, s2, s3, s4, s5, s6⟩ := KS
      obtain ⟨x0, x1, x2, x3, x4, x5, x6⟩ := KX
      obtain ⟨y0, y1, y2, y3, y4, y5, y6⟩ := KY
      go_wp2
      go_ret
      exact ⟨rfl, G.out⟩
set_option maxHeartbeats 2000000 in
theorem SummaryThen_3true (s r C : Sm) (t A B D : Tm) (E F L H : Int) (w : World) (hC : Hid (thenS s r = C)) (hE : Hid (thenE s r = 0)) (hA : Hid (applyT s t = A)) (hF : Hid (applyE s t = 0)) (hB : Hid (applyT r A = B)) (hG : Hid (applyE r A = L)) (hD : Hid (applyT C t = D)) (hH : Hid (applyE C t = H)) (hm : Hid (mayS s = true)) (k1 : ¬ L = 0) :
    Calls Try.prog 6 #[.agg #[.int .i64 s.f, .int .i64 s.t, .int .i64 s.k, .int .i64 s.ep, .int .i64 s.x, .int .i64 s.y, .int .i64 s.z], .agg #[.int .i64 r.f, .int .i64 r.t, .int .i64 r.k, .int .i64 r.ep, .int .i64 r.x, .int .i64 r.y, .int .i64 r.z], .agg #[.int .i64 t.e, .int .i64 t.d, .int .i64 t.x, .int .i64 t.y, .int .i64 t.z]] w fun e w' => e = .returned (.bool true) ∧ Below w.heap.size w w' := by
  have e1 := eqS_self
  have hx := hide (same_then hm.out)
  have hy := hide (then_same hm.out)
  go_enter Try.func6, Try.ntmps6
  have KS : SBox (((w.alloc (.cells #[.int .i64 s.f, .int .i64 s.t, .int .i64 s.k, .int .i64 s.ep, .int .i64 s.x, .int .i64 s.y, .int .i64 s.z] 24)).alloc (.cells #[.int .i64 r.f, .int .i64 r.t, .int .i64 r.k, .int .i64 r.ep, .int .i64 r.x, .int .i64 r.y, .int .i64 r.z] 24)).alloc (.cells #[.int .i64 t.e, .int .i64 t.d, .int .i64 t.x, .int .i64 t.y, .int .i64 t.z] 30)) (w.heap.size) s := by simp [SBox, go_sem]
  have KR : SBox (((w.alloc (.cells #[.int .i64 s.f, .int .i64 s.t, .int .i64 s.k, .int .i64 s.ep, .int .i64 s.x, .int .i64 s.y, .int .i64 s.z] 24)).alloc (.cells #[.int .i64 r.f, .int .i64 r.t, .int .i64 r.k, .int .i64 r.ep, .int .i64 r.x, .int .i64 r.y, .int .i64 r.z] 24)).alloc (.cells #[.int .i64 t.e, .int .i64 t.d, .int .i64 t.x, .int .i64 t.y, .int .i64 t.z] 30)) (w.heap.size + 1) r := by simp [SBox, go_sem]
  have KT : Box (((w.alloc (.cells #[.int .i64 s.f, .int .i64 s.t, .int .i64 s.k, .int .i64 s.ep, .int .i64 s.x, .int .i64 s.y, .int .i64 s.z] 24)).alloc (.cells #[.int .i64 r.f, .int .i64 r.t, .int .i64 r.k, .int .i64 r.ep, .int .i64 r.x, .int .i64 r.y, .int .i64 r.z] 24)).alloc (.cells #[.int .i64 t.e, .int .i64 t.d, .int .i64 t.x, .int .i64 t.y, .int .i64 t.z] 30)) (w.heap.size + 1 + 1) t := by simp [Box, go_sem]
  have G : Hid (Grow w (((w.alloc (.cells #[.int .i64 s.f, .int .i64 s.t, .int .i64 s.k, .int .i64 s.ep, .int .i64 s.x, .int .i64 s.y, .int .i64 s.z] 24)).alloc (.cells #[.int .i64 r.f, .int .i64 r.t, .int .i64 r.k, .int .i64 r.ep, .int .i64 r.x, .int .i64 r.y, .int .i64 r.z] 24)).alloc (.cells #[.int .i64 t.e, .int .i64 t.d, .int .i64 t.x, .int .i64 t.y, .int .i64 t.z] 30))) := hide (Grow.trans' (Grow.trans' (Grow.alloc' _ _) (Grow.alloc' _ _)) (Grow.alloc' _ _))
  have HS := hide KS
  have HR := hide KR
  have HT := hide KT
  obtain ⟨s_0, s_1, s_2, s_3, s_4, s_5, s_6⟩ := KS
  obtain ⟨r_0, r_1, r_2, r_3, r_4, r_5, r_6⟩ := KR
  obtain ⟨t_0, t_1, t_2, t_3, t_4⟩ := KT
  go_wp2_with fail
  refine (shown_any _).mono ?_
  rintro e w1 ⟨rfl, hb⟩
  clear s_0 s_1 s_2 s_3 s_4 s_5 s_6 r_0 r_1 r_2 r_3 r_4 r_5 r_6 t_0 t_1 t_2 t_3 t_4
  have KS : SBox w1 w.heap.size (s) := HS.out.later hb
  have KR : SBox w1 (w.heap.size + 1) (r) := HR.out.later hb
  have KT : Box w1 (w.heap.size + 1 + 1) (t) := HT.out.later hb
  have G : Hid (Grow w w1) := hide (Grow.trans' G.out hb)
  clear hb HS HR HT
  have HS := hide KS
  have HR := hide KR
  have HT := hide KT
  obtain ⟨s_0, s_1, s_2, s_3, s_4, s_5, s_6⟩ := KS
  obtain ⟨r_0, r_1, r_2, r_3, r_4, r_5, r_6⟩ := KR
  obtain ⟨t_0, t_1, t_2, t_3, t_4⟩ := KT
  go_wp2_with fail
  refine (then_at s r C 0 hC.out hE.out _).mono ?_
  rintro e w2 ⟨rfl, hb⟩
  clear s_0 s_1 s_2 s_3 s_4 s_5 s_6 r_0 r_1 r_2 r_3 r_4 r_5 r_6 t_0 t_1 t_2 t_3 t_4
  have KS : SBox (w2.alloc (.cells #[.int .i64 (C).f, .int .i64 (C).t, .int .i64 (C).k, .int .i64 (C).ep, .int .i64 (C).x, .int .i64 (C).y, .int .i64 (C).z] 24)) w.heap.size (s) := (HS.out.later hb).later (Grow.alloc' _ _)
  have KR : SBox (w2.alloc (.cells #[.int .i64 (C).f, .int .i64 (C).t, .int .i64 (C).k, .int .i64 (C).ep, .int .i64 (C).x, .int .i64 (C).y, .int .i64 (C).z] 24)) (w.heap.size + 1) (r) := (HR.out.later hb).later (Grow.alloc' _ _)
  have KT : Box (w2.alloc (.cells #[.int .i64 (C).f, .int .i64 (C).t, .int .i64 (C).k, .int .i64 (C).ep, .int .i64 (C).x, .int .i64 (C).y, .int .i64 (C).z] 24)) (w.heap.size + 1 + 1) (t) := (HT.out.later hb).later (Grow.alloc' _ _)
  have KC : SBox (w2.alloc (.cells #[.int .i64 (C).f, .int .i64 (C).t, .int .i64 (C).k, .int .i64 (C).ep, .int .i64 (C).x, .int .i64 (C).y, .int .i64 (C).z] 24)) w2.heap.size (C) := SBox.new _ _
  have G : Hid (Grow w (w2.alloc (.cells #[.int .i64 (C).f, .int .i64 (C).t, .int .i64 (C).k, .int .i64 (C).ep, .int .i64 (C).x, .int .i64 (C).y, .int .i64 (C).z] 24))) := hide (Grow.trans' (Grow.trans' G.out hb) (Grow.alloc' _ _))
  clear hb HS HR HT
  have HS := hide KS
  have HR := hide KR
  have HT := hide KT
  have HC := hide KC
  obtain ⟨s_0, s_1, s_2, s_3, s_4, s_5, s_6⟩ := KS
  obtain ⟨r_0, r_1, r_2, r_3, r_4, r_5, r_6⟩ := KR
  obtain ⟨t_0, t_1, t_2, t_3, t_4⟩ := KT
  obtain ⟨c_0, c_1, c_2, c_3, c_4, c_5, c_6⟩ := KC
  go_wp2_with fail
  refine (apply_at s t A 0 hA.out hF.out _).mono ?_
  rintro e w3 ⟨rfl, hb⟩
  clear s_0 s_1 s_2 s_3 s_4 s_5 s_6 r_0 r_1 r_2 r_3 r_4 r_5 r_6 t_0 t_1 t_2 t_3 t_4 c_0 c_1 c_2 c_3 c_4 c_5 c_6
  have KS : SBox (w3.alloc (.cells #[.int .i64 (A).e, .int .i64 (A).d, .int .i64 (A).x, .int .i64 (A).y, .int .i64 (A).z] 30)) w.heap.size (s) := (HS.out.later hb).later (Grow.alloc' _ _)
  have KR : SBox (w3.alloc (.cells #[.int .i64 (A).e, .int .i64 (A).d, .int .i64 (A).x, .int .i64 (A).y, .int .i64 (A).z] 30)) (w.heap.size + 1) (r) := (HR.out.later hb).later (Grow.alloc' _ _)
  have KT : Box (w3.alloc (.cells #[.int .i64 (A).e, .int .i64 (A).d, .int .i64 (A).x, .int .i64 (A).y, .int .i64 (A).z] 30)) (w.heap.size + 1 + 1) (t) := (HT.out.later hb).later (Grow.alloc' _ _)
  have KC : SBox (w3.alloc (.cells #[.int .i64 (A).e, .int .i64 (A).d, .int .i64 (A).x, .int .i64 (A).y, .int .i64 (A).z] 30)) w2.heap.size (C) := (HC.out.later hb).later (Grow.alloc' _ _)
  have KA : Box (w3.alloc (.cells #[.int .i64 (A).e, .int .i64 (A).d, .int .i64 (A).x, .int .i64 (A).y, .int .i64 (A).z] 30)) w3.heap.size (A) := Box.new _ _
  have G : Hid (Grow w (w3.alloc (.cells #[.int .i64 (A).e, .int .i64 (A).d, .int .i64 (A).x, .int .i64 (A).y, .int .i64 (A).z] 30))) := hide (Grow.trans' (Grow.trans' G.out hb) (Grow.alloc' _ _))
  clear hb HS HR HT HC
  have HS := hide KS
  have HR := hide KR
  have HT := hide KT
  have HC := hide KC
  have HA := hide KA
  obtain ⟨s_0, s_1, s_2, s_3, s_4, s_5, s_6⟩ := KS
  obtain ⟨r_0, r_1, r_2, r_3, r_4, r_5, r_6⟩ := KR
  obtain ⟨t_0, t_1, t_2, t_3, t_4⟩ := KT
  obtain ⟨c_0, c_1, c_2, c_3, c_4, c_5, c_6⟩ := KC
  obtain ⟨a_0, a_1, a_2, a_3, a_4⟩ := KA
  go_wp2_with fail
  refine (apply_at r A B L hB.out hG.out _).mono ?_
  rintro e w4 ⟨rfl, hb⟩
  clear s_0 s_1 s_2 s_3 s_4 s_5 s_6 r_0 r_1 r_2 r_3 r_4 r_5 r_6 t_0 t_1 t_2 t_3 t_4 c_0 c_1 c_2 c_3 c_4 c_5 c_6 a_0 a_1 a_2 a_3 a_4
  have KS : SBox (w4.alloc (.cells #[.int .i64 (B).e, .int .i64 (B).d, .int .i64 (B).x, .int .i64 (B).y, .int .i64 (B).z] 30)) w.heap.size (s) := (HS.out.later hb).later (Grow.alloc' _ _)
  have KR : SBox (w4.alloc (.cells #[.int .i64 (B).e, .int .i64 (B).d, .int .i64 (B).x, .int .i64 (B).y, .int .i64 (B).z] 30)) (w.heap.size + 1) (r) := (HR.out.later hb).later (Grow.alloc' _ _)
  have KT : Box (w4.alloc (.cells #[.int .i64 (B).e, .int .i64 (B).d, .int .i64 (B).x, .int .i64 (B).y, .int .i64 (B).z] 30)) (w.heap.size + 1 + 1) (t) := (HT.out.later hb).later (Grow.alloc' _ _)
  have KC : SBox (w4.alloc (.cells #[.int .i64 (B).e, .int .i64 (B).d, .int .i64 (B).x, .int .i64 (B).y, .int .i64 (B).z] 30)) w2.heap.size (C) := (HC.out.later hb).later (Grow.alloc' _ _)
  have KA : Box (w4.alloc (.cells #[.int .i64 (B).e, .int .i64 (B).d, .int .i64 (B).x, .int .i64 (B).y, .int .i64 (B).z] 30)) w3.heap.size (A) := (HA.out.later hb).later (Grow.alloc' _ _)
  have KB : Box (w4.alloc (.cells #[.int .i64 (B).e, .int .i64 (B).d, .int .i64 (B).x, .int .i64 (B).y, .int .i64 (B).z] 30)) w4.heap.size (B) := Box.new _ _
  have G : Hid (Grow w (w4.alloc (.cells #[.int .i64 (B).e, .int .i64 (B).d, .int .i64 (B).x, .int .i64 (B).y, .int .i64 (B).z] 30))) := hide (Grow.trans' (Grow.trans' G.out hb) (Grow.alloc' _ _))
  clear hb HS HR HT HC HA
  have HS := hide KS
  have HR := hide KR
  have HT := hide KT
  have HC := hide KC
  have HA := hide KA
  have HB := hide KB
  obtain ⟨s_0, s_1, s_2, s_3, s_4, s_5, s_6⟩ := KS
  obtain ⟨r_0, r_1, r_2, r_3, r_4, r_5, r_6⟩ := KR
  obtain ⟨t_0, t_1, t_2, t_3, t_4⟩ := KT
  obtain ⟨c_0, c_1, c_2, c_3, c_4, c_5, c_6⟩ := KC
  obtain ⟨a_0, a_1, a_2, a_3, a_4⟩ := KA
  obtain ⟨b_0, b_1, b_2, b_3, b_4⟩ := KB
  go_wp2_with fail
  refine (apply_at C t D H hD.out hH.out _).mono ?_
  rintro e w5 ⟨rfl, hb⟩
  clear s_0 s_1 s_2 s_3 s_4 s_5 s_6 r_0 r_1 r_2 r_3 r_4 r_5 r_6 t_0 t_1 t_2 t_3 t_4 c_0 c_1 c_2 c_3 c_4 c_5 c_6 a_0 a_1 a_2 a_3 a_4 b_0 b_1 b_2 b_3 b_4
  have KS : SBox (w5.alloc (.cells #[.int .i64 (D).e, .int .i64 (D).d, .int .i64 (D).x, .int .i64 (D).y, .int .i64 (D).z] 30)) w.heap.size (s) := (HS.out.later hb).later (Grow.alloc' _ _)
  have KR : SBox (w5.alloc (.cells #[.int .i64 (D).e, .int .i64 (D).d, .int .i64 (D).x, .int .i64 (D).y, .int .i64 (D).z] 30)) (w.heap.size + 1) (r) := (HR.out.later hb).later (Grow.alloc' _ _)
  have KT : Box (w5.alloc (.cells #[.int .i64 (D).e, .int .i64 (D).d, .int .i64 (D).x, .int .i64 (D).y, .int .i64 (D).z] 30)) (w.heap.size + 1 + 1) (t) := (HT.out.later hb).later (Grow.alloc' _ _)
  have KC : SBox (w5.alloc (.cells #[.int .i64 (D).e, .int .i64 (D).d, .int .i64 (D).x, .int .i64 (D).y, .int .i64 (D).z] 30)) w2.heap.size (C) := (HC.out.later hb).later (Grow.alloc' _ _)
  have KA : Box (w5.alloc (.cells #[.int .i64 (D).e, .int .i64 (D).d, .int .i64 (D).x, .int .i64 (D).y, .int .i64 (D).z] 30)) w3.heap.size (A) := (HA.out.later hb).later (Grow.alloc' _ _)
  have KB : Box (w5.alloc (.cells #[.int .i64 (D).e, .int .i64 (D).d, .int .i64 (D).x, .int .i64 (D).y, .int .i64 (D).z] 30)) w4.heap.size (B) := (HB.out.later hb).later (Grow.alloc' _ _)
  have KD : Box (w5.alloc (.cells #[.int .i64 (D).e, .int .i64 (D).d, .int .i64 (D).x, .int .i64 (D).y, .int .i64 (D).z] 30)) w5.heap.size (D) := Box.new _ _
  have G : Hid (Grow w (w5.alloc (.cells #[.int .i64 (D).e, .int .i64 (D).d, .int .i64 (D).x, .int .i64 (D).y, .int .i64 (D).z] 30))) := hide (Grow.trans' (Grow.trans' G.out hb) (Grow.alloc' _ _))
  clear hb HS HR HT HC HA HB
  obtain ⟨s0, s1, s2, s3, s4, s5, s6⟩ := KS
  obtain ⟨b0, b1, b2, b3, b4⟩ := KB
  obtain ⟨d0, d1, d2, d3, d4⟩ := KD
  clear KR KT KC KA
  go_wp2_with fail
  refine (sMayC s true hm.out _).mono ?_
  rintro e w6 ⟨rfl, hb⟩
  have G' := hide (Grow.trans' G.out hb)
  have KS : SBox w6 w.heap.size s := SBox.later hb ⟨s0, s1, s2, s3, s4, s5, s6⟩
  clear s0 s1 s2 s3 s4 s5 s6 b0 b1 b2 b3 b4 d0 d1 d2 d3 d4 hb G
  have G := G'
  clear G'
  have HS : Hid (SBox w6 (w.heap.size) s) := hide KS
  clear KS
  have HH : ∀ w', Grow w6 w' → (fun w' => Grow w6 w' ∧ w'.cell? ⟨w.heap.size, 0, none⟩ = some (.int .i64 s.f) ∧ w'.cell? ⟨w.heap.size, 1, none⟩ = some (.int .i64 s.t) ∧ w'.cell? ⟨w.heap.size, 2, none⟩ = some (.int .i64 s.k) ∧ w'.cell? ⟨w.heap.size, 3, none⟩ = some (.int .i64 s.ep) ∧ w'.cell? ⟨w.heap.size, 4, none⟩ = some (.int .i64 s.x) ∧ w'.cell? ⟨w.heap.size, 5, none⟩ = some (.int .i64 s.y) ∧ w'.cell? ⟨w.heap.size, 6, none⟩ = some (.int .i64 s.z)) w' := fun w' hq => by
    obtain ⟨qS0, qS1, qS2, qS3, qS4, qS5, qS6⟩ := HS.out.later hq
    exact ⟨hq, qS0, qS1, qS2, qS3, qS4, qS5, qS6⟩
  have HK := hide HH
  clear HH
  go_wp2_with fail
  go_region_held3 (fun w' => Grow w6 w' ∧ w'.cell? ⟨w.heap.size, 0, none⟩ = some (.int .i64 s.f) ∧ w'.cell? ⟨w.heap.size, 1, none⟩ = some (.int .i64 s.t) ∧ w'.cell? ⟨w.heap.size, 2, none⟩ = some (.int .i64 s.k) ∧ w'.cell? ⟨w.heap.size, 3, none⟩ = some (.int .i64 s.ep) ∧ w'.cell? ⟨w.heap.size, 4, none⟩ = some (.int .i64 s.x) ∧ w'.cell? ⟨w.heap.size, 5, none⟩ = some (.int .i64 s.y) ∧ w'.cell? ⟨w.heap.size, 6, none⟩ = some (.int .i64 s.z)) (first | (refine HK.out _ ?_; simp (maxDischargeDepth := 30) only [growR, growA, growD]; done) | (with_reducible exact HK.out _ gu00) | (refine HK.out _ ?_; simp (maxDischargeDepth := 30) [growA, gu00]; done) | (with_reducible exact HK.out _ gu01) | (refine HK.out _ ?_; simp (maxDischargeDepth := 30) [growA, growS, zu00, gu01]; done)) (first | (go_at_call 10; refine (same_any s.f _).mono ?_; rintro e u00 ⟨rfl, hbu00⟩; have gu00 : Below w6.heap.size w6 u00 := Grow.trans' (‹Grow w6 _ ∧ _›).1 hbu00; have zu00 := gu00.size; have yu00 := hbu00.size; (try simp at yu00); (try (refine (fun v000 : w6.heap.size < u00.heap.size => ?_) ?_; rotate_left; focus omega)); obtain ⟨hcu00, hfu00⟩ := bcell hbu00) | (go_at_call 22; refine (then_at (sameS s.f) s s 0 hx.out.2 hx.out.1 _).mono ?_; rintro e u01 ⟨rfl, hbu01⟩; have gu01 : Below w6.heap.size w6 u01 := Grow.trans' (‹Grow w6 _ ∧ _›).1 hbu01; have zu01 := gu01.size; have yu01 := hbu01.size; (try simp at yu01); (try (refine (fun v010 : w6.heap.size < u01.heap.size => ?_) ?_; rotate_left; focus omega)); (try (refine (fun v011 : u00.heap.size < u01.heap.size => ?_) ?_; rotate_left; focus omega)); obtain ⟨hcu01, hfu01⟩ := bcell hbu01))
  all_goals
    obtain ⟨X0, hX⟩ := world_of (‹Grow w6 _ ∧ _›).1
    have HGW := (‹Grow w6 _ ∧ _›).1
    rw [← hX] at HGW ⊢
    first
      | (refine cutP (P := SBox X0 u01.heap.size (s)) ?_ ?_; (focus (rw [hX]; simp (maxDischargeDepth := 30) [SBox, go_sem, *]; done)); intro KX; obtain ⟨bX, hbl⟩ : ∃ b, b = u01.heap.size := ⟨_, rfl⟩; rw [← hbl] at KX ⊢; clear hbl)
      | (refine cutP (P := SBox X0 u00.heap.size (s)) ?_ ?_; (focus (rw [hX]; simp (maxDischargeDepth := 30) [SBox, go_sem, *]; done)); intro KX; obtain ⟨bX, hbl⟩ : ∃ b, b = u00.heap.size := ⟨_, rfl⟩; rw [← hbl] at KX ⊢; clear hbl)
      | (refine cutP (P := SBox X0 w6.heap.size (s)) ?_ ?_; (focus (rw [hX]; simp (maxDischargeDepth := 30) [SBox, go_sem, *]; done)); intro KX; obtain ⟨bX, hbl⟩ : ∃ b, b = w6.heap.size := ⟨_, rfl⟩; rw [← hbl] at KX ⊢; clear hbl)
    have KS : SBox X0 (w.heap.size) s := HS.out.later HGW
    have G : Hid (Grow w X0) := hide (Grow.trans' G.out HGW)
    clear hX HGW HK
    clear hcu00 hfu00 hbu00 gu00 zu00 yu00
    clear hcu01 hfu01 hbu01 gu01 zu01 yu01
    have HS : Hid (SBox X0 (w.heap.size) s) := hide KS
    have HX : Hid (SBox X0 (bX) s) := hide KX
    clear KS KX
    have HH : ∀ w', Grow X0 w' → (fun w' => Grow X0 w' ∧ w'.cell? ⟨w.heap.size, 0, none⟩ = some (.int .i64 s.f) ∧ w'.cell? ⟨w.heap.size, 1, none⟩ = some (.int .i64 s.t) ∧ w'.cell? ⟨w.heap.size, 2, none⟩ = some (.int .i64 s.k) ∧ w'.cell? ⟨w.heap.size, 3, none⟩ = some (.int .i64 s.ep) ∧ w'.cell? ⟨w.heap.size, 4, none⟩ = some (.int .i64 s.x) ∧ w'.cell? ⟨w.heap.size, 5, none⟩ = some (.int .i64 s.y) ∧ w'.cell? ⟨w.heap.size, 6, none⟩ = some (.int .i64 s.z) ∧ w'.cell? ⟨bX, 0, none⟩ = some (.int .i64 s.f) ∧ w'.cell? ⟨bX, 1, none⟩ = some (.int .i64 s.t) ∧ w'.cell? ⟨bX, 2, none⟩ = some (.int .i64 s.k) ∧ w'.cell? ⟨bX, 3, none⟩ = some (.int .i64 s.ep) ∧ w'.cell? ⟨bX, 4, none⟩ = some (.int .i64 s.x) ∧ w'.cell? ⟨bX, 5, none⟩ = some (.int .i64 s.y) ∧ w'.cell? ⟨bX, 6, none⟩ = some (.int .i64 s.z)) w' := fun w' hq => by
      obtain ⟨qS0, qS1, qS2, qS3, qS4, qS5, qS6⟩ := HS.out.later hq
      obtain ⟨qX0, qX1, qX2, qX3, qX4, qX5, qX6⟩ := HX.out.later hq
      exact ⟨hq, qS0, qS1, qS2, qS3, qS4, qS5, qS6, qX0, qX1, qX2, qX3, qX4, qX5, qX6⟩
    have HK := hide HH
    clear HH
    go_wp2_with fail
    go_region_held3 (fun w' => Grow X0 w' ∧ w'.cell? ⟨w.heap.size, 0, none⟩ = some (.int .i64 s.f) ∧ w'.cell? ⟨w.heap.size, 1, none⟩ = some (.int .i64 s.t) ∧ w'.cell? ⟨w.heap.size, 2, none⟩ = some (.int .i64 s.k) ∧ w'.cell? ⟨w.heap.size, 3, none⟩ = some (.int .i64 s.ep) ∧ w'.cell? ⟨w.heap.size, 4, none⟩ = some (.int .i64 s.x) ∧ w'.cell? ⟨w.heap.size, 5, none⟩ = some (.int .i64 s.y) ∧ w'.cell? ⟨w.heap.size, 6, none⟩ = some (.int .i64 s.z) ∧ w'.cell? ⟨bX, 0, none⟩ = some (.int .i64 s.f) ∧ w'.cell? ⟨bX, 1, none⟩ = some (.int .i64 s.t) ∧ w'.cell? ⟨bX, 2, none⟩ = some (.int .i64 s.k) ∧ w'.cell? ⟨bX, 3, none⟩ = some (.int .i64 s.ep) ∧ w'.cell? ⟨bX, 4, none⟩ = some (.int .i64 s.x) ∧ w'.cell? ⟨bX, 5, none⟩ = some (.int .i64 s.y) ∧ w'.cell? ⟨bX, 6, none⟩ = some (.int .i64 s.z)) (first | (refine HK.out _ ?_; simp (maxDischargeDepth := 30) only [growR, growA, growD]; done) | (with_reducible exact HK.out _ gu10) | (refine HK.out _ ?_; simp (maxDischargeDepth := 30) [growA, gu10]; done) | (with_reducible exact HK.out _ gu11) | (refine HK.out _ ?_; simp (maxDischargeDepth := 30) [growA, growS, zu10, gu11]; done)) (first | (go_at_call 10; refine (same_any s.t _).mono ?_; rintro e u10 ⟨rfl, hbu10⟩; have gu10 : Below X0.heap.size X0 u10 := Grow.trans' (‹Grow X0 _ ∧ _›).1 hbu10; have zu10 := gu10.size; have yu10 := hbu10.size; (try simp at yu10); (try (refine (fun v100 : X0.heap.size < u10.heap.size => ?_) ?_; rotate_left; focus omega)); obtain ⟨hcu10, hfu10⟩ := bcell hbu10) | (go_at_call 22; refine (then_at s (sameS s.t) s 0 hy.out.2 hy.out.1 _).mono ?_; rintro e u11 ⟨rfl, hbu11⟩; have gu11 : Below X0.heap.size X0 u11 := Grow.trans' (‹Grow X0 _ ∧ _›).1 hbu11; have zu11 := gu11.size; have yu11 := hbu11.size; (try simp at yu11); (try (refine (fun v110 : X0.heap.size < u11.heap.size => ?_) ?_; rotate_left; focus omega)); (try (refine (fun v111 : u10.heap.size < u11.heap.size => ?_) ?_; rotate_left; focus omega)); obtain ⟨hcu11, hfu11⟩ := bcell hbu11))
    all_goals
      obtain ⟨X1, hX⟩ := world_of (‹Grow X0 _ ∧ _›).1
      have HGW := (‹Grow X0 _ ∧ _›).1
      rw [← hX] at HGW ⊢
      first
        | (refine cutP (P := SBox X1 u11.heap.size (s)) ?_ ?_; (focus (rw [hX]; simp (maxDischargeDepth := 30) [SBox, go_sem, *]; done)); intro KY; obtain ⟨bY, hbl⟩ : ∃ b, b = u11.heap.size := ⟨_, rfl⟩; rw [← hbl] at KY ⊢; clear hbl)
        | (refine cutP (P := SBox X1 u10.heap.size (s)) ?_ ?_; (focus (rw [hX]; simp (maxDischargeDepth := 30) [SBox, go_sem, *]; done)); intro KY; obtain ⟨bY, hbl⟩ : ∃ b, b = u10.heap.size := ⟨_, rfl⟩; rw [← hbl] at KY ⊢; clear hbl)
        | (refine cutP (P := SBox X1 X0.heap.size (s)) ?_ ?_; (focus (rw [hX]; simp (maxDischargeDepth := 30) [SBox, go_sem, *]; done)); intro KY; obtain ⟨bY, hbl⟩ : ∃ b, b = X0.heap.size := ⟨_, rfl⟩; rw [← hbl] at KY ⊢; clear hbl)
      have KS : SBox X1 (w.heap.size) s := HS.out.later HGW
      have KX : SBox X1 (bX) s := HX.out.later HGW
      have G : Hid (Grow w X1) := hide (Grow.trans' G.out HGW)
      clear hX HGW HK
      clear hcu10 hfu10 hbu10 gu10 zu10 yu10
      clear hcu11 hfu11 hbu11 gu11 zu11 yu11
      obtain ⟨s0, s1, s2, s3, s4, s5, s6⟩ := KS
      obtain ⟨x0, x1, x2, x3, x4, x5, x6⟩ := KX
      obtain ⟨y0, y1, y2, y3, y4, y5, y6⟩ := KY
      go_wp2
      go_ret
      exact ⟨rfl, G.out⟩
set_option maxHeartbeats 2000000 in
theorem SummaryThen_4true (s r C : Sm) (t A B D : Tm) (E F L H : Int) (w : World) (hC : Hid (thenS s r = C)) (hE : Hid (thenE s r = 0)) (hA : Hid (applyT s t = A)) (hF : Hid (applyE s t = 0)) (hB : Hid (applyT r A = B)) (hG : Hid (applyE r A = 0)) (hD : Hid (applyT C t = D)) (hH : Hid (applyE C t = 0)) (hm : Hid (mayS s = true)) (k1 : eqB D B = true) :
    Calls Try.prog 6 #[.agg #[.int .i64 s.f, .int .i64 s.t, .int .i64 s.k, .int .i64 s.ep, .int .i64 s.x, .int .i64 s.y, .int .i64 s.z], .agg #[.int .i64 r.f, .int .i64 r.t, .int .i64 r.k, .int .i64 r.ep, .int .i64 r.x, .int .i64 r.y, .int .i64 r.z], .agg #[.int .i64 t.e, .int .i64 t.d, .int .i64 t.x, .int .i64 t.y, .int .i64 t.z]] w fun e w' => e = .returned (.bool true) ∧ Below w.heap.size w w' := by
  have e1 := eqS_self
  have hx := hide (same_then hm.out)
  have hy := hide (then_same hm.out)
  go_enter Try.func6, Try.ntmps6
  have KS : SBox (((w.alloc (.cells #[.int .i64 s.f, .int .i64 s.t, .int .i64 s.k, .int .i64 s.ep, .int .i64 s.x, .int .i64 s.y, .int .i64 s.z] 24)).alloc (.cells #[.int .i64 r.f, .int .i64 r.t, .int .i64 r.k, .int .i64 r.ep, .int .i64 r.x, .int .i64 r.y, .int .i64 r.z] 24)).alloc (.cells #[.int .i64 t.e, .int .i64 t.d, .int .i64 t.x, .int .i64 t.y, .int .i64 t.z] 30)) (w.heap.size) s := by simp [SBox, go_sem]
  have KR : SBox (((w.alloc (.cells #[.int .i64 s.f, .int .i64 s.t, .int .i64 s.k, .int .i64 s.ep, .int .i64 s.x, .int .i64 s.y, .int .i64 s.z] 24)).alloc (.cells #[.int .i64 r.f, .int .i64 r.t, .int .i64 r.k, .int .i64 r.ep, .int .i64 r.x, .int .i64 r.y, .int .i64 r.z] 24)).alloc (.cells #[.int .i64 t.e, .int .i64 t.d, .int .i64 t.x, .int .i64 t.y, .int .i64 t.z] 30)) (w.heap.size + 1) r := by simp [SBox, go_sem]
  have KT : Box (((w.alloc (.cells #[.int .i64 s.f, .int .i64 s.t, .int .i64 s.k, .int .i64 s.ep, .int .i64 s.x, .int .i64 s.y, .int .i64 s.z] 24)).alloc (.cells #[.int .i64 r.f, .int .i64 r.t, .int .i64 r.k, .int .i64 r.ep, .int .i64 r.x, .int .i64 r.y, .int .i64 r.z] 24)).alloc (.cells #[.int .i64 t.e, .int .i64 t.d, .int .i64 t.x, .int .i64 t.y, .int .i64 t.z] 30)) (w.heap.size + 1 + 1) t := by simp [Box, go_sem]
  have G : Hid (Grow w (((w.alloc (.cells #[.int .i64 s.f, .int .i64 s.t, .int .i64 s.k, .int .i64 s.ep, .int .i64 s.x, .int .i64 s.y, .int .i64 s.z] 24)).alloc (.cells #[.int .i64 r.f, .int .i64 r.t, .int .i64 r.k, .int .i64 r.ep, .int .i64 r.x, .int .i64 r.y, .int .i64 r.z] 24)).alloc (.cells #[.int .i64 t.e, .int .i64 t.d, .int .i64 t.x, .int .i64 t.y, .int .i64 t.z] 30))) := hide (Grow.trans' (Grow.trans' (Grow.alloc' _ _) (Grow.alloc' _ _)) (Grow.alloc' _ _))
  have HS := hide KS
  have HR := hide KR
  have HT := hide KT
  obtain ⟨s_0, s_1, s_2, s_3, s_4, s_5, s_6⟩ := KS
  obtain ⟨r_0, r_1, r_2, r_3, r_4, r_5, r_6⟩ := KR
  obtain ⟨t_0, t_1, t_2, t_3, t_4⟩ := KT
  go_wp2_with fail
  refine (shown_any _).mono ?_
  rintro e w1 ⟨rfl, hb⟩
  clear s_0 s_1 s_2 s_3 s_4 s_5 s_6 r_0 r_1 r_2 r_3 r_4 r_5 r_6 t_0 t_1 t_2 t_3 t_4
  have KS : SBox w1 w.heap.size (s) := HS.out.later hb
  have KR : SBox w1 (w.heap.size + 1) (r) := HR.out.later hb
  have KT : Box w1 (w.heap.size + 1 + 1) (t) := HT.out.later hb
  have G : Hid (Grow w w1) := hide (Grow.trans' G.out hb)
  clear hb HS HR HT
  have HS := hide KS
  have HR := hide KR
  have HT := hide KT
  obtain ⟨s_0, s_1, s_2, s_3, s_4, s_5, s_6⟩ := KS
  obtain ⟨r_0, r_1, r_2, r_3, r_4, r_5, r_6⟩ := KR
  obtain ⟨t_0, t_1, t_2, t_3, t_4⟩ := KT
  go_wp2_with fail
  refine (then_at s r C 0 hC.out hE.out _).mono ?_
  rintro e w2 ⟨rfl, hb⟩
  clear s_0 s_1 s_2 s_3 s_4 s_5 s_6 r_0 r_1 r_2 r_3 r_4 r_5 r_6 t_0 t_1 t_2 t_3 t_4
  have KS : SBox (w2.alloc (.cells #[.int .i64 (C).f, .int .i64 (C).t, .int .i64 (C).k, .int .i64 (C).ep, .int .i64 (C).x, .int .i64 (C).y, .int .i64 (C).z] 24)) w.heap.size (s) := (HS.out.later hb).later (Grow.alloc' _ _)
  have KR : SBox (w2.alloc (.cells #[.int .i64 (C).f, .int .i64 (C).t, .int .i64 (C).k, .int .i64 (C).ep, .int .i64 (C).x, .int .i64 (C).y, .int .i64 (C).z] 24)) (w.heap.size + 1) (r) := (HR.out.later hb).later (Grow.alloc' _ _)
  have KT : Box (w2.alloc (.cells #[.int .i64 (C).f, .int .i64 (C).t, .int .i64 (C).k, .int .i64 (C).ep, .int .i64 (C).x, .int .i64 (C).y, .int .i64 (C).z] 24)) (w.heap.size + 1 + 1) (t) := (HT.out.later hb).later (Grow.alloc' _ _)
  have KC : SBox (w2.alloc (.cells #[.int .i64 (C).f, .int .i64 (C).t, .int .i64 (C).k, .int .i64 (C).ep, .int .i64 (C).x, .int .i64 (C).y, .int .i64 (C).z] 24)) w2.heap.size (C) := SBox.new _ _
  have G : Hid (Grow w (w2.alloc (.cells #[.int .i64 (C).f, .int .i64 (C).t, .int .i64 (C).k, .int .i64 (C).ep, .int .i64 (C).x, .int .i64 (C).y, .int .i64 (C).z] 24))) := hide (Grow.trans' (Grow.trans' G.out hb) (Grow.alloc' _ _))
  clear hb HS HR HT
  have HS := hide KS
  have HR := hide KR
  have HT := hide KT
  have HC := hide KC
  obtain ⟨s_0, s_1, s_2, s_3, s_4, s_5, s_6⟩ := KS
  obtain ⟨r_0, r_1, r_2, r_3, r_4, r_5, r_6⟩ := KR
  obtain ⟨t_0, t_1, t_2, t_3, t_4⟩ := KT
  obtain ⟨c_0, c_1, c_2, c_3, c_4, c_5, c_6⟩ := KC
  go_wp2_with fail
  refine (apply_at s t A 0 hA.out hF.out _).mono ?_
  rintro e w3 ⟨rfl, hb⟩
  clear s_0 s_1 s_2 s_3 s_4 s_5 s_6 r_0 r_1 r_2 r_3 r_4 r_5 r_6 t_0 t_1 t_2 t_3 t_4 c_0 c_1 c_2 c_3 c_4 c_5 c_6
  have KS : SBox (w3.alloc (.cells #[.int .i64 (A).e, .int .i64 (A).d, .int .i64 (A).x, .int .i64 (A).y, .int .i64 (A).z] 30)) w.heap.size (s) := (HS.out.later hb).later (Grow.alloc' _ _)
  have KR : SBox (w3.alloc (.cells #[.int .i64 (A).e, .int .i64 (A).d, .int .i64 (A).x, .int .i64 (A).y, .int .i64 (A).z] 30)) (w.heap.size + 1) (r) := (HR.out.later hb).later (Grow.alloc' _ _)
  have KT : Box (w3.alloc (.cells #[.int .i64 (A).e, .int .i64 (A).d, .int .i64 (A).x, .int .i64 (A).y, .int .i64 (A).z] 30)) (w.heap.size + 1 + 1) (t) := (HT.out.later hb).later (Grow.alloc' _ _)
  have KC : SBox (w3.alloc (.cells #[.int .i64 (A).e, .int .i64 (A).d, .int .i64 (A).x, .int .i64 (A).y, .int .i64 (A).z] 30)) w2.heap.size (C) := (HC.out.later hb).later (Grow.alloc' _ _)
  have KA : Box (w3.alloc (.cells #[.int .i64 (A).e, .int .i64 (A).d, .int .i64 (A).x, .int .i64 (A).y, .int .i64 (A).z] 30)) w3.heap.size (A) := Box.new _ _
  have G : Hid (Grow w (w3.alloc (.cells #[.int .i64 (A).e, .int .i64 (A).d, .int .i64 (A).x, .int .i64 (A).y, .int .i64 (A).z] 30))) := hide (Grow.trans' (Grow.trans' G.out hb) (Grow.alloc' _ _))
  clear hb HS HR HT HC
  have HS := hide KS
  have HR := hide KR
  have HT := hide KT
  have HC := hide KC
  have HA := hide KA
  obtain ⟨s_0, s_1, s_2, s_3, s_4, s_5, s_6⟩ := KS
  obtain ⟨r_0, r_1, r_2, r_3, r_4, r_5, r_6⟩ := KR
  obtain ⟨t_0, t_1, t_2, t_3, t_4⟩ := KT
  obtain ⟨c_0, c_1, c_2, c_3, c_4, c_5, c_6⟩ := KC
  obtain ⟨a_0, a_1, a_2, a_3, a_4⟩ := KA
  go_wp2_with fail
  refine (apply_at r A B 0 hB.out hG.out _).mono ?_
  rintro e w4 ⟨rfl, hb⟩
  clear s_0 s_1 s_2 s_3 s_4 s_5 s_6 r_0 r_1 r_2 r_3 r_4 r_5 r_6 t_0 t_1 t_2 t_3 t_4 c_0 c_1 c_2 c_3 c_4 c_5 c_6 a_0 a_1 a_2 a_3 a_4
  have KS : SBox (w4.alloc (.cells #[.int .i64 (B).e, .int .i64 (B).d, .int .i64 (B).x, .int .i64 (B).y, .int .i64 (B).z] 30)) w.heap.size (s) := (HS.out.later hb).later (Grow.alloc' _ _)
  have KR : SBox (w4.alloc (.cells #[.int .i64 (B).e, .int .i64 (B).d, .int .i64 (B).x, .int .i64 (B).y, .int .i64 (B).z] 30)) (w.heap.size + 1) (r) := (HR.out.later hb).later (Grow.alloc' _ _)
  have KT : Box (w4.alloc (.cells #[.int .i64 (B).e, .int .i64 (B).d, .int .i64 (B).x, .int .i64 (B).y, .int .i64 (B).z] 30)) (w.heap.size + 1 + 1) (t) := (HT.out.later hb).later (Grow.alloc' _ _)
  have KC : SBox (w4.alloc (.cells #[.int .i64 (B).e, .int .i64 (B).d, .int .i64 (B).x, .int .i64 (B).y, .int .i64 (B).z] 30)) w2.heap.size (C) := (HC.out.later hb).later (Grow.alloc' _ _)
  have KA : Box (w4.alloc (.cells #[.int .i64 (B).e, .int .i64 (B).d, .int .i64 (B).x, .int .i64 (B).y, .int .i64 (B).z] 30)) w3.heap.size (A) := (HA.out.later hb).later (Grow.alloc' _ _)
  have KB : Box (w4.alloc (.cells #[.int .i64 (B).e, .int .i64 (B).d, .int .i64 (B).x, .int .i64 (B).y, .int .i64 (B).z] 30)) w4.heap.size (B) := Box.new _ _
  have G : Hid (Grow w (w4.alloc (.cells #[.int .i64 (B).e, .int .i64 (B).d, .int .i64 (B).x, .int .i64 (B).y, .int .i64 (B).z] 30))) := hide (Grow.trans' (Grow.trans' G.out hb) (Grow.alloc' _ _))
  clear hb HS HR HT HC HA
  have HS := hide KS
  have HR := hide KR
  have HT := hide KT
  have HC := hide KC
  have HA := hide KA
  have HB := hide KB
  obtain ⟨s_0, s_1, s_2, s_3, s_4, s_5, s_6⟩ := KS
  obtain ⟨r_0, r_1, r_2, r_3, r_4, r_5, r_6⟩ := KR
  obtain ⟨t_0, t_1, t_2, t_3, t_4⟩ := KT
  obtain ⟨c_0, c_1, c_2, c_3, c_4, c_5, c_6⟩ := KC
  obtain ⟨a_0, a_1, a_2, a_3, a_4⟩ := KA
  obtain ⟨b_0, b_1, b_2, b_3, b_4⟩ := KB
  go_wp2_with fail
  refine (apply_at C t D 0 hD.out hH.out _).mono ?_
  rintro e w5 ⟨rfl, hb⟩
  clear s_0 s_1 s_2 s_3 s_4 s_5 s_6 r_0 r_1 r_2 r_3 r_4 r_5 r_6 t_0 t_1 t_2 t_3 t_4 c_0 c_1 c_2 c_3 c_4 c_5 c_6 a_0 a_1 a_2 a_3 a_4 b_0 b_1 b_2 b_3 b_4
  have KS : SBox (w5.alloc (.cells #[.int .i64 (D).e, .int .i64 (D).d, .int .i64 (D).x, .int .i64 (D).y, .int .i64 (D).z] 30)) w.heap.size (s) := (HS.out.later hb).later (Grow.alloc' _ _)
  have KR : SBox (w5.alloc (.cells #[.int .i64 (D).e, .int .i64 (D).d, .int .i64 (D).x, .int .i64 (D).y, .int .i64 (D).z] 30)) (w.heap.size + 1) (r) := (HR.out.later hb).later (Grow.alloc' _ _)
  have KT : Box (w5.alloc (.cells #[.int .i64 (D).e, .int .i64 (D).d, .int .i64 (D).x, .int .i64 (D).y, .int .i64 (D).z] 30)) (w.heap.size + 1 + 1) (t) := (HT.out.later hb).later (Grow.alloc' _ _)
  have KC : SBox (w5.alloc (.cells #[.int .i64 (D).e, .int .i64 (D).d, .int .i64 (D).x, .int .i64 (D).y, .int .i64 (D).z] 30)) w2.heap.size (C) := (HC.out.later hb).later (Grow.alloc' _ _)
  have KA : Box (w5.alloc (.cells #[.int .i64 (D).e, .int .i64 (D).d, .int .i64 (D).x, .int .i64 (D).y, .int .i64 (D).z] 30)) w3.heap.size (A) := (HA.out.later hb).later (Grow.alloc' _ _)
  have KB : Box (w5.alloc (.cells #[.int .i64 (D).e, .int .i64 (D).d, .int .i64 (D).x, .int .i64 (D).y, .int .i64 (D).z] 30)) w4.heap.size (B) := (HB.out.later hb).later (Grow.alloc' _ _)
  have KD : Box (w5.alloc (.cells #[.int .i64 (D).e, .int .i64 (D).d, .int .i64 (D).x, .int .i64 (D).y, .int .i64 (D).z] 30)) w5.heap.size (D) := Box.new _ _
  have G : Hid (Grow w (w5.alloc (.cells #[.int .i64 (D).e, .int .i64 (D).d, .int .i64 (D).x, .int .i64 (D).y, .int .i64 (D).z] 30))) := hide (Grow.trans' (Grow.trans' G.out hb) (Grow.alloc' _ _))
  clear hb HS HR HT HC HA HB
  obtain ⟨s0, s1, s2, s3, s4, s5, s6⟩ := KS
  obtain ⟨b0, b1, b2, b3, b4⟩ := KB
  obtain ⟨d0, d1, d2, d3, d4⟩ := KD
  clear KR KT KC KA
  go_wp2_with fail
  refine (sMayC s true hm.out _).mono ?_
  rintro e w6 ⟨rfl, hb⟩
  have G' := hide (Grow.trans' G.out hb)
  have KS : SBox w6 w.heap.size s := SBox.later hb ⟨s0, s1, s2, s3, s4, s5, s6⟩
  clear s0 s1 s2 s3 s4 s5 s6 b0 b1 b2 b3 b4 d0 d1 d2 d3 d4 hb G
  have G := G'
  clear G'
  have HS : Hid (SBox w6 (w.heap.size) s) := hide KS
  clear KS
  have HH : ∀ w', Grow w6 w' → (fun w' => Grow w6 w' ∧ w'.cell? ⟨w.heap.size, 0, none⟩ = some (.int .i64 s.f) ∧ w'.cell? ⟨w.heap.size, 1, none⟩ = some (.int .i64 s.t) ∧ w'.cell? ⟨w.heap.size, 2, none⟩ = some (.int .i64 s.k) ∧ w'.cell? ⟨w.heap.size, 3, none⟩ = some (.int .i64 s.ep) ∧ w'.cell? ⟨w.heap.size, 4, none⟩ = some (.int .i64 s.x) ∧ w'.cell? ⟨w.heap.size, 5, none⟩ = some (.int .i64 s.y) ∧ w'.cell? ⟨w.heap.size, 6, none⟩ = some (.int .i64 s.z)) w' := fun w' hq => by
    obtain ⟨qS0, qS1, qS2, qS3, qS4, qS5, qS6⟩ := HS.out.later hq
    exact ⟨hq, qS0, qS1, qS2, qS3, qS4, qS5, qS6⟩
  have HK := hide HH
  clear HH
  go_wp2_with fail
  go_region_held3 (fun w' => Grow w6 w' ∧ w'.cell? ⟨w.heap.size, 0, none⟩ = some (.int .i64 s.f) ∧ w'.cell? ⟨w.heap.size, 1, none⟩ = some (.int .i64 s.t) ∧ w'.cell? ⟨w.heap.size, 2, none⟩ = some (.int .i64 s.k) ∧ w'.cell? ⟨w.heap.size, 3, none⟩ = some (.int .i64 s.ep) ∧ w'.cell? ⟨w.heap.size, 4, none⟩ = some (.int .i64 s.x) ∧ w'.cell? ⟨w.heap.size, 5, none⟩ = some (.int .i64 s.y) ∧ w'.cell? ⟨w.heap.size, 6, none⟩ = some (.int .i64 s.z)) (first | (refine HK.out _ ?_; simp (maxDischargeDepth := 30) only [growR, growA, growD]; done) | (with_reducible exact HK.out _ gu00) | (refine HK.out _ ?_; simp (maxDischargeDepth := 30) [growA, gu00]; done) | (with_reducible exact HK.out _ gu01) | (refine HK.out _ ?_; simp (maxDischargeDepth := 30) [growA, growS, zu00, gu01]; done)) (first | (go_at_call 10; refine (same_any s.f _).mono ?_; rintro e u00 ⟨rfl, hbu00⟩; have gu00 : Below w6.heap.size w6 u00 := Grow.trans' (‹Grow w6 _ ∧ _›).1 hbu00; have zu00 := gu00.size; have yu00 := hbu00.size; (try simp at yu00); (try (refine (fun v000 : w6.heap.size < u00.heap.size => ?_) ?_; rotate_left; focus omega)); obtain ⟨hcu00, hfu00⟩ := bcell hbu00) | (go_at_call 22; refine (then_at (sameS s.f) s s 0 hx.out.2 hx.out.1 _).mono ?_; rintro e u01 ⟨rfl, hbu01⟩; have gu01 : Below w6.heap.size w6 u01 := Grow.trans' (‹Grow w6 _ ∧ _›).1 hbu01; have zu01 := gu01.size; have yu01 := hbu01.size; (try simp at yu01); (try (refine (fun v010 : w6.heap.size < u01.heap.size => ?_) ?_; rotate_left; focus omega)); (try (refine (fun v011 : u00.heap.size < u01.heap.size => ?_) ?_; rotate_left; focus omega)); obtain ⟨hcu01, hfu01⟩ := bcell hbu01))
  all_goals
    obtain ⟨X0, hX⟩ := world_of (‹Grow w6 _ ∧ _›).1
    have HGW := (‹Grow w6 _ ∧ _›).1
    rw [← hX] at HGW ⊢
    first
      | (refine cutP (P := SBox X0 u01.heap.size (s)) ?_ ?_; (focus (rw [hX]; simp (maxDischargeDepth := 30) [SBox, go_sem, *]; done)); intro KX; obtain ⟨bX, hbl⟩ : ∃ b, b = u01.heap.size := ⟨_, rfl⟩; rw [← hbl] at KX ⊢; clear hbl)
      | (refine cutP (P := SBox X0 u00.heap.size (s)) ?_ ?_; (focus (rw [hX]; simp (maxDischargeDepth := 30) [SBox, go_sem, *]; done)); intro KX; obtain ⟨bX, hbl⟩ : ∃ b, b = u00.heap.size := ⟨_, rfl⟩; rw [← hbl] at KX ⊢; clear hbl)
      | (refine cutP (P := SBox X0 w6.heap.size (s)) ?_ ?_; (focus (rw [hX]; simp (maxDischargeDepth := 30) [SBox, go_sem, *]; done)); intro KX; obtain ⟨bX, hbl⟩ : ∃ b, b = w6.heap.size := ⟨_, rfl⟩; rw [← hbl] at KX ⊢; clear hbl)
    have KS : SBox X0 (w.heap.size) s := HS.out.later HGW
    have G : Hid (Grow w X0) := hide (Grow.trans' G.out HGW)
    clear hX HGW HK
    clear hcu00 hfu00 hbu00 gu00 zu00 yu00
    clear hcu01 hfu01 hbu01 gu01 zu01 yu01
    have HS : Hid (SBox X0 (w.heap.size) s) := hide KS
    have HX : Hid (SBox X0 (bX) s) := hide KX
    clear KS KX
    have HH : ∀ w', Grow X0 w' → (fun w' => Grow X0 w' ∧ w'.cell? ⟨w.heap.size, 0, none⟩ = some (.int .i64 s.f) ∧ w'.cell? ⟨w.heap.size, 1, none⟩ = some (.int .i64 s.t) ∧ w'.cell? ⟨w.heap.size, 2, none⟩ = some (.int .i64 s.k) ∧ w'.cell? ⟨w.heap.size, 3, none⟩ = some (.int .i64 s.ep) ∧ w'.cell? ⟨w.heap.size, 4, none⟩ = some (.int .i64 s.x) ∧ w'.cell? ⟨w.heap.size, 5, none⟩ = some (.int .i64 s.y) ∧ w'.cell? ⟨w.heap.size, 6, none⟩ = some (.int .i64 s.z) ∧ w'.cell? ⟨bX, 0, none⟩ = some (.int .i64 s.f) ∧ w'.cell? ⟨bX, 1, none⟩ = some (.int .i64 s.t) ∧ w'.cell? ⟨bX, 2, none⟩ = some (.int .i64 s.k) ∧ w'.cell? ⟨bX, 3, none⟩ = some (.int .i64 s.ep) ∧ w'.cell? ⟨bX, 4, none⟩ = some (.int .i64 s.x) ∧ w'.cell? ⟨bX, 5, none⟩ = some (.int .i64 s.y) ∧ w'.cell? ⟨bX, 6, none⟩ = some (.int .i64 s.z)) w' := fun w' hq => by
      obtain ⟨qS0, qS1, qS2, qS3, qS4, qS5, qS6⟩ := HS.out.later hq
      obtain ⟨qX0, qX1, qX2, qX3, qX4, qX5, qX6⟩ := HX.out.later hq
      exact ⟨hq, qS0, qS1, qS2, qS3, qS4, qS5, qS6, qX0, qX1, qX2, qX3, qX4, qX5, qX6⟩
    have HK := hide HH
    clear HH
    go_wp2_with fail
    go_region_held3 (fun w' => Grow X0 w' ∧ w'.cell? ⟨w.heap.size, 0, none⟩ = some (.int .i64 s.f) ∧ w'.cell? ⟨w.heap.size, 1, none⟩ = some (.int .i64 s.t) ∧ w'.cell? ⟨w.heap.size, 2, none⟩ = some (.int .i64 s.k) ∧ w'.cell? ⟨w.heap.size, 3, none⟩ = some (.int .i64 s.ep) ∧ w'.cell? ⟨w.heap.size, 4, none⟩ = some (.int .i64 s.x) ∧ w'.cell? ⟨w.heap.size, 5, none⟩ = some (.int .i64 s.y) ∧ w'.cell? ⟨w.heap.size, 6, none⟩ = some (.int .i64 s.z) ∧ w'.cell? ⟨bX, 0, none⟩ = some (.int .i64 s.f) ∧ w'.cell? ⟨bX, 1, none⟩ = some (.int .i64 s.t) ∧ w'.cell? ⟨bX, 2, none⟩ = some (.int .i64 s.k) ∧ w'.cell? ⟨bX, 3, none⟩ = some (.int .i64 s.ep) ∧ w'.cell? ⟨bX, 4, none⟩ = some (.int .i64 s.x) ∧ w'.cell? ⟨bX, 5, none⟩ = some (.int .i64 s.y) ∧ w'.cell? ⟨bX, 6, none⟩ = some (.int .i64 s.z)) (first | (refine HK.out _ ?_; simp (maxDischargeDepth := 30) only [growR, growA, growD]; done) | (with_reducible exact HK.out _ gu10) | (refine HK.out _ ?_; simp (maxDischargeDepth := 30) [growA, gu10]; done) | (with_reducible exact HK.out _ gu11) | (refine HK.out _ ?_; simp (maxDischargeDepth := 30) [growA, growS, zu10, gu11]; done)) (first | (go_at_call 10; refine (same_any s.t _).mono ?_; rintro e u10 ⟨rfl, hbu10⟩; have gu10 : Below X0.heap.size X0 u10 := Grow.trans' (‹Grow X0 _ ∧ _›).1 hbu10; have zu10 := gu10.size; have yu10 := hbu10.size; (try simp at yu10); (try (refine (fun v100 : X0.heap.size < u10.heap.size => ?_) ?_; rotate_left; focus omega)); obtain ⟨hcu10, hfu10⟩ := bcell hbu10) | (go_at_call 22; refine (then_at s (sameS s.t) s 0 hy.out.2 hy.out.1 _).mono ?_; rintro e u11 ⟨rfl, hbu11⟩; have gu11 : Below X0.heap.size X0 u11 := Grow.trans' (‹Grow X0 _ ∧ _›).1 hbu11; have zu11 := gu11.size; have yu11 := hbu11.size; (try simp at yu11); (try (refine (fun v110 : X0.heap.size < u11.heap.size => ?_) ?_; rotate_left; focus omega)); (try (refine (fun v111 : u10.heap.size < u11.heap.size => ?_) ?_; rotate_left; focus omega)); obtain ⟨hcu11, hfu11⟩ := bcell hbu11))
    all_goals
      obtain ⟨X1, hX⟩ := world_of (‹Grow X0 _ ∧ _›).1
      have HGW := (‹Grow X0 _ ∧ _›).1
      rw [← hX] at HGW ⊢
      first
        | (refine cutP (P := SBox X1 u11.heap.size (s)) ?_ ?_; (focus (rw [hX]; simp (maxDischargeDepth := 30) [SBox, go_sem, *]; done)); intro KY; obtain ⟨bY, hbl⟩ : ∃ b, b = u11.heap.size := ⟨_, rfl⟩; rw [← hbl] at KY ⊢; clear hbl)
        | (refine cutP (P := SBox X1 u10.heap.size (s)) ?_ ?_; (focus (rw [hX]; simp (maxDischargeDepth := 30) [SBox, go_sem, *]; done)); intro KY; obtain ⟨bY, hbl⟩ : ∃ b, b = u10.heap.size := ⟨_, rfl⟩; rw [← hbl] at KY ⊢; clear hbl)
        | (refine cutP (P := SBox X1 X0.heap.size (s)) ?_ ?_; (focus (rw [hX]; simp (maxDischargeDepth := 30) [SBox, go_sem, *]; done)); intro KY; obtain ⟨bY, hbl⟩ : ∃ b, b = X0.heap.size := ⟨_, rfl⟩; rw [← hbl] at KY ⊢; clear hbl)
      have KS : SBox X1 (w.heap.size) s := HS.out.later HGW
      have KX : SBox X1 (bX) s := HX.out.later HGW
      have G : Hid (Grow w X1) := hide (Grow.trans' G.out HGW)
      clear hX HGW HK
      clear hcu10 hfu10 hbu10 gu10 zu10 yu10
      clear hcu11 hfu11 hbu11 gu11 zu11 yu11
      obtain ⟨s0, s1, s2, s3, s4, s5, s6⟩ := KS
      obtain ⟨x0, x1, x2, x3, x4, x5, x6⟩ := KX
      obtain ⟨y0, y1, y2, y3, y4, y5, y6⟩ := KY
      go_wp2
      go_ret
      exact ⟨rfl, G.out⟩

theorem eqB_of {a b : Tm} (h : a = b) : eqB a b = true := by rw [h]; exact eqB_self b
theorem SummaryThen_any (s r : Sm) (t : Tm) (w : World) :
    Calls Try.prog 6 #[.agg #[.int .i64 s.f, .int .i64 s.t, .int .i64 s.k, .int .i64 s.ep, .int .i64 s.x, .int .i64 s.y, .int .i64 s.z], .agg #[.int .i64 r.f, .int .i64 r.t, .int .i64 r.k, .int .i64 r.ep, .int .i64 r.x, .int .i64 r.y, .int .i64 r.z], .agg #[.int .i64 t.e, .int .i64 t.d, .int .i64 t.x, .int .i64 t.y, .int .i64 t.z]] w fun e w' => e = .returned (.bool true) ∧ Below w.heap.size w w' := by
  cases hm : mayS s
  · by_cases hE : thenE s r = 0
    rotate_left
    · exact SummaryThen_1false s r _ t _ _ _ _ _ _ _ w rfl rfl rfl rfl rfl rfl rfl rfl hm hE
    by_cases hF : applyE s t = 0
    rotate_left
    · exact SummaryThen_2false s r _ t _ _ _ 0 _ _ _ w rfl hE rfl rfl rfl rfl rfl rfl hm hF
    by_cases hG : applyE r (applyT s t) = 0
    rotate_left
    · exact SummaryThen_3false s r _ t _ _ _ 0 0 _ _ w rfl hE rfl hF rfl rfl rfl rfl hm hG
    have h := then_apply hE hF hG
    exact SummaryThen_4false s r _ t _ _ _ 0 0 0 0 w rfl hE rfl hF rfl hG rfl h.1 hm (eqB_of h.2)
  · by_cases hE : thenE s r = 0
    rotate_left
    · exact SummaryThen_1true s r _ t _ _ _ _ _ _ _ w rfl rfl rfl rfl rfl rfl rfl rfl hm hE
    by_cases hF : applyE s t = 0
    rotate_left
    · exact SummaryThen_2true s r _ t _ _ _ 0 _ _ _ w rfl hE rfl rfl rfl rfl rfl rfl hm hF
    by_cases hG : applyE r (applyT s t) = 0
    rotate_left
    · exact SummaryThen_3true s r _ t _ _ _ 0 0 _ _ w rfl hE rfl hF rfl rfl rfl rfl hm hG
    have h := then_apply hE hF hG
    exact SummaryThen_4true s r _ t _ _ _ 0 0 0 0 w rfl hE rfl hF rfl hG rfl h.1 hm (eqB_of h.2)

end Go.Proofs.Ythidpjjphieedaa
