/-
  What the law SummaryAssoc does: for every three summaries it returns true, and what was there stays as it was.
-/
import Derived.Test.YthidpjjphieedabSShown
import Derived.Test.YthidpjjphieedabSFacts2
namespace Go.Proofs.Ythidpjjphieedab
open Go.RowKit Go.Sort
attribute [local go_sem ↓] eqSm eqTm
set_option linter.unusedVariables false

set_option maxHeartbeats 1000000 in
theorem SummaryAssoc_1 (a b c D F' : Sm) (E F : Int) (w : World) (hD : Hid (thenS a b = D)) (hE : Hid (thenE a b = E)) (hF' : Hid (thenS b c = F')) (hF : Hid (thenE b c = F)) (k1 : ¬ E = 0) :
    Calls Try.prog 3 #[.agg #[.int .i64 a.f, .int .i64 a.t, .int .i64 a.k, .int .i64 a.ep, .int .i64 a.x, .int .i64 a.y, .int .i64 a.z], .agg #[.int .i64 b.f, .int .i64 b.t, .int .i64 b.k, .int .i64 b.ep, .int .i64 b.x, .int .i64 b.y, .int .i64 b.z], .agg #[.int .i64 c.f, .int .i64 c.t, .int .i64 c.k, .int .i64 c.ep, .int .i64 c.x, .int .i64 c.y, .int .i64 c.z]] w fun e w' => e = .returned (.bool true) ∧ Below w.heap.size w w' := by
  go_enter Try.func3, Try.ntmps3
  have KA : SBox (((w.alloc (.cells #[.int .i64 a.f, .int .i64 a.t, .int .i64 a.k, .int .i64 a.ep, .int .i64 a.x, .int .i64 a.y, .int .i64 a.z] 24)).alloc (.cells #[.int .i64 b.f, .int .i64 b.t, .int .i64 b.k, .int .i64 b.ep, .int .i64 b.x, .int .i64 b.y, .int .i64 b.z] 24)).alloc (.cells #[.int .i64 c.f, .int .i64 c.t, .int .i64 c.k, .int .i64 c.ep, .int .i64 c.x, .int .i64 c.y, .int .i64 c.z] 24)) (w.heap.size) a := by simp [SBox, go_sem]
  have KB : SBox (((w.alloc (.cells #[.int .i64 a.f, .int .i64 a.t, .int .i64 a.k, .int .i64 a.ep, .int .i64 a.x, .int .i64 a.y, .int .i64 a.z] 24)).alloc (.cells #[.int .i64 b.f, .int .i64 b.t, .int .i64 b.k, .int .i64 b.ep, .int .i64 b.x, .int .i64 b.y, .int .i64 b.z] 24)).alloc (.cells #[.int .i64 c.f, .int .i64 c.t, .int .i64 c.k, .int .i64 c.ep, .int .i64 c.x, .int .i64 c.y, .int .i64 c.z] 24)) (w.heap.size + 1) b := by simp [SBox, go_sem]
  have KC : SBox (((w.alloc (.cells #[.int .i64 a.f, .int .i64 a.t, .int .i64 a.k, .int .i64 a.ep, .int .i64 a.x, .int .i64 a.y, .int .i64 a.z] 24)).alloc (.cells #[.int .i64 b.f, .int .i64 b.t, .int .i64 b.k, .int .i64 b.ep, .int .i64 b.x, .int .i64 b.y, .int .i64 b.z] 24)).alloc (.cells #[.int .i64 c.f, .int .i64 c.t, .int .i64 c.k, .int .i64 c.ep, .int .i64 c.x, .int .i64 c.y, .int .i64 c.z] 24)) (w.heap.size + 1 + 1) c := by simp [SBox, go_sem]
  have G : Hid (Grow w (((w.alloc (.cells #[.int .i64 a.f, .int .i64 a.t, .int .i64 a.k, .int .i64 a.ep, .int .i64 a.x, .int .i64 a.y, .int .i64 a.z] 24)).alloc (.cells #[.int .i64 b.f, .int .i64 b.t, .int .i64 b.k, .int .i64 b.ep, .int .i64 b.x, .int .i64 b.y, .int .i64 b.z] 24)).alloc (.cells #[.int .i64 c.f, .int .i64 c.t, .int .i64 c.k, .int .i64 c.ep, .int .i64 c.x, .int .i64 c.y, .int .i64 c.z] 24))) := hide (Grow.trans' (Grow.trans' (Grow.alloc' _ _) (Grow.alloc' _ _)) (Grow.alloc' _ _))
  have HA := hide KA
  have HB := hide KB
  have HC := hide KC
  obtain ⟨a_0, a_1, a_2, a_3, a_4, a_5, a_6⟩ := KA
  obtain ⟨b_0, b_1, b_2, b_3, b_4, b_5, b_6⟩ := KB
  obtain ⟨c_0, c_1, c_2, c_3, c_4, c_5, c_6⟩ := KC
  go_wp2_with fail
  refine (shown_any _).mono ?_
  rintro e w1 ⟨rfl, hb⟩
  clear a_0 a_1 a_2 a_3 a_4 a_5 a_6 b_0 b_1 b_2 b_3 b_4 b_5 b_6 c_0 c_1 c_2 c_3 c_4 c_5 c_6
  have KA : SBox w1 w.heap.size (a) := HA.out.later hb
  have KB : SBox w1 (w.heap.size + 1) (b) := HB.out.later hb
  have KC : SBox w1 (w.heap.size + 1 + 1) (c) := HC.out.later hb
  have G : Hid (Grow w w1) := hide (Grow.trans' G.out hb)
  clear hb HA HB HC
  have HA := hide KA
  have HB := hide KB
  have HC := hide KC
  obtain ⟨a_0, a_1, a_2, a_3, a_4, a_5, a_6⟩ := KA
  obtain ⟨b_0, b_1, b_2, b_3, b_4, b_5, b_6⟩ := KB
  obtain ⟨c_0, c_1, c_2, c_3, c_4, c_5, c_6⟩ := KC
  go_wp2_with fail
  refine (then_at a b D E hD.out hE.out _).mono ?_
  rintro e w2 ⟨rfl, hb⟩
  clear a_0 a_1 a_2 a_3 a_4 a_5 a_6 b_0 b_1 b_2 b_3 b_4 b_5 b_6 c_0 c_1 c_2 c_3 c_4 c_5 c_6
  have KA : SBox (w2.alloc (.cells #[.int .i64 (D).f, .int .i64 (D).t, .int .i64 (D).k, .int .i64 (D).ep, .int .i64 (D).x, .int .i64 (D).y, .int .i64 (D).z] 24)) w.heap.size (a) := (HA.out.later hb).later (Grow.alloc' _ _)
  have KB : SBox (w2.alloc (.cells #[.int .i64 (D).f, .int .i64 (D).t, .int .i64 (D).k, .int .i64 (D).ep, .int .i64 (D).x, .int .i64 (D).y, .int .i64 (D).z] 24)) (w.heap.size + 1) (b) := (HB.out.later hb).later (Grow.alloc' _ _)
  have KC : SBox (w2.alloc (.cells #[.int .i64 (D).f, .int .i64 (D).t, .int .i64 (D).k, .int .i64 (D).ep, .int .i64 (D).x, .int .i64 (D).y, .int .i64 (D).z] 24)) (w.heap.size + 1 + 1) (c) := (HC.out.later hb).later (Grow.alloc' _ _)
  have KD : SBox (w2.alloc (.cells #[.int .i64 (D).f, .int .i64 (D).t, .int .i64 (D).k, .int .i64 (D).ep, .int .i64 (D).x, .int .i64 (D).y, .int .i64 (D).z] 24)) w2.heap.size (D) := SBox.new _ _
  have G : Hid (Grow w (w2.alloc (.cells #[.int .i64 (D).f, .int .i64 (D).t, .int .i64 (D).k, .int .i64 (D).ep, .int .i64 (D).x, .int .i64 (D).y, .int .i64 (D).z] 24))) := hide (Grow.trans' (Grow.trans' G.out hb) (Grow.alloc' _ _))
  clear hb HA HB HC
  have HA := hide KA
  have HB := hide KB
  have HC := hide KC
  have HD := hide KD
  obtain ⟨a_0, a_1, a_2, a_3, a_4, a_5, a_6⟩ := KA
  obtain ⟨b_0, b_1, b_2, b_3, b_4, b_5, b_6⟩ := KB
  obtain ⟨c_0, c_1, c_2, c_3, c_4, c_5, c_6⟩ := KC
  obtain ⟨d_0, d_1, d_2, d_3, d_4, d_5, d_6⟩ := KD
  go_wp2_with fail
  refine (then_at b c F' F hF'.out hF.out _).mono ?_
  rintro e w3 ⟨rfl, hb⟩
  clear a_0 a_1 a_2 a_3 a_4 a_5 a_6 b_0 b_1 b_2 b_3 b_4 b_5 b_6 c_0 c_1 c_2 c_3 c_4 c_5 c_6 d_0 d_1 d_2 d_3 d_4 d_5 d_6
  have KA : SBox (w3.alloc (.cells #[.int .i64 (F').f, .int .i64 (F').t, .int .i64 (F').k, .int .i64 (F').ep, .int .i64 (F').x, .int .i64 (F').y, .int .i64 (F').z] 24)) w.heap.size (a) := (HA.out.later hb).later (Grow.alloc' _ _)
  have KB : SBox (w3.alloc (.cells #[.int .i64 (F').f, .int .i64 (F').t, .int .i64 (F').k, .int .i64 (F').ep, .int .i64 (F').x, .int .i64 (F').y, .int .i64 (F').z] 24)) (w.heap.size + 1) (b) := (HB.out.later hb).later (Grow.alloc' _ _)
  have KC : SBox (w3.alloc (.cells #[.int .i64 (F').f, .int .i64 (F').t, .int .i64 (F').k, .int .i64 (F').ep, .int .i64 (F').x, .int .i64 (F').y, .int .i64 (F').z] 24)) (w.heap.size + 1 + 1) (c) := (HC.out.later hb).later (Grow.alloc' _ _)
  have KD : SBox (w3.alloc (.cells #[.int .i64 (F').f, .int .i64 (F').t, .int .i64 (F').k, .int .i64 (F').ep, .int .i64 (F').x, .int .i64 (F').y, .int .i64 (F').z] 24)) w2.heap.size (D) := (HD.out.later hb).later (Grow.alloc' _ _)
  have KF : SBox (w3.alloc (.cells #[.int .i64 (F').f, .int .i64 (F').t, .int .i64 (F').k, .int .i64 (F').ep, .int .i64 (F').x, .int .i64 (F').y, .int .i64 (F').z] 24)) w3.heap.size (F') := SBox.new _ _
  have G : Hid (Grow w (w3.alloc (.cells #[.int .i64 (F').f, .int .i64 (F').t, .int .i64 (F').k, .int .i64 (F').ep, .int .i64 (F').x, .int .i64 (F').y, .int .i64 (F').z] 24))) := hide (Grow.trans' (Grow.trans' G.out hb) (Grow.alloc' _ _))
  clear hb HA HB HC HD
  clear KA KB KC KD KF
  go_wp2
  go_ret
  exact ⟨rfl, G.out⟩
set_option maxHeartbeats 1000000 in
theorem SummaryAssoc_2 (a b c D F' : Sm) (E F : Int) (w : World) (hD : Hid (thenS a b = D)) (hE : Hid (thenE a b = 0)) (hF' : Hid (thenS b c = F')) (hF : Hid (thenE b c = F)) (k1 : ¬ F = 0) :
    Calls Try.prog 3 #[.agg #[.int .i64 a.f, .int .i64 a.t, .int .i64 a.k, .int .i64 a.ep, .int .i64 a.x, .int .i64 a.y, .int .i64 a.z], .agg #[.int .i64 b.f, .int .i64 b.t, .int .i64 b.k, .int .i64 b.ep, .int .i64 b.x, .int .i64 b.y, .int .i64 b.z], .agg #[.int .i64 c.f, .int .i64 c.t, .int .i64 c.k, .int .i64 c.ep, .int .i64 c.x, .int .i64 c.y, .int .i64 c.z]] w fun e w' => e = .returned (.bool true) ∧ Below w.heap.size w w' := by
  go_enter Try.func3, Try.ntmps3
  have KA : SBox (((w.alloc (.cells #[.int .i64 a.f, .int .i64 a.t, .int .i64 a.k, .int .i64 a.ep, .int .i64 a.x, .int .i64 a.y, .int .i64 a.z] 24)).alloc (.cells #[.int .i64 b.f, .int .i64 b.t, .int .i64 b.k, .int .i64 b.ep, .int .i64 b.x, .int .i64 b.y, .int .i64 b.z] 24)).alloc (.cells #[.int .i64 c.f, .int .i64 c.t, .int .i64 c.k, .int .i64 c.ep, .int .i64 c.x, .int .i64 c.y, .int .i64 c.z] 24)) (w.heap.size) a := by simp [SBox, go_sem]
  have KB : SBox (((w.alloc (.cells #[.int .i64 a.f, .int .i64 a.t, .int .i64 a.k, .int .i64 a.ep, .int .i64 a.x, .int .i64 a.y, .int .i64 a.z] 24)).alloc (.cells #[.int .i64 b.f, .int .i64 b.t, .int .i64 b.k, .int .i64 b.ep, .int .i64 b.x, .int .i64 b.y, .int .i64 b.z] 24)).alloc (.cells #[.int .i64 c.f, .int .i64 c.t, .int .i64 c.k, .int .i64 c.ep, .int .i64 c.x, .int .i64 c.y, .int .i64 c.z] 24)) (w.heap.size + 1) b := by simp [SBox, go_sem]
  have KC : SBox (((w.alloc (.cells #[.int .i64 a.f, .int .i64 a.t, .int .i64 a.k, .int .i64 a.ep, .int .i64 a.x, .int .i64 a.y, .int .i64 a.z] 24)).alloc (.cells #[.int .i64 b.f, .int .i64 b.t, .int .i64 b.k, .int .i64 b.ep, .int .i64 b.x, .int .i64 b.y, .int .i64 b.z] 24)).alloc (.cells #[.int .i64 c.f, .int .i64 c.t, .int .i64 c.k, .int .i64 c.ep, .int .i64 c.x, .int .i64 c.y, .int .i64 c.z] 24)) (w.heap.size + 1 + 1) c := by simp [SBox, go_sem]
  have G : Hid (Grow w (((w.alloc (.cells #[.int .i64 a.f, .int .i64 a.t, .int .i64 a.k, .int .i64 a.ep, .int .i64 a.x, .int .i64 a.y, .int .i64 a.z] 24)).alloc (.cells #[.int .i64 b.f, .int .i64 b.t, .int .i64 b.k, .int .i64 b.ep, .int .i64 b.x, .int .i64 b.y, .int .i64 b.z] 24)).alloc (.cells #[.int .i64 c.f, .int .i64 c.t, .int .i64 c.k, .int .i64 c.ep, .int .i64 c.x, .int .i64 c.y, .int .i64 c.z] 24))) := hide (Grow.trans' (Grow.trans' (Grow.alloc' _ _) (Grow.alloc' _ _)) (Grow.alloc' _ _))
  have HA := hide KA
  have HB := hide KB
  have HC := hide KC
  obtain ⟨a_0, a_1, a_2, a_3, a_4, a_5, a_6⟩ := KA
  obtain ⟨b_0, b_1, b_2, b_3, b_4, b_5, b_6⟩ := KB
  obtain ⟨c_0, c_1, c_2, c_3, c_4, c_5, c_6⟩ := KC
  go_wp2_with fail
  refine (shown_any _).mono ?_
  rintro e w1 ⟨rfl, hb⟩
  clear a_0 a_1 a_2 a_3 a_4 a_5 a_6 b_0 b_1 b_2 b_3 b_4 b_5 b_6 c_0 c_1 c_2 c_3 c_4 c_5 c_6
  have KA : SBox w1 w.heap.size (a) := HA.out.later hb
  have KB : SBox w1 (w.heap.size + 1) (b) := HB.out.later hb
  have KC : SBox w1 (w.heap.size + 1 + 1) (c) := HC.out.later hb
  have G : Hid (Grow w w1) := hide (Grow.trans' G.out hb)
  clear hb HA HB HC
  have HA := hide KA
  have HB := hide KB
  have HC := hide KC
  obtain ⟨a_0, a_1, a_2, a_3, a_4, a_5, a_6⟩ := KA
  obtain ⟨b_0, b_1, b_2, b_3, b_4, b_5, b_6⟩ := KB
  obtain ⟨c_0, c_1, c_2, c_3, c_4, c_5, c_6⟩ := KC
  go_wp2_with fail
  refine (then_at a b D 0 hD.out hE.out _).mono ?_
  rintro e w2 ⟨rfl, hb⟩
  clear a_0 a_1 a_2 a_3 a_4 a_5 a_6 b_0 b_1 b_2 b_3 b_4 b_5 b_6 c_0 c_1 c_2 c_3 c_4 c_5 c_6
  have KA : SBox (w2.alloc (.cells #[.int .i64 (D).f, .int .i64 (D).t, .int .i64 (D).k, .int .i64 (D).ep, .int .i64 (D).x, .int .i64 (D).y, .int .i64 (D).z] 24)) w.heap.size (a) := (HA.out.later hb).later (Grow.alloc' _ _)
  have KB : SBox (w2.alloc (.cells #[.int .i64 (D).f, .int .i64 (D).t, .int .i64 (D).k, .int .i64 (D).ep, .int .i64 (D).x, .int .i64 (D).y, .int .i64 (D).z] 24)) (w.heap.size + 1) (b) := (HB.out.later hb).later (Grow.alloc' _ _)
  have KC : SBox (w2.alloc (.cells #[.int .i64 (D).f, .int .i64 (D).t, .int .i64 (D).k, .int .i64 (D).ep, .int .i64 (D).x, .int .i64 (D).y, .int .i64 (D).z] 24)) (w.heap.size + 1 + 1) (c) := (HC.out.later hb).later (Grow.alloc' _ _)
  have KD : SBox (w2.alloc (.cells #[.int .i64 (D).f, .int .i64 (D).t, .int .i64 (D).k, .int .i64 (D).ep, .int .i64 (D).x, .int .i64 (D).y, .int .i64 (D).z] 24)) w2.heap.size (D) := SBox.new _ _
  have G : Hid (Grow w (w2.alloc (.cells #[.int .i64 (D).f, .int .i64 (D).t, .int .i64 (D).k, .int .i64 (D).ep, .int .i64 (D).x, .int .i64 (D).y, .int .i64 (D).z] 24))) := hide (Grow.trans' (Grow.trans' G.out hb) (Grow.alloc' _ _))
  clear hb HA HB HC
  have HA := hide KA
  have HB := hide KB
  have HC := hide KC
  have HD := hide KD
  obtain ⟨a_0, a_1, a_2, a_3, a_4, a_5, a_6⟩ := KA
  obtain ⟨b_0, b_1, b_2, b_3, b_4, b_5, b_6⟩ := KB
  obtain ⟨c_0, c_1, c_2, c_3, c_4, c_5, c_6⟩ := KC
  obtain ⟨d_0, d_1, d_2, d_3, d_4, d_5, d_6⟩ := KD
  go_wp2_with fail
  refine (then_at b c F' F hF'.out hF.out _).mono ?_
  rintro e w3 ⟨rfl, hb⟩
  clear a_0 a_1 a_2 a_3 a_4 a_5 a_6 b_0 b_1 b_2 b_3 b_4 b_5 b_6 c_0 c_1 c_2 c_3 c_4 c_5 c_6 d_0 d_1 d_2 d_3 d_4 d_5 d_6
  have KA : SBox (w3.alloc (.cells #[.int .i64 (F').f, .int .i64 (F').t, .int .i64 (F').k, .int .i64 (F').ep, .int .i64 (F').x, .int .i64 (F').y, .int .i64 (F').z] 24)) w.heap.size (a) := (HA.out.later hb).later (Grow.alloc' _ _)
  have KB : SBox (w3.alloc (.cells #[.int .i64 (F').f, .int .i64 (F').t, .int .i64 (F').k, .int .i64 (F').ep, .int .i64 (F').x, .int .i64 (F').y, .int .i64 (F').z] 24)) (w.heap.size + 1) (b) := (HB.out.later hb).later (Grow.alloc' _ _)
  have KC : SBox (w3.alloc (.cells #[.int .i64 (F').f, .int .i64 (F').t, .int .i64 (F').k, .int .i64 (F').ep, .int .i64 (F').x, .int .i64 (F').y, .int .i64 (F').z] 24)) (w.heap.size + 1 + 1) (c) := (HC.out.later hb).later (Grow.alloc' _ _)
  have KD : SBox (w3.alloc (.cells #[.int .i64 (F').f, .int .i64 (F').t, .int .i64 (F').k, .int .i64 (F').ep, .int .i64 (F').x, .int .i64 (F').y, .int .i64 (F').z] 24)) w2.heap.size (D) := (HD.out.later hb).later (Grow.alloc' _ _)
  have KF : SBox (w3.alloc (.cells #[.int .i64 (F').f, .int .i64 (F').t, .int .i64 (F').k, .int .i64 (F').ep, .int .i64 (F').x, .int .i64 (F').y, .int .i64 (F').z] 24)) w3.heap.size (F') := SBox.new _ _
  have G : Hid (Grow w (w3.alloc (.cells #[.int .i64 (F').f, .int .i64 (F').t, .int .i64 (F').k, .int .i64 (F').ep, .int .i64 (F').x, .int .i64 (F').y, .int .i64 (F').z] 24))) := hide (Grow.trans' (Grow.trans' G.out hb) (Grow.alloc' _ _))
  clear hb HA HB HC HD
  clear KA KB KC KD KF
  go_wp2
  go_ret
  exact ⟨rfl, G.out⟩
set_option maxHeartbeats 1000000 in
theorem SummaryAssoc_3 (a b c D F' X Y : Sm) (L H : Int) (w : World) (hD : Hid (thenS a b = D)) (hE : Hid (thenE a b = 0)) (hF' : Hid (thenS b c = F')) (hF : Hid (thenE b c = 0))
    (hX : Hid (thenS D c = X)) (hL : Hid (thenE D c = L)) (hY : Hid (thenS a F' = Y)) (hH : Hid (thenE a F' = H)) (k1 : ¬ L = 0) :
    Calls Try.prog 3 #[.agg #[.int .i64 a.f, .int .i64 a.t, .int .i64 a.k, .int .i64 a.ep, .int .i64 a.x, .int .i64 a.y, .int .i64 a.z], .agg #[.int .i64 b.f, .int .i64 b.t, .int .i64 b.k, .int .i64 b.ep, .int .i64 b.x, .int .i64 b.y, .int .i64 b.z], .agg #[.int .i64 c.f, .int .i64 c.t, .int .i64 c.k, .int .i64 c.ep, .int .i64 c.x, .int .i64 c.y, .int .i64 c.z]] w fun e w' => e = .returned (.bool true) ∧ Below w.heap.size w w' := by
  go_enter Try.func3, Try.ntmps3
  have KA : SBox (((w.alloc (.cells #[.int .i64 a.f, .int .i64 a.t, .int .i64 a.k, .int .i64 a.ep, .int .i64 a.x, .int .i64 a.y, .int .i64 a.z] 24)).alloc (.cells #[.int .i64 b.f, .int .i64 b.t, .int .i64 b.k, .int .i64 b.ep, .int .i64 b.x, .int .i64 b.y, .int .i64 b.z] 24)).alloc (.cells #[.int .i64 c.f, .int .i64 c.t, .int .i64 c.k, .int .i64 c.ep, .int .i64 c.x, .int .i64 c.y, .int .i64 c.z] 24)) (w.heap.size) a := by simp [SBox, go_sem]
  have KB : SBox (((w.alloc (.cells #[.int .i64 a.f, .int .i64 a.t, .int .i64 a.k, .int .i64 a.ep, .int .i64 a.x, .int .i64 a.y, .int .i64 a.z] 24)).alloc (.cells #[.int .i64 b.f, .int .i64 b.t, .int .i64 b.k, .int .i64 b.ep, .int .i64 b.x, .int .i64 b.y, .int .i64 b.z] 24)).alloc (.cells #[.int .i64 c.f, .int .i64 c.t, .int .i64 c.k, .int .i64 c.ep, .int .i64 c.x, .int .i64 c.y, .int .i64 c.z] 24)) (w.heap.size + 1) b := by simp [SBox, go_sem]
  have KC : SBox (((w.alloc (.cells #[.int .i64 a.f, .int .i64 a.t, .int .i64 a.k, .int .i64 a.ep, .int .i64 a.x, .int .i64 a.y, .int .i64 a.z] 24)).alloc (.cells #[.int .i64 b.f, .int .i64 b.t, .int .i64 b.k, .int .i64 b.ep, .int .i64 b.x, .int .i64 b.y, .int .i64 b.z] 24)).alloc (.cells #[.int .i64 c.f, .int .i64 c.t, .int .i64 c.k, .int .i64 c.ep, .int .i64 c.x, .int .i64 c.y, .int .i64 c.z] 24)) (w.heap.size + 1 + 1) c := by simp [SBox, go_sem]
  have G : Hid (Grow w (((w.alloc (.cells #[.int .i64 a.f, .int .i64 a.t, .int .i64 a.k, .int .i64 a.ep, .int .i64 a.x, .int .i64 a.y, .int .i64 a.z] 24)).alloc (.cells #[.int .i64 b.f, .int .i64 b.t, .int .i64 b.k, .int .i64 b.ep, .int .i64 b.x, .int .i64 b.y, .int .i64 b.z] 24)).alloc (.cells #[.int .i64 c.f, .int .i64 c.t, .int .i64 c.k, .int .i64 c.ep, .int .i64 c.x, .int .i64 c.y, .int .i64 c.z] 24))) := hide (Grow.trans' (Grow.trans' (Grow.alloc' _ _) (Grow.alloc' _ _)) (Grow.alloc' _ _))
  have HA := hide KA
  have HB := hide KB
  have HC := hide KC
  obtain ⟨a_0, a_1, a_2, a_3, a_4, a_5, a_6⟩ := KA
  obtain ⟨b_0, b_1, b_2, b_3, b_4, b_5, b_6⟩ := KB
  obtain ⟨c_0, c_1, c_2, c_3, c_4, c_5, c_6⟩ := KC
  go_wp2_with fail
  refine (shown_any _).mono ?_
  rintro e w1 ⟨rfl, hb⟩
  clear a_0 a_1 a_2 a_3 a_4 a_5 a_6 b_0 b_1 b_2 b_3 b_4 b_5 b_6 c_0 c_1 c_2 c_3 c_4 c_5 c_6
  have KA : SBox w1 w.heap.size (a) := HA.out.later hb
  have KB : SBox w1 (w.heap.size + 1) (b) := HB.out.later hb
  have KC : SBox w1 (w.heap.size + 1 + 1) (c) := HC.out.later hb
  have G : Hid (Grow w w1) := hide (Grow.trans' G.out hb)
  clear hb HA HB HC
  have HA := hide KA
  have HB := hide KB
  have HC := hide KC
  obtain ⟨a_0, a_1, a_2, a_3, a_4, a_5, a_6⟩ := KA
  obtain ⟨b_0, b_1, b_2, b_3, b_4, b_5, b_6⟩ := KB
  obtain ⟨c_0, c_1, c_2, c_3, c_4, c_5, c_6⟩ := KC
  go_wp2_with fail
  refine (then_at a b D 0 hD.out hE.out _).mono ?_
  rintro e w2 ⟨rfl, hb⟩
  clear a_0 a_1 a_2 a_3 a_4 a_5 a_6 b_0 b_1 b_2 b_3 b_4 b_5 b_6 c_0 c_1 c_2 c_3 c_4 c_5 c_6
  have KA : SBox (w2.alloc (.cells #[.int .i64 (D).f, .int .i64 (D).t, .int .i64 (D).k, .int .i64 (D).ep, .int .i64 (D).x, .int .i64 (D).y, .int .i64 (D).z] 24)) w.heap.size (a) := (HA.out.later hb).later (Grow.alloc' _ _)
  have KB : SBox (w2.alloc (.cells #[.int .i64 (D).f, .int .i64 (D).t, .int .i64 (D).k, .int .i64 (D).ep, .int .i64 (D).x, .int .i64 (D).y, .int .i64 (D).z] 24)) (w.heap.size + 1) (b) := (HB.out.later hb).later (Grow.alloc' _ _)
  have KC : SBox (w2.alloc (.cells #[.int .i64 (D).f, .int .i64 (D).t, .int .i64 (D).k, .int .i64 (D).ep, .int .i64 (D).x, .int .i64 (D).y, .int .i64 (D).z] 24)) (w.heap.size + 1 + 1) (c) := (HC.out.later hb).later (Grow.alloc' _ _)
  have KD : SBox (w2.alloc (.cells #[.int .i64 (D).f, .int .i64 (D).t, .int .i64 (D).k, .int .i64 (D).ep, .int .i64 (D).x, .int .i64 (D).y, .int .i64 (D).z] 24)) w2.heap.size (D) := SBox.new _ _
  have G : Hid (Grow w (w2.alloc (.cells #[.int .i64 (D).f, .int .i64 (D).t, .int .i64 (D).k, .int .i64 (D).ep, .int .i64 (D).x, .int .i64 (D).y, .int .i64 (D).z] 24))) := hide (Grow.trans' (Grow.trans' G.out hb) (Grow.alloc' _ _))
  clear hb HA HB HC
  have HA := hide KA
  have HB := hide KB
  have HC := hide KC
  have HD := hide KD
  obtain ⟨a_0, a_1, a_2, a_3, a_4, a_5, a_6⟩ := KA
  obtain ⟨b_0, b_1, b_2, b_3, b_4, b_5, b_6⟩ := KB
  obtain ⟨c_0, c_1, c_2, c_3, c_4, c_5, c_6⟩ := KC
  obtain ⟨d_0, d_1, d_2, d_3, d_4, d_5, d_6⟩ := KD
  go_wp2_with fail
  refine (then_at b c F' 0 hF'.out hF.out _).mono ?_
  rintro e w3 ⟨rfl, hb⟩
  clear a_0 a_1 a_2 a_3 a_4 a_5 a_6 b_0 b_1 b_2 b_3 b_4 b_5 b_6 c_0 c_1 c_2 c_3 c_4 c_5 c_6 d_0 d_1 d_2 d_3 d_4 d_5 d_6
  have KA : SBox (w3.alloc (.cells #[.int .i64 (F').f, .int .i64 (F').t, .int .i64 (F').k, .int .i64 (F').ep, .int .i64 (F').x, .int .i64 (F').y, .int .i64 (F').z] 24)) w.heap.size (a) := (HA.out.later hb).later (Grow.alloc' _ _)
  have KB : SBox (w3.alloc (.cells #[.int .i64 (F').f, .int .i64 (F').t, .int .i64 (F').k, .int .i64 (F').ep, .int .i64 (F').x, .int .i64 (F').y, .int .i64 (F').z] 24)) (w.heap.size + 1) (b) := (HB.out.later hb).later (Grow.alloc' _ _)
  have KC : SBox (w3.alloc (.cells #[.int .i64 (F').f, .int .i64 (F').t, .int .i64 (F').k, .int .i64 (F').ep, .int .i64 (F').x, .int .i64 (F').y, .int .i64 (F').z] 24)) (w.heap.size + 1 + 1) (c) := (HC.out.later hb).later (Grow.alloc' _ _)
  have KD : SBox (w3.alloc (.cells #[.int .i64 (F').f, .int .i64 (F').t, .int .i64 (F').k, .int .i64 (F').ep, .int .i64 (F').x, .int .i64 (F').y, .int .i64 (F').z] 24)) w2.heap.size (D) := (HD.out.later hb).later (Grow.alloc' _ _)
  have KF : SBox (w3.alloc (.cells #[.int .i64 (F').f, .int .i64 (F').t, .int .i64 (F').k, .int .i64 (F').ep, .int .i64 (F').x, .int .i64 (F').y, .int .i64 (F').z] 24)) w3.heap.size (F') := SBox.new _ _
  have G : Hid (Grow w (w3.alloc (.cells #[.int .i64 (F').f, .int .i64 (F').t, .int .i64 (F').k, .int .i64 (F').ep, .int .i64 (F').x, .int .i64 (F').y, .int .i64 (F').z] 24))) := hide (Grow.trans' (Grow.trans' G.out hb) (Grow.alloc' _ _))
  clear hb HA HB HC HD
  have HA := hide KA
  have HB := hide KB
  have HC := hide KC
  have HD := hide KD
  have HF := hide KF
  obtain ⟨a_0, a_1, a_2, a_3, a_4, a_5, a_6⟩ := KA
  obtain ⟨b_0, b_1, b_2, b_3, b_4, b_5, b_6⟩ := KB
  obtain ⟨c_0, c_1, c_2, c_3, c_4, c_5, c_6⟩ := KC
  obtain ⟨d_0, d_1, d_2, d_3, d_4, d_5, d_6⟩ := KD
  obtain ⟨f_0, f_1, f_2, f_3, f_4, f_5, f_6⟩ := KF
  go_wp2_with fail
  refine (then_at D c X L hX.out hL.out _).mono ?_
  rintro e w4 ⟨rfl, hb⟩
  clear a_0 a_1 a_2 a_3 a_4 a_5 a_6 b_0 b_1 b_2 b_3 b_4 b_5 b_6 c_0 c_1 c_2 c_3 c_4 c_5 c_6 d_0 d_1 d_2 d_3 d_4 d_5 d_6 f_0 f_1 f_2 f_3 f_4 f_5 f_6
  have KA : SBox (w4.alloc (.cells #[.int .i64 (X).f, .int .i64 (X).t, .int .i64 (X).k, .int .i64 (X).ep, .int .i64 (X).x, .int .i64 (X).y, .int .i64 (X).z] 24)) w.heap.size (a) := (HA.out.later hb).later (Grow.alloc' _ _)
  have KB : SBox (w4.alloc (.cells #[.int .i64 (X).f, .int .i64 (X).t, .int .i64 (X).k, .int .i64 (X).ep, .int .i64 (X).x, .int .i64 (X).y, .int .i64 (X).z] 24)) (w.heap.size + 1) (b) := (HB.out.later hb).later (Grow.alloc' _ _)
  have KC : SBox (w4.alloc (.cells #[.int .i64 (X).f, .int .i64 (X).t, .int .i64 (X).k, .int .i64 (X).ep, .int .i64 (X).x, .int .i64 (X).y, .int .i64 (X).z] 24)) (w.heap.size + 1 + 1) (c) := (HC.out.later hb).later (Grow.alloc' _ _)
  have KD : SBox (w4.alloc (.cells #[.int .i64 (X).f, .int .i64 (X).t, .int .i64 (X).k, .int .i64 (X).ep, .int .i64 (X).x, .int .i64 (X).y, .int .i64 (X).z] 24)) w2.heap.size (D) := (HD.out.later hb).later (Grow.alloc' _ _)
  have KF : SBox (w4.alloc (.cells #[.int .i64 (X).f, .int .i64 (X).t, .int .i64 (X).k, .int .i64 (X).ep, .int .i64 (X).x, .int .i64 (X).y, .int .i64 (X).z] 24)) w3.heap.size (F') := (HF.out.later hb).later (Grow.alloc' _ _)
  have KX : SBox (w4.alloc (.cells #[.int .i64 (X).f, .int .i64 (X).t, .int .i64 (X).k, .int .i64 (X).ep, .int .i64 (X).x, .int .i64 (X).y, .int .i64 (X).z] 24)) w4.heap.size (X) := SBox.new _ _
  have G : Hid (Grow w (w4.alloc (.cells #[.int .i64 (X).f, .int .i64 (X).t, .int .i64 (X).k, .int .i64 (X).ep, .int .i64 (X).x, .int .i64 (X).y, .int .i64 (X).z] 24))) := hide (Grow.trans' (Grow.trans' G.out hb) (Grow.alloc' _ _))
  clear hb HA HB HC HD HF
  have HA := hide KA
  have HB := hide KB
  have HC := hide KC
  have HD := hide KD
  have HF := hide KF
  have HX := hide KX
  obtain ⟨a_0, a_1, a_2, a_3, a_4, a_5, a_6⟩ := KA
  obtain ⟨b_0, b_1, b_2, b_3, b_4, b_5, b_6⟩ := KB
  obtain ⟨c_0, c_1, c_2, c_3, c_4, c_5, c_6⟩ := KC
  obtain ⟨d_0, d_1, d_2, d_3, d_4, d_5, d_6⟩ := KD
  obtain ⟨f_0, f_1, f_2, f_3, f_4, f_5, f_6⟩ := KF
  obtain ⟨x_0, x_1, x_2, x_3, x_4, x_5, x_6⟩ := KX
  go_wp2_with fail
  refine (then_at a F' Y H hY.out hH.out _).mono ?_
  rintro e w5 ⟨rfl, hb⟩
  clear a_0 a_1 a_2 a_3 a_4 a_5 a_6 b_0 b_1 b_2 b_3 b_4 b_5 b_6 c_0 c_1 c_2 c_3 c_4 c_5 c_6 d_0 d_1 d_2 d_3 d_4 d_5 d_6 f_0 f_1 f_2 f_3 f_4 f_5 f_6 x_0 x_1 x_2 x_3 x_4 x_5 x_6
  have KA : SBox (w5.alloc (.cells #[.int .i64 (Y).f, .int .i64 (Y).t, .int .i64 (Y).k, .int .i64 (Y).ep, .int .i64 (Y).x, .int .i64 (Y).y, .int .i64 (Y).z] 24)) w.heap.size (a) := (HA.out.later hb).later (Grow.alloc' _ _)
  have KB : SBox (w5.alloc (.cells #[.int .i64 (Y).f, .int .i64 (Y).t, .int .i64 (Y).k, .int .i64 (Y).ep, .int .i64 (Y).x, .int .i64 (Y).y, .int .i64 (Y).z] 24)) (w.heap.size + 1) (b) := (HB.out.later hb).later (Grow.alloc' _ _)
  have KC : SBox (w5.alloc (.cells #[.int .i64 (Y).f, .int .i64 (Y).t, .int .i64 (Y).k, .int .i64 (Y).ep, .int .i64 (Y).x, .int .i64 (Y).y, .int .i64 (Y).z] 24)) (w.heap.size + 1 + 1) (c) := (HC.out.later hb).later (Grow.alloc' _ _)
  have KD : SBox (w5.alloc (.cells #[.int .i64 (Y).f, .int .i64 (Y).t, .int .i64 (Y).k, .int .i64 (Y).ep, .int .i64 (Y).x, .int .i64 (Y).y, .int .i64 (Y).z] 24)) w2.heap.size (D) := (HD.out.later hb).later (Grow.alloc' _ _)
  have KF : SBox (w5.alloc (.cells #[.int .i64 (Y).f, .int .i64 (Y).t, .int .i64 (Y).k, .int .i64 (Y).ep, .int .i64 (Y).x, .int .i64 (Y).y, .int .i64 (Y).z] 24)) w3.heap.size (F') := (HF.out.later hb).later (Grow.alloc' _ _)
  have KX : SBox (w5.alloc (.cells #[.int .i64 (Y).f, .int .i64 (Y).t, .int .i64 (Y).k, .int .i64 (Y).ep, .int .i64 (Y).x, .int .i64 (Y).y, .int .i64 (Y).z] 24)) w4.heap.size (X) := (HX.out.later hb).later (Grow.alloc' _ _)
  have KY : SBox (w5.alloc (.cells #[.int .i64 (Y).f, .int .i64 (Y).t, .int .i64 (Y).k, .int .i64 (Y).ep, .int .i64 (Y).x, .int .i64 (Y).y, .int .i64 (Y).z] 24)) w5.heap.size (Y) := SBox.new _ _
  have G : Hid (Grow w (w5.alloc (.cells #[.int .i64 (Y).f, .int .i64 (Y).t, .int .i64 (Y).k, .int .i64 (Y).ep, .int .i64 (Y).x, .int .i64 (Y).y, .int .i64 (Y).z] 24))) := hide (Grow.trans' (Grow.trans' G.out hb) (Grow.alloc' _ _))
  clear hb HA HB HC HD HF HX
  clear KA KB KC KD KF
  obtain ⟨x0, x1, x2, x3, x4, x5, x6⟩ := KX
  obtain ⟨y0, y1, y2, y3, y4, y5, y6⟩ := KY
  go_wp2
  go_ret
  exact ⟨rfl, G.out⟩
set_option maxHeartbeats 1000000 in
theorem SummaryAssoc_4 (a b c D F' X Y : Sm) (L H : Int) (w : World) (hD : Hid (thenS a b = D)) (hE : Hid (thenE a b = 0)) (hF' : Hid (thenS b c = F')) (hF : Hid (thenE b c = 0))
    (hX : Hid (thenS D c = X)) (hL : Hid (thenE D c = 0)) (hY : Hid (thenS a F' = Y)) (hH : Hid (thenE a F' = H)) (k1 : ¬ H = 0) :
    Calls Try.prog 3 #[.agg #[.int .i64 a.f, .int .i64 a.t, .int .i64 a.k, .int .i64 a.ep, .int .i64 a.x, .int .i64 a.y, .int .i64 a.z], .agg #[.int .i64 b.f, .int .i64 b.t, .int .i64 b.k, .int .i64 b.ep, .int .i64 b.x, .int .i64 b.y, .int .i64 b.z], .agg #[.int .i64 c.f, .int .i64 c.t, .int .i64 c.k, .int .i64 c.ep, .int .i64 c.x, .int .i64 c.y, .int .i64 c.z]] w fun e w' => e = .returned (.bool true) ∧ Below w.heap.size w w' := by
  go_enter Try.func3, Try.ntmps3
  have KA : SBox (((w.alloc (.cells #[.int .i64 a.f, .int .i64 a.t, .int .i64 a.k, .int .i64 a.ep, .int .i64 a.x, .int .i64 a.y, .int .i64 a.z] 24)).alloc (.cells #[.int .i64 b.f, .int .i64 b.t, .int .i64 b.k, .int .i64 b.ep, .int .i64 b.x, .int .i64 b.y, .int .i64 b.z] 24)).alloc (.cells #[.int .i64 c.f, .int .i64 c.t, .int .i64 c.k, .int .i64 c.ep, .int .i64 c.x, .int .i64 c.y, .int .i64 c.z] 24)) (w.heap.size) a := by simp [SBox, go_sem]
  have KB : SBox (((w.alloc (.cells #[.int .i64 a.f, .int .i64 a.t, .int .i64 a.k, .int .i64 a.ep, .int .i64 a.x, .int .i64 a.y, .int .i64 a.z] 24)).alloc (.cells #[.int .i64 b.f, .int .i64 b.t, .int .i64 b.k, .int .i64 b.ep, .int .i64 b.x, .int .i64 b.y, .int .i64 b.z] 24)).alloc (.cells #[.int .i64 c.f, .int .i64 c.t, .int .i64 c.k, .int .i64 c.ep, .int .i64 c.x, .int .i64 c.y, .int .i64 c.z] 24)) (w.heap.size + 1) b := by simp [SBox, go_sem]
  have KC : SBox (((w.alloc (.cells #[.int .i64 a.f, .int .i64 a.t, .int .i64 a.k, .int .i64 a.ep, .int .i64 a.x, .int .i64 a.y, .int .i64 a.z] 24)).alloc (.cells #[.int .i64 b.f, .int .i64 b.t, .int .i64 b.k, .int .i64 b.ep, .int .i64 b.x, .int .i64 b.y, .int .i64 b.z] 24)).alloc (.cells #[.int .i64 c.f, .int .i64 c.t, .int .i64 c.k, .int .i64 c.ep, .int .i64 c.x, .int .i64 c.y, .int .i64 c.z] 24)) (w.heap.size + 1 + 1) c := by simp [SBox, go_sem]
  have G : Hid (Grow w (((w.alloc (.cells #[.int .i64 a.f, .int .i64 a.t, .int .i64 a.k, .int .i64 a.ep, .int .i64 a.x, .int .i64 a.y, .int .i64 a.z] 24)).alloc (.cells #[.int .i64 b.f, .int .i64 b.t, .int .i64 b.k, .int .i64 b.ep, .int .i64 b.x, .int .i64 b.y, .int .i64 b.z] 24)).alloc (.cells #[.int .i64 c.f, .int .i64 c.t, .int .i64 c.k, .int .i64 c.ep, .int .i64 c.x, .int .i64 c.y, .int .i64 c.z] 24))) := hide (Grow.trans' (Grow.trans' (Grow.alloc' _ _) (Grow.alloc' _ _)) (Grow.alloc' _ _))
  have HA := hide KA
  have HB := hide KB
  have HC := hide KC
  obtain ⟨a_0, a_1, a_2, a_3, a_4, a_5, a_6⟩ := KA
  obtain ⟨b_0, b_1, b_2, b_3, b_4, b_5, b_6⟩ := KB
  obtain ⟨c_0, c_1, c_2, c_3, c_4, c_5, c_6⟩ := KC
  go_wp2_with fail
  refine (shown_any _).mono ?_
  rintro e w1 ⟨rfl, hb⟩
  clear a_0 a_1 a_2 a_3 a_4 a_5 a_6 b_0 b_1 b_2 b_3 b_4 b_5 b_6 c_0 c_1 c_2 c_3 c_4 c_5 c_6
  have KA : SBox w1 w.heap.size (a) := HA.out.later hb
  have KB : SBox w1 (w.heap.size + 1) (b) := HB.out.later hb
  have KC : SBox w1 (w.heap.size + 1 + 1) (c) := HC.out.later hb
  have G : Hid (Grow w w1) := hide (Grow.trans' G.out hb)
  clear hb HA HB HC
  have HA := hide KA
  have HB := hide KB
  have HC := hide KC
  obtain ⟨a_0, a_1, a_2, a_3, a_4, a_5, a_6⟩ := KA
  obtain ⟨b_0, b_1, b_2, b_3, b_4, b_5, b_6⟩ := KB
  obtain ⟨c_0, c_1, c_2, c_3, c_4, c_5, c_6⟩ := KC
  go_wp2_with fail
  refine (then_at a b D 0 hD.out hE.out _).mono ?_
  rintro e w2 ⟨rfl, hb⟩
  clear a_0 a_1 a_2 a_3 a_4 a_5 a_6 b_0 b_1 b_2 b_3 b_4 b_5 b_6 c_0 c_1 c_2 c_3 c_4 c_5 c_6
  have KA : SBox (w2.alloc (.cells #[.int .i64 (D).f, .int .i64 (D).t, .int .i64 (D).k, .int .i64 (D).ep, .int .i64 (D).x, .int .i64 (D).y, .int .i64 (D).z] 24)) w.heap.size (a) := (HA.out.later hb).later (Grow.alloc' _ _)
  have KB : SBox (w2.alloc (.cells #[.int .i64 (D).f, .int .i64 (D).t, .int .i64 (D).k, .int .i64 (D).ep, .int .i64 (D).x, .int .i64 (D).y, .int .i64 (D).z] 24)) (w.heap.size + 1) (b) := (HB.out.later hb).later (Grow.alloc' _ _)
  have KC : SBox (w2.alloc (.cells #[.int .i64 (D).f, .int .i64 (D).t, .int .i64 (D).k, .int .i64 (D).ep, .int .i64 (D).x, .int .i64 (D).y, .int .i64 (D).z] 24)) (w.heap.size + 1 + 1) (c) := (HC.out.later hb).later (Grow.alloc' _ _)
  have KD : SBox (w2.alloc (.cells #[.int .i64 (D).f, .int .i64 (D).t, .int .i64 (D).k, .int .i64 (D).ep, .int .i64 (D).x, .int .i64 (D).y, .int .i64 (D).z] 24)) w2.heap.size (D) := SBox.new _ _
  have G : Hid (Grow w (w2.alloc (.cells #[.int .i64 (D).f, .int .i64 (D).t, .int .i64 (D).k, .int .i64 (D).ep, .int .i64 (D).x, .int .i64 (D).y, .int .i64 (D).z] 24))) := hide (Grow.trans' (Grow.trans' G.out hb) (Grow.alloc' _ _))
  clear hb HA HB HC
  have HA := hide KA
  have HB := hide KB
  have HC := hide KC
  have HD := hide KD
  obtain ⟨a_0, a_1, a_2, a_3, a_4, a_5, a_6⟩ := KA
  obtain ⟨b_0, b_1, b_2, b_3, b_4, b_5, b_6⟩ := KB
  obtain ⟨c_0, c_1, c_2, c_3, c_4, c_5, c_6⟩ := KC
  obtain ⟨d_0, d_1, d_2, d_3, d_4, d_5, d_6⟩ := KD
  go_wp2_with fail
  refine (then_at b c F' 0 hF'.out hF.out _).mono ?_
  rintro e w3 ⟨rfl, hb⟩
  clear a_0 a_1 a_2 a_3 a_4 a_5 a_6 b_0 b_1 b_2 b_3 b_4 b_5 b_6 c_0 c_1 c_2 c_3 c_4 c_5 c_6 d_0 d_1 d_2 d_3 d_4 d_5 d_6
  have KA : SBox (w3.alloc (.cells #[.int .i64 (F').f, .int .i64 (F').t, .int .i64 (F').k, .int .i64 (F').ep, .int .i64 (F').x, .int .i64 (F').y, .int .i64 (F').z] 24)) w.heap.size (a) := (HA.out.later hb).later (Grow.alloc' _ _)
  have KB : SBox (w3.alloc (.cells #[.int .i64 (F').f, .int .i64 (F').t, .int .i64 (F').k, .int .i64 (F').ep, .int .i64 (F').x, .int .i64 (F').y, .int .i64 (F').z] 24)) (w.heap.size + 1) (b) := (HB.out.later hb).later (Grow.alloc' _ _)
  have KC : SBox (w3.alloc (.cells #[.int .i64 (F').f, .int .i64 (F').t, .int .i64 (F').k, .int .i64 (F').ep, .int .i64 (F').x, .int .i64 (F').y, .int .i64 (F').z] 24)) (w.heap.size + 1 + 1) (c) := (HC.out.later hb).later (Grow.alloc' _ _)
  have KD : SBox (w3.alloc (.cells #[.int .i64 (F').f, .int .i64 (F').t, .int .i64 (F').k, .int .i64 (F').ep, .int .i64 (F').x, .int .i64 (F').y, .int .i64 (F').z] 24)) w2.heap.size (D) := (HD.out.later hb).later (Grow.alloc' _ _)
  have KF : SBox (w3.alloc (.cells #[.int .i64 (F').f, .int .i64 (F').t, .int .i64 (F').k, .int .i64 (F').ep, .int .i64 (F').x, .int .i64 (F').y, .int .i64 (F').z] 24)) w3.heap.size (F') := SBox.new _ _
  have G : Hid (Grow w (w3.alloc (.cells #[.int .i64 (F').f, .int .i64 (F').t, .int .i64 (F').k, .int .i64 (F').ep, .int .i64 (F').x, .int .i64 (F').y, .int .i64 (F').z] 24))) := hide (Grow.trans' (Grow.trans' G.out hb) (Grow.alloc' _ _))
  clear hb HA HB HC HD
  have HA := hide KA
  have HB := hide KB
  have HC := hide KC
  have HD := hide KD
  have HF := hide KF
  obtain ⟨a_0, a_1, a_2, a_3, a_4, a_5, a_6⟩ := KA
  obtain ⟨b_0, b_1, b_2, b_3, b_4, b_5, b_6⟩ := KB
  obtain ⟨c_0, c_1, c_2, c_3, c_4, c_5, c_6⟩ := KC
  obtain ⟨d_0, d_1, d_2, d_3, d_4, d_5, d_6⟩ := KD
  obtain ⟨f_0, f_1, f_2, f_3, f_4, f_5, f_6⟩ := KF
  go_wp2_with fail
  refine (then_at D c X 0 hX.out hL.out _).mono ?_
  rintro e w4 ⟨rfl, hb⟩
  clear a_0 a_1 a_2 a_3 a_4 a_5 a_6 b_0 b_1 b_2 b_3 b_4 b_5 b_6 c_0 c_1 c_2 c_3 c_4 c_5 c_6 d_0 d_1 d_2 d_3 d_4 d_5 d_6 f_0 f_1 f_2 f_3 f_4 f_5 f_6
  have KA : SBox (w4.alloc (.cells #[.int .i64 (X).f, .int .i64 (X).t, .int .i64 (X).k, .int .i64 (X).ep, .int .i64 (X).x, .int .i64 (X).y, .int .i64 (X).z] 24)) w.heap.size (a) := (HA.out.later hb).later (Grow.alloc' _ _)
  have KB : SBox (w4.alloc (.cells #[.int .i64 (X).f, .int .i64 (X).t, .int .i64 (X).k, .int .i64 (X).ep, .int .i64 (X).x, .int .i64 (X).y, .int .i64 (X).z] 24)) (w.heap.size + 1) (b) := (HB.out.later hb).later (Grow.alloc' _ _)
  have KC : SBox (w4.alloc (.cells #[.int .i64 (X).f, .int .i64 (X).t, .int .i64 (X).k, .int .i64 (X).ep, .int .i64 (X).x, .int .i64 (X).y, .int .i64 (X).z] 24)) (w.heap.size + 1 + 1) (c) := (HC.out.later hb).later (Grow.alloc' _ _)
  have KD : SBox (w4.alloc (.cells #[.int .i64 (X).f, .int .i64 (X).t, .int .i64 (X).k, .int .i64 (X).ep, .int .i64 (X).x, .int .i64 (X).y, .int .i64 (X).z] 24)) w2.heap.size (D) := (HD.out.later hb).later (Grow.alloc' _ _)
  have KF : SBox (w4.alloc (.cells #[.int .i64 (X).f, .int .i64 (X).t, .int .i64 (X).k, .int .i64 (X).ep, .int .i64 (X).x, .int .i64 (X).y, .int .i64 (X).z] 24)) w3.heap.size (F') := (HF.out.later hb).later (Grow.alloc' _ _)
  have KX : SBox (w4.alloc (.cells #[.int .i64 (X).f, .int .i64 (X).t, .int .i64 (X).k, .int .i64 (X).ep, .int .i64 (X).x, .int .i64 (X).y, .int .i64 (X).z] 24)) w4.heap.size (X) := SBox.new _ _
  have G : Hid (Grow w (w4.alloc (.cells #[.int .i64 (X).f, .int .i64 (X).t, .int .i64 (X).k, .int .i64 (X).ep, .int .i64 (X).x, .int .i64 (X).y, .int .i64 (X).z] 24))) := hide (Grow.trans' (Grow.trans' G.out hb) (Grow.alloc' _ _))
  clear hb HA HB HC HD HF
  have HA := hide KA
  have HB := hide KB
  have HC := hide KC
  have HD := hide KD
  have HF := hide KF
  have HX := hide KX
  obtain ⟨a_0, a_1, a_2, a_3, a_4, a_5, a_6⟩ := KA
  obtain ⟨b_0, b_1, b_2, b_3, b_4, b_5, b_6⟩ := KB
  obtain ⟨c_0, c_1, c_2, c_3, c_4, c_5, c_6⟩ := KC
  obtain ⟨d_0, d_1, d_2, d_3, d_4, d_5, d_6⟩ := KD
  obtain ⟨f_0, f_1, f_2, f_3, f_4, f_5, f_6⟩ := KF
  obtain ⟨x_0, x_1, x_2, x_3, x_4, x_5, x_6⟩ := KX
  go_wp2_with fail
  refine (then_at a F' Y H hY.out hH.out _).mono ?_
  rintro e w5 ⟨rfl, hb⟩
  clear a_0 a_1 a_2 a_3 a_4 a_5 a_6 b_0 b_1 b_2 b_3 b_4 b_5 b_6 c_0 c_1 c_2 c_3 c_4 c_5 c_6 d_0 d_1 d_2 d_3 d_4 d_5 d_6 f_0 f_1 f_2 f_3 f_4 f_5 f_6 x_0 x_1 x_2 x_3 x_4 x_5 x_6
  have KA : SBox (w5.alloc (.cells #[.int .i64 (Y).f, .int .i64 (Y).t, .int .i64 (Y).k, .int .i64 (Y).ep, .int .i64 (Y).x, .int .i64 (Y).y, .int .i64 (Y).z] 24)) w.heap.size (a) := (HA.out.later hb).later (Grow.alloc' _ _)
  have KB : SBox (w5.alloc (.cells #[.int .i64 (Y).f, .int .i64 (Y).t, .int .i64 (Y).k, .int .i64 (Y).ep, .int .i64 (Y).x, .int .i64 (Y).y, .int .i64 (Y).z] 24)) (w.heap.size + 1) (b) := (HB.out.later hb).later (Grow.alloc' _ _)
  have KC : SBox (w5.alloc (.cells #[.int .i64 (Y).f, .int .i64 (Y).t, .int .i64 (Y).k, .int .i64 (Y).ep, .int .i64 (Y).x, .int .i64 (Y).y, .int .i64 (Y).z] 24)) (w.heap.size + 1 + 1) (c) := (HC.out.later hb).later (Grow.alloc' _ _)
  have KD : SBox (w5.alloc (.cells #[.int .i64 (Y).f, .int .i64 (Y).t, .int .i64 (Y).k, .int .i64 (Y).ep, .int .i64 (Y).x, .int .i64 (Y).y, .int .i64 (Y).z] 24)) w2.heap.size (D) := (HD.out.later hb).later (Grow.alloc' _ _)
  have KF : SBox (w5.alloc (.cells #[.int .i64 (Y).f, .int .i64 (Y).t, .int .i64 (Y).k, .int .i64 (Y).ep, .int .i64 (Y).x, .int .i64 (Y).y, .int .i64 (Y).z] 24)) w3.heap.size (F') := (HF.out.later hb).later (Grow.alloc' _ _)
  have KX : SBox (w5.alloc (.cells #[.int .i64 (Y).f, .int .i64 (Y).t, .int .i64 (Y).k, .int .i64 (Y).ep, .int .i64 (Y).x, .int .i64 (Y).y, .int .i64 (Y).z] 24)) w4.heap.size (X) := (HX.out.later hb).later (Grow.alloc' _ _)
  have KY : SBox (w5.alloc (.cells #[.int .i64 (Y).f, .int .i64 (Y).t, .int .i64 (Y).k, .int .i64 (Y).ep, .int .i64 (Y).x, .int .i64 (Y).y, .int .i64 (Y).z] 24)) w5.heap.size (Y) := SBox.new _ _
  have G : Hid (Grow w (w5.alloc (.cells #[.int .i64 (Y).f, .int .i64 (Y).t, .int .i64 (Y).k, .int .i64 (Y).ep, .int .i64 (Y).x, .int .i64 (Y).y, .int .i64 (Y).z] 24))) := hide (Grow.trans' (Grow.trans' G.out hb) (Grow.alloc' _ _))
  clear hb HA HB HC HD HF HX
  clear KA KB KC KD KF
  obtain ⟨x0, x1, x2, x3, x4, x5, x6⟩ := KX
  obtain ⟨y0, y1, y2, y3, y4, y5, y6⟩ := KY
  go_wp2
  go_ret
  exact ⟨rfl, G.out⟩
set_option maxHeartbeats 1000000 in
theorem SummaryAssoc_5 (a b c D F' X Y : Sm) (L H : Int) (w : World) (hD : Hid (thenS a b = D)) (hE : Hid (thenE a b = 0)) (hF' : Hid (thenS b c = F')) (hF : Hid (thenE b c = 0))
    (hX : Hid (thenS D c = X)) (hL : Hid (thenE D c = 0)) (hY : Hid (thenS a F' = Y)) (hH : Hid (thenE a F' = 0)) (k1 : eqS X Y = true) :
    Calls Try.prog 3 #[.agg #[.int .i64 a.f, .int .i64 a.t, .int .i64 a.k, .int .i64 a.ep, .int .i64 a.x, .int .i64 a.y, .int .i64 a.z], .agg #[.int .i64 b.f, .int .i64 b.t, .int .i64 b.k, .int .i64 b.ep, .int .i64 b.x, .int .i64 b.y, .int .i64 b.z], .agg #[.int .i64 c.f, .int .i64 c.t, .int .i64 c.k, .int .i64 c.ep, .int .i64 c.x, .int .i64 c.y, .int .i64 c.z]] w fun e w' => e = .returned (.bool true) ∧ Below w.heap.size w w' := by
  go_enter Try.func3, Try.ntmps3
  have KA : SBox (((w.alloc (.cells #[.int .i64 a.f, .int .i64 a.t, .int .i64 a.k, .int .i64 a.ep, .int .i64 a.x, .int .i64 a.y, .int .i64 a.z] 24)).alloc (.cells #[.int .i64 b.f, .int .i64 b.t, .int .i64 b.k, .int .i64 b.ep, .int .i64 b.x, .int .i64 b.y, .int .i64 b.z] 24)).alloc (.cells #[.int .i64 c.f, .int .i64 c.t, .int .i64 c.k, .int .i64 c.ep, .int .i64 c.x, .int .i64 c.y, .int .i64 c.z] 24)) (w.heap.size) a := by simp [SBox, go_sem]
  have KB : SBox (((w.alloc (.cells #[.int .i64 a.f, .int .i64 a.t, .int .i64 a.k, .int .i64 a.ep, .int .i64 a.x, .int .i64 a.y, .int .i64 a.z] 24)).alloc (.cells #[.int .i64 b.f, .int .i64 b.t, .int .i64 b.k, .int .i64 b.ep, .int .i64 b.x, .int .i64 b.y, .int .i64 b.z] 24)).alloc (.cells #[.int .i64 c.f, .int .i64 c.t, .int .i64 c.k, .int .i64 c.ep, .int .i64 c.x, .int .i64 c.y, .int .i64 c.z] 24)) (w.heap.size + 1) b := by simp [SBox, go_sem]
  have KC : SBox (((w.alloc (.cells #[.int .i64 a.f, .int .i64 a.t, .int .i64 a.k, .int .i64 a.ep, .int .i64 a.x, .int .i64 a.y, .int .i64 a.z] 24)).alloc (.cells #[.int .i64 b.f, .int .i64 b.t, .int .i64 b.k, .int .i64 b.ep, .int .i64 b.x, .int .i64 b.y, .int .i64 b.z] 24)).alloc (.cells #[.int .i64 c.f, .int .i64 c.t, .int .i64 c.k, .int .i64 c.ep, .int .i64 c.x, .int .i64 c.y, .int .i64 c.z] 24)) (w.heap.size + 1 + 1) c := by simp [SBox, go_sem]
  have G : Hid (Grow w (((w.alloc (.cells #[.int .i64 a.f, .int .i64 a.t, .int .i64 a.k, .int .i64 a.ep, .int .i64 a.x, .int .i64 a.y, .int .i64 a.z] 24)).alloc (.cells #[.int .i64 b.f, .int .i64 b.t, .int .i64 b.k, .int .i64 b.ep, .int .i64 b.x, .int .i64 b.y, .int .i64 b.z] 24)).alloc (.cells #[.int .i64 c.f, .int .i64 c.t, .int .i64 c.k, .int .i64 c.ep, .int .i64 c.x, .int .i64 c.y, .int .i64 c.z] 24))) := hide (Grow.trans' (Grow.trans' (Grow.alloc' _ _) (Grow.alloc' _ _)) (Grow.alloc' _ _))
  have HA := hide KA
  have HB := hide KB
  have HC := hide KC
  obtain ⟨a_0, a_1, a_2, a_3, a_4, a_5, a_6⟩ := KA
  obtain ⟨b_0, b_1, b_2, b_3, b_4, b_5, b_6⟩ := KB
  obtain ⟨c_0, c_1, c_2, c_3, c_4, c_5, c_6⟩ := KC
  go_wp2_with fail
  refine (shown_any _).mono ?_
  rintro e w1 ⟨rfl, hb⟩
  clear a_0 a_1 a_2 a_3 a_4 a_5 a_6 b_0 b_1 b_2 b_3 b_4 b_5 b_6 c_0 c_1 c_2 c_3 c_4 c_5 c_6
  have KA : SBox w1 w.heap.size (a) := HA.out.later hb
  have KB : SBox w1 (w.heap.size + 1) (b) := HB.out.later hb
  have KC : SBox w1 (w.heap.size + 1 + 1) (c) := HC.out.later hb
  have G : Hid (Grow w w1) := hide (Grow.trans' G.out hb)
  clear hb HA HB HC
  have HA := hide KA
  have HB := hide KB
  have HC := hide KC
  obtain ⟨a_0, a_1, a_2, a_3, a_4, a_5, a_6⟩ := KA
  obtain ⟨b_0, b_1, b_2, b_3, b_4, b_5, b_6⟩ := KB
  obtain ⟨c_0, c_1, c_2, c_3, c_4, c_5, c_6⟩ := KC
  go_wp2_with fail
  refine (then_at a b D 0 hD.out hE.out _).mono ?_
  rintro e w2 ⟨rfl, hb⟩
  clear a_0 a_1 a_2 a_3 a_4 a_5 a_6 b_0 b_1 b_2 b_3 b_4 b_5 b_6 c_0 c_1 c_2 c_3 c_4 c_5 c_6
  have KA : SBox (w2.alloc (.cells #[.int .i64 (D).f, .int .i64 (D).t, .int .i64 (D).k, .int .i64 (D).ep, .int .i64 (D).x, .int .i64 (D).y, .int .i64 (D).z] 24)) w.heap.size (a) := (HA.out.later hb).later (Grow.alloc' _ _)
  have KB : SBox (w2.alloc (.cells #[.int .i64 (D).f, .int .i64 (D).t, .int .i64 (D).k, .int .i64 (D).ep, .int .i64 (D).x, .int .i64 (D).y, .int .i64 (D).z] 24)) (w.heap.size + 1) (b) := (HB.out.later hb).later (Grow.alloc' _ _)
  have KC : SBox (w2.alloc (.cells #[.int .i64 (D).f, .int .i64 (D).t, .int .i64 (D).k, .int .i64 (D).ep, .int .i64 (D).x, .int .i64 (D).y, .int .i64 (D).z] 24)) (w.heap.size + 1 + 1) (c) := (HC.out.later hb).later (Grow.alloc' _ _)
  have KD : SBox (w2.alloc (.cells #[.int .i64 (D).f, .int .i64 (D).t, .int .i64 (D).k, .int .i64 (D).ep, .int .i64 (D).x, .int .i64 (D).y, .int .i64 (D).z] 24)) w2.heap.size (D) := SBox.new _ _
  have G : Hid (Grow w (w2.alloc (.cells #[.int .i64 (D).f, .int .i64 (D).t, .int .i64 (D).k, .int .i64 (D).ep, .int .i64 (D).x, .int .i64 (D).y, .int .i64 (D).z] 24))) := hide (Grow.trans' (Grow.trans' G.out hb) (Grow.alloc' _ _))
  clear hb HA HB HC
  have HA := hide KA
  have HB := hide KB
  have HC := hide KC
  have HD := hide KD
  obtain ⟨a_0, a_1, a_2, a_3, a_4, a_5, a_6⟩ := KA
  obtain ⟨b_0, b_1, b_2, b_3, b_4, b_5, b_6⟩ := KB
  obtain ⟨c_0, c_1, c_2, c_3, c_4, c_5, c_6⟩ := KC
  obtain ⟨d_0, d_1, d_2, d_3, d_4, d_5, d_6⟩ := KD
  go_wp2_with fail
  refine (then_at b c F' 0 hF'.out hF.out _).mono ?_
  rintro e w3 ⟨rfl, hb⟩
  clear a_0 a_1 a_2 a_3 a_4 a_5 a_6 b_0 b_1 b_2 b_3 b_4 b_5 b_6 c_0 c_1 c_2 c_3 c_4 c_5 c_6 d_0 d_1 d_2 d_3 d_4 d_5 d_6
  have KA : SBox (w3.alloc (.cells #[.int .i64 (F').f, .int .i64 (F').t, .int .i64 (F').k, .int .i64 (F').ep, .int .i64 (F').x, .int .i64 (F').y, .int .i64 (F').z] 24)) w.heap.size (a) := (HA.out.later hb).later (Grow.alloc' _ _)
  have KB : SBox (w3.alloc (.cells #[.int .i64 (F').f, .int .i64 (F').t, .int .i64 (F').k, .int .i64 (F').ep, .int .i64 (F').x, .int .i64 (F').y, .int .i64 (F').z] 24)) (w.heap.size + 1) (b) := (HB.out.later hb).later (Grow.alloc' _ _)
  have KC : SBox (w3.alloc (.cells #[.int .i64 (F').f, .int .i64 (F').t, .int .i64 (F').k, .int .i64 (F').ep, .int .i64 (F').x, .int .i64 (F').y, .int .i64 (F').z] 24)) (w.heap.size + 1 + 1) (c) := (HC.out.later hb).later (Grow.alloc' _ _)
  have KD : SBox (w3.alloc (.cells #[.int .i64 (F').f, .int .i64 (F').t, .int .i64 (F').k, .int .i64 (F').ep, .int .i64 (F').x, .int .i64 (F').y, .int .i64 (F').z] 24)) w2.heap.size (D) := (HD.out.later hb).later (Grow.alloc' _ _)
  have KF : SBox (w3.alloc (.cells #[.int .i64 (F').f, .int .i64 (F').t, .int .i64 (F').k, .int .i64 (F').ep, .int .i64 (F').x, .int .i64 (F').y, .int .i64 (F').z] 24)) w3.heap.size (F') := SBox.new _ _
  have G : Hid (Grow w (w3.alloc (.cells #[.int .i64 (F').f, .int .i64 (F').t, .int .i64 (F').k, .int .i64 (F').ep, .int .i64 (F').x, .int .i64 (F').y, .int .i64 (F').z] 24))) := hide (Grow.trans' (Grow.trans' G.out hb) (Grow.alloc' _ _))
  clear hb HA HB HC HD
  have HA := hide KA
  have HB := hide KB
  have HC := hide KC
  have HD := hide KD
  have HF := hide KF
  obtain ⟨a_0, a_1, a_2, a_3, a_4, a_5, a_6⟩ := KA
  obtain ⟨b_0, b_1, b_2, b_3, b_4, b_5, b_6⟩ := KB
  obtain ⟨c_0, c_1, c_2, c_3, c_4, c_5, c_6⟩ := KC
  obtain ⟨d_0, d_1, d_2, d_3, d_4, d_5, d_6⟩ := KD
  obtain ⟨f_0, f_1, f_2, f_3, f_4, f_5, f_6⟩ := KF
  go_wp2_with fail
  refine (then_at D c X 0 hX.out hL.out _).mono ?_
  rintro e w4 ⟨rfl, hb⟩
  clear a_0 a_1 a_2 a_3 a_4 a_5 a_6 b_0 b_1 b_2 b_3 b_4 b_5 b_6 c_0 c_1 c_2 c_3 c_4 c_5 c_6 d_0 d_1 d_2 d_3 d_4 d_5 d_6 f_0 f_1 f_2 f_3 f_4 f_5 f_6
  have KA : SBox (w4.alloc (.cells #[.int .i64 (X).f, .int .i64 (X).t, .int .i64 (X).k, .int .i64 (X).ep, .int .i64 (X).x, .int .i64 (X).y, .int .i64 (X).z] 24)) w.heap.size (a) := (HA.out.later hb).later (Grow.alloc' _ _)
  have KB : SBox (w4.alloc (.cells #[.int .i64 (X).f, .int .i64 (X).t, .int .i64 (X).k, .int .i64 (X).ep, .int .i64 (X).x, .int .i64 (X).y, .int .i64 (X).z] 24)) (w.heap.size + 1) (b) := (HB.out.later hb).later (Grow.alloc' _ _)
  have KC : SBox (w4.alloc (.cells #[.int .i64 (X).f, .int .i64 (X).t, .int .i64 (X).k, .int .i64 (X).ep, .int .i64 (X).x, .int .i64 (X).y, .int .i64 (X).z] 24)) (w.heap.size + 1 + 1) (c) := (HC.out.later hb).later (Grow.alloc' _ _)
  have KD : SBox (w4.alloc (.cells #[.int .i64 (X).f, .int .i64 (X).t, .int .i64 (X).k, .int .i64 (X).ep, .int .i64 (X).x, .int .i64 (X).y, .int .i64 (X).z] 24)) w2.heap.size (D) := (HD.out.later hb).later (Grow.alloc' _ _)
  have KF : SBox (w4.alloc (.cells #[.int .i64 (X).f, .int .i64 (X).t, .int .i64 (X).k, .int .i64 (X).ep, .int .i64 (X).x, .int .i64 (X).y, .int .i64 (X).z] 24)) w3.heap.size (F') := (HF.out.later hb).later (Grow.alloc' _ _)
  have KX : SBox (w4.alloc (.cells #[.int .i64 (X).f, .int .i64 (X).t, .int .i64 (X).k, .int .i64 (X).ep, .int .i64 (X).x, .int .i64 (X).y, .int .i64 (X).z] 24)) w4.heap.size (X) := SBox.new _ _
  have G : Hid (Grow w (w4.alloc (.cells #[.int .i64 (X).f, .int .i64 (X).t, .int .i64 (X).k, .int .i64 (X).ep, .int .i64 (X).x, .int .i64 (X).y, .int .i64 (X).z] 24))) := hide (Grow.trans' (Grow.trans' G.out hb) (Grow.alloc' _ _))
  clear hb HA HB HC HD HF
  have HA := hide KA
  have HB := hide KB
  have HC := hide KC
  have HD := hide KD
  have HF := hide KF
  have HX := hide KX
  obtain ⟨a_0, a_1, a_2, a_3, a_4, a_5, a_6⟩ := KA
  obtain ⟨b_0, b_1, b_2, b_3, b_4, b_5, b_6⟩ := KB
  obtain ⟨c_0, c_1, c_2, c_3, c_4, c_5, c_6⟩ := KC
  obtain ⟨d_0, d_1, d_2, d_3, d_4, d_5, d_6⟩ := KD
  obtain ⟨f_0, f_1, f_2, f_3, f_4, f_5, f_6⟩ := KF
  obtain ⟨x_0, x_1, x_2, x_3, x_4, x_5, x_6⟩ := KX
  go_wp2_with fail
  refine (then_at a F' Y 0 hY.out hH.out _).mono ?_
  rintro e w5 ⟨rfl, hb⟩
  clear a_0 a_1 a_2 a_3 a_4 a_5 a_6 b_0 b_1 b_2 b_3 b_4 b_5 b_6 c_0 c_1 c_2 c_3 c_4 c_5 c_6 d_0 d_1 d_2 d_3 d_4 d_5 d_6 f_0 f_1 f_2 f_3 f_4 f_5 f_6 x_0 x_1 x_2 x_3 x_4 x_5 x_6
  have KA : SBox (w5.alloc (.cells #[.int .i64 (Y).f, .int .i64 (Y).t, .int .i64 (Y).k, .int .i64 (Y).ep, .int .i64 (Y).x, .int .i64 (Y).y, .int .i64 (Y).z] 24)) w.heap.size (a) := (HA.out.later hb).later (Grow.alloc' _ _)
  have KB : SBox (w5.alloc (.cells #[.int .i64 (Y).f, .int .i64 (Y).t, .int .i64 (Y).k, .int .i64 (Y).ep, .int .i64 (Y).x, .int .i64 (Y).y, .int .i64 (Y).z] 24)) (w.heap.size + 1) (b) := (HB.out.later hb).later (Grow.alloc' _ _)
  have KC : SBox (w5.alloc (.cells #[.int .i64 (Y).f, .int .i64 (Y).t, .int .i64 (Y).k, .int .i64 (Y).ep, .int .i64 (Y).x, .int .i64 (Y).y, .int .i64 (Y).z] 24)) (w.heap.size + 1 + 1) (c) := (HC.out.later hb).later (Grow.alloc' _ _)
  have KD : SBox (w5.alloc (.cells #[.int .i64 (Y).f, .int .i64 (Y).t, .int .i64 (Y).k, .int .i64 (Y).ep, .int .i64 (Y).x, .int .i64 (Y).y, .int .i64 (Y).z] 24)) w2.heap.size (D) := (HD.out.later hb).later (Grow.alloc' _ _)
  have KF : SBox (w5.alloc (.cells #[.int .i64 (Y).f, .int .i64 (Y).t, .int .i64 (Y).k, .int .i64 (Y).ep, .int .i64 (Y).x, .int .i64 (Y).y, .int .i64 (Y).z] 24)) w3.heap.size (F') := (HF.out.later hb).later (Grow.alloc' _ _)
  have KX : SBox (w5.alloc (.cells #[.int .i64 (Y).f, .int .i64 (Y).t, .int .i64 (Y).k, .int .i64 (Y).ep, .int .i64 (Y).x, .int .i64 (Y).y, .int .i64 (Y).z] 24)) w4.heap.size (X) := (HX.out.later hb).later (Grow.alloc' _ _)
  have KY : SBox (w5.alloc (.cells #[.int .i64 (Y).f, .int .i64 (Y).t, .int .i64 (Y).k, .int .i64 (Y).ep, .int .i64 (Y).x, .int .i64 (Y).y, .int .i64 (Y).z] 24)) w5.heap.size (Y) := SBox.new _ _
  have G : Hid (Grow w (w5.alloc (.cells #[.int .i64 (Y).f, .int .i64 (Y).t, .int .i64 (Y).k, .int .i64 (Y).ep, .int .i64 (Y).x, .int .i64 (Y).y, .int .i64 (Y).z] 24))) := hide (Grow.trans' (Grow.trans' G.out hb) (Grow.alloc' _ _))
  clear hb HA HB HC HD HF HX
  clear KA KB KC KD KF
  obtain ⟨x0, x1, x2, x3, x4, x5, x6⟩ := KX
  obtain ⟨y0, y1, y2, y3, y4, y5, y6⟩ := KY
  go_wp2
  go_ret
  exact ⟨rfl, G.out⟩

theorem eqS_of {a b : Sm} (h : a = b) : eqS a b = true := by rw [h]; simp [eqS]
theorem SummaryAssoc_any (a b c : Sm) (w : World) :
    Calls Try.prog 3 #[.agg #[.int .i64 a.f, .int .i64 a.t, .int .i64 a.k, .int .i64 a.ep, .int .i64 a.x, .int .i64 a.y, .int .i64 a.z], .agg #[.int .i64 b.f, .int .i64 b.t, .int .i64 b.k, .int .i64 b.ep, .int .i64 b.x, .int .i64 b.y, .int .i64 b.z], .agg #[.int .i64 c.f, .int .i64 c.t, .int .i64 c.k, .int .i64 c.ep, .int .i64 c.x, .int .i64 c.y, .int .i64 c.z]] w fun e w' => e = .returned (.bool true) ∧ Below w.heap.size w w' := by
  by_cases hE : thenE a b = 0
  rotate_left
  · exact SummaryAssoc_1 a b c _ _ _ _ w rfl rfl rfl rfl hE
  by_cases hF : thenE b c = 0
  rotate_left
  · exact SummaryAssoc_2 a b c _ _ 0 _ w rfl hE rfl rfl hF
  by_cases hL : thenE (thenS a b) c = 0
  rotate_left
  · exact SummaryAssoc_3 a b c _ _ _ _ _ _ w rfl hE rfl hF rfl rfl rfl rfl hL
  by_cases hH : thenE a (thenS b c) = 0
  rotate_left
  · exact SummaryAssoc_4 a b c _ _ _ _ 0 _ w rfl hE rfl hF rfl hL rfl rfl hH
  exact SummaryAssoc_5 a b c _ _ _ _ 0 0 w rfl hE rfl hF rfl hL rfl hH (eqS_of (then_assoc hE hF hL hH))

end Go.Proofs.Ythidpjjphieedab
