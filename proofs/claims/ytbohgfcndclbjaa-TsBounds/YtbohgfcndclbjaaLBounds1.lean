/-
  What the law TsBounds does, case 1 of three of what stands above: for every three times it returns true, and what was there stays as it was.
-/
import Derived.Test.YtbohgfcndclbjaaFacts2
import Derived.Test.YtbohgfcndclbjaaLPartial
namespace Go.Proofs.Ytbohgfcndclbjaa
open Go.RowKit
set_option linter.unusedVariables false

set_option maxHeartbeats 8000000 in
theorem TsBounds_00 (a b c : Tm) (w : World) (hA : mayB a = true) (hB : mayB b = true) (hC : mayB c = true) (hd : a.d = b.d) (hp : leB a c = false) (hr : leB c a = false) :
    Calls Try.prog 7 #[.agg #[.int .i64 a.e, .int .i64 a.d, .int .i64 a.x, .int .i64 a.y, .int .i64 a.z], .agg #[.int .i64 b.e, .int .i64 b.d, .int .i64 b.x, .int .i64 b.y, .int .i64 b.z], .agg #[.int .i64 c.e, .int .i64 c.d, .int .i64 c.x, .int .i64 c.y, .int .i64 c.z]] w fun e w' => e = .returned (.bool true) ∧ Below w.heap.size w w' := by
  have hE := hide (err_yes hA hd)
  have hj1 := hide (le_join_left (c := c) hA hB hd)
  have hj2 := hide (le_join_right (c := c) hA hB hd)
  have hm1 := hide (meet_le_left (c := c) hA hB hd)
  have hm2 := hide (meet_le_right (c := c) hA hB hd)
  have hJ := hide (may_join (c := c) hA hB hd)
  have hM := hide (may_meet (c := c) hA hB hd)
  have hA' := hide (hA)
  have hB' := hide (hB)
  have hC' := hide (hC)
  have hp' := hide (hp)
  have hr' := hide (hr)
  have hne := hide (show (a.d != b.d) = false by simp [hd])
  clear hA hB hC hd hp hr
  have KA : Box (((w.alloc (.cells #[.int .i64 a.e, .int .i64 a.d, .int .i64 a.x, .int .i64 a.y, .int .i64 a.z] 25)).alloc (.cells #[.int .i64 b.e, .int .i64 b.d, .int .i64 b.x, .int .i64 b.y, .int .i64 b.z] 25)).alloc (.cells #[.int .i64 c.e, .int .i64 c.d, .int .i64 c.x, .int .i64 c.y, .int .i64 c.z] 25)) w.heap.size a := ((Box.new w a).later (Grow.alloc' _ _)).later (Grow.alloc' _ _)
  have KB : Box (((w.alloc (.cells #[.int .i64 a.e, .int .i64 a.d, .int .i64 a.x, .int .i64 a.y, .int .i64 a.z] 25)).alloc (.cells #[.int .i64 b.e, .int .i64 b.d, .int .i64 b.x, .int .i64 b.y, .int .i64 b.z] 25)).alloc (.cells #[.int .i64 c.e, .int .i64 c.d, .int .i64 c.x, .int .i64 c.y, .int .i64 c.z] 25)) (w.heap.size + 1) b := Box.later (Grow.alloc' _ _) (by simpa using Box.new (w.alloc (.cells #[.int .i64 a.e, .int .i64 a.d, .int .i64 a.x, .int .i64 a.y, .int .i64 a.z] 25)) b)
  have KC : Box (((w.alloc (.cells #[.int .i64 a.e, .int .i64 a.d, .int .i64 a.x, .int .i64 a.y, .int .i64 a.z] 25)).alloc (.cells #[.int .i64 b.e, .int .i64 b.d, .int .i64 b.x, .int .i64 b.y, .int .i64 b.z] 25)).alloc (.cells #[.int .i64 c.e, .int .i64 c.d, .int .i64 c.x, .int .i64 c.y, .int .i64 c.z] 25)) (w.heap.size + 1 + 1) c := by simpa using Box.new ((w.alloc (.cells #[.int .i64 a.e, .int .i64 a.d, .int .i64 a.x, .int .i64 a.y, .int .i64 a.z] 25)).alloc (.cells #[.int .i64 b.e, .int .i64 b.d, .int .i64 b.x, .int .i64 b.y, .int .i64 b.z] 25)) c
  have G : Hid (Grow w (((w.alloc (.cells #[.int .i64 a.e, .int .i64 a.d, .int .i64 a.x, .int .i64 a.y, .int .i64 a.z] 25)).alloc (.cells #[.int .i64 b.e, .int .i64 b.d, .int .i64 b.x, .int .i64 b.y, .int .i64 b.z] 25)).alloc (.cells #[.int .i64 c.e, .int .i64 c.d, .int .i64 c.x, .int .i64 c.y, .int .i64 c.z] 25))) := hide (((Grow.alloc' _ _).trans' (Grow.alloc' _ _)).trans' (Grow.alloc' _ _))
  go_enter Try.func7, Try.ntmps7
  have HA := hide KA
  have HB := hide KB
  have HC := hide KC
  obtain ⟨a_0, a_1, a_2, a_3, a_4⟩ := KA
  obtain ⟨b_0, b_1, b_2, b_3, b_4⟩ := KB
  obtain ⟨c_0, c_1, c_2, c_3, c_4⟩ := KC
  go_wp2_with fail
  refine (shown_any _).mono ?_
  rintro e w1 ⟨rfl, hb⟩
  clear a_0 a_1 a_2 a_3 a_4 b_0 b_1 b_2 b_3 b_4 c_0 c_1 c_2 c_3 c_4
  have KA : Box w1 w.heap.size (a) := HA.out.later hb
  have KB : Box w1 (w.heap.size + 1) (b) := HB.out.later hb
  have KC : Box w1 (w.heap.size + 1 + 1) (c) := HC.out.later hb
  have G : Hid (Grow w w1) := hide (Grow.trans' G.out hb)
  clear hb HA HB HC
  have HA := hide KA
  have HB := hide KB
  have HC := hide KC
  obtain ⟨a_0, a_1, a_2, a_3, a_4⟩ := KA
  obtain ⟨b_0, b_1, b_2, b_3, b_4⟩ := KB
  obtain ⟨c_0, c_1, c_2, c_3, c_4⟩ := KC
  go_wp2_with fail
  refine (mayC a true hA'.out _).mono ?_
  rintro e w2 ⟨rfl, hb⟩
  clear a_0 a_1 a_2 a_3 a_4 b_0 b_1 b_2 b_3 b_4 c_0 c_1 c_2 c_3 c_4
  have KA : Box w2 w.heap.size (a) := HA.out.later hb
  have KB : Box w2 (w.heap.size + 1) (b) := HB.out.later hb
  have KC : Box w2 (w.heap.size + 1 + 1) (c) := HC.out.later hb
  have G : Hid (Grow w w2) := hide (Grow.trans' G.out hb)
  clear hb HA HB HC
  have HA := hide KA
  have HB := hide KB
  have HC := hide KC
  obtain ⟨a_0, a_1, a_2, a_3, a_4⟩ := KA
  obtain ⟨b_0, b_1, b_2, b_3, b_4⟩ := KB
  obtain ⟨c_0, c_1, c_2, c_3, c_4⟩ := KC
  go_wp2_with fail
  refine (mayC b true hB'.out _).mono ?_
  rintro e w3 ⟨rfl, hb⟩
  clear a_0 a_1 a_2 a_3 a_4 b_0 b_1 b_2 b_3 b_4 c_0 c_1 c_2 c_3 c_4
  have KA : Box w3 w.heap.size (a) := HA.out.later hb
  have KB : Box w3 (w.heap.size + 1) (b) := HB.out.later hb
  have KC : Box w3 (w.heap.size + 1 + 1) (c) := HC.out.later hb
  have G : Hid (Grow w w3) := hide (Grow.trans' G.out hb)
  clear hb HA HB HC
  have HA := hide KA
  have HB := hide KB
  have HC := hide KC
  obtain ⟨a_0, a_1, a_2, a_3, a_4⟩ := KA
  obtain ⟨b_0, b_1, b_2, b_3, b_4⟩ := KB
  obtain ⟨c_0, c_1, c_2, c_3, c_4⟩ := KC
  go_wp2_with fail
  refine (mayC c true hC'.out _).mono ?_
  rintro e w4 ⟨rfl, hb⟩
  clear a_0 a_1 a_2 a_3 a_4 b_0 b_1 b_2 b_3 b_4 c_0 c_1 c_2 c_3 c_4
  have KA : Box w4 w.heap.size (a) := HA.out.later hb
  have KB : Box w4 (w.heap.size + 1) (b) := HB.out.later hb
  have KC : Box w4 (w.heap.size + 1 + 1) (c) := HC.out.later hb
  have G : Hid (Grow w w4) := hide (Grow.trans' G.out hb)
  clear hb HA HB HC
  have HA := hide KA
  have HB := hide KB
  have HC := hide KC
  obtain ⟨a_0, a_1, a_2, a_3, a_4⟩ := KA
  obtain ⟨b_0, b_1, b_2, b_3, b_4⟩ := KB
  obtain ⟨c_0, c_1, c_2, c_3, c_4⟩ := KC
  go_wp2_with fail
  refine (join_any a b _).mono ?_
  rintro e w5 ⟨rfl, hb⟩
  clear a_0 a_1 a_2 a_3 a_4 b_0 b_1 b_2 b_3 b_4 c_0 c_1 c_2 c_3 c_4
  have KA : Box (w5.alloc (.cells #[.int .i64 (joinR a b).e, .int .i64 (joinR a b).d, .int .i64 (joinR a b).x, .int .i64 (joinR a b).y, .int .i64 (joinR a b).z] 25)) w.heap.size (a) := (HA.out.later hb).later (Grow.alloc' _ _)
  have KB : Box (w5.alloc (.cells #[.int .i64 (joinR a b).e, .int .i64 (joinR a b).d, .int .i64 (joinR a b).x, .int .i64 (joinR a b).y, .int .i64 (joinR a b).z] 25)) (w.heap.size + 1) (b) := (HB.out.later hb).later (Grow.alloc' _ _)
  have KC : Box (w5.alloc (.cells #[.int .i64 (joinR a b).e, .int .i64 (joinR a b).d, .int .i64 (joinR a b).x, .int .i64 (joinR a b).y, .int .i64 (joinR a b).z] 25)) (w.heap.size + 1 + 1) (c) := (HC.out.later hb).later (Grow.alloc' _ _)
  have KJ : Box (w5.alloc (.cells #[.int .i64 (joinR a b).e, .int .i64 (joinR a b).d, .int .i64 (joinR a b).x, .int .i64 (joinR a b).y, .int .i64 (joinR a b).z] 25)) w5.heap.size (joinR a b) := Box.new _ _
  have G : Hid (Grow w (w5.alloc (.cells #[.int .i64 (joinR a b).e, .int .i64 (joinR a b).d, .int .i64 (joinR a b).x, .int .i64 (joinR a b).y, .int .i64 (joinR a b).z] 25))) := hide (Grow.trans' (Grow.trans' G.out hb) (Grow.alloc' _ _))
  clear hb HA HB HC
  have HA := hide KA
  have HB := hide KB
  have HC := hide KC
  have HJ := hide KJ
  obtain ⟨a_0, a_1, a_2, a_3, a_4⟩ := KA
  obtain ⟨b_0, b_1, b_2, b_3, b_4⟩ := KB
  obtain ⟨c_0, c_1, c_2, c_3, c_4⟩ := KC
  obtain ⟨j_0, j_1, j_2, j_3, j_4⟩ := KJ
  go_wp2_with fail
  refine (meet_any a b _).mono ?_
  rintro e w6 ⟨rfl, hb⟩
  clear a_0 a_1 a_2 a_3 a_4 b_0 b_1 b_2 b_3 b_4 c_0 c_1 c_2 c_3 c_4 j_0 j_1 j_2 j_3 j_4
  have KA : Box (w6.alloc (.cells #[.int .i64 (meetR a b).e, .int .i64 (meetR a b).d, .int .i64 (meetR a b).x, .int .i64 (meetR a b).y, .int .i64 (meetR a b).z] 25)) w.heap.size (a) := (HA.out.later hb).later (Grow.alloc' _ _)
  have KB : Box (w6.alloc (.cells #[.int .i64 (meetR a b).e, .int .i64 (meetR a b).d, .int .i64 (meetR a b).x, .int .i64 (meetR a b).y, .int .i64 (meetR a b).z] 25)) (w.heap.size + 1) (b) := (HB.out.later hb).later (Grow.alloc' _ _)
  have KC : Box (w6.alloc (.cells #[.int .i64 (meetR a b).e, .int .i64 (meetR a b).d, .int .i64 (meetR a b).x, .int .i64 (meetR a b).y, .int .i64 (meetR a b).z] 25)) (w.heap.size + 1 + 1) (c) := (HC.out.later hb).later (Grow.alloc' _ _)
  have KJ : Box (w6.alloc (.cells #[.int .i64 (meetR a b).e, .int .i64 (meetR a b).d, .int .i64 (meetR a b).x, .int .i64 (meetR a b).y, .int .i64 (meetR a b).z] 25)) w5.heap.size (joinR a b) := (HJ.out.later hb).later (Grow.alloc' _ _)
  have KM : Box (w6.alloc (.cells #[.int .i64 (meetR a b).e, .int .i64 (meetR a b).d, .int .i64 (meetR a b).x, .int .i64 (meetR a b).y, .int .i64 (meetR a b).z] 25)) w6.heap.size (meetR a b) := Box.new _ _
  have G : Hid (Grow w (w6.alloc (.cells #[.int .i64 (meetR a b).e, .int .i64 (meetR a b).d, .int .i64 (meetR a b).x, .int .i64 (meetR a b).y, .int .i64 (meetR a b).z] 25))) := hide (Grow.trans' (Grow.trans' G.out hb) (Grow.alloc' _ _))
  clear hb HA HB HC HJ
  have hne' := hne.out
  have HA := hide KA
  have HB := hide KB
  have HC := hide KC
  have HJ := hide KJ
  have HM := hide KM
  obtain ⟨a_0, a_1, a_2, a_3, a_4⟩ := KA
  obtain ⟨b_0, b_1, b_2, b_3, b_4⟩ := KB
  obtain ⟨c_0, c_1, c_2, c_3, c_4⟩ := KC
  obtain ⟨j_0, j_1, j_2, j_3, j_4⟩ := KJ
  obtain ⟨m_0, m_1, m_2, m_3, m_4⟩ := KM
  go_wp2_with fail
  refine (leC a (joinR a b) true hj1.out _).mono ?_
  rintro e w7 ⟨rfl, hb⟩
  clear a_0 a_1 a_2 a_3 a_4 b_0 b_1 b_2 b_3 b_4 c_0 c_1 c_2 c_3 c_4 j_0 j_1 j_2 j_3 j_4 m_0 m_1 m_2 m_3 m_4
  have KA : Box w7 w.heap.size (a) := HA.out.later hb
  have KB : Box w7 (w.heap.size + 1) (b) := HB.out.later hb
  have KC : Box w7 (w.heap.size + 1 + 1) (c) := HC.out.later hb
  have KJ : Box w7 w5.heap.size (joinR a b) := HJ.out.later hb
  have KM : Box w7 w6.heap.size (meetR a b) := HM.out.later hb
  have G : Hid (Grow w w7) := hide (Grow.trans' G.out hb)
  clear hb HA HB HC HJ HM
  have HA := hide KA
  have HB := hide KB
  have HC := hide KC
  have HJ := hide KJ
  have HM := hide KM
  obtain ⟨a_0, a_1, a_2, a_3, a_4⟩ := KA
  obtain ⟨b_0, b_1, b_2, b_3, b_4⟩ := KB
  obtain ⟨c_0, c_1, c_2, c_3, c_4⟩ := KC
  obtain ⟨j_0, j_1, j_2, j_3, j_4⟩ := KJ
  obtain ⟨m_0, m_1, m_2, m_3, m_4⟩ := KM
  go_wp2_with fail
  refine (leC b (joinR a b) true hj2.out _).mono ?_
  rintro e w8 ⟨rfl, hb⟩
  clear a_0 a_1 a_2 a_3 a_4 b_0 b_1 b_2 b_3 b_4 c_0 c_1 c_2 c_3 c_4 j_0 j_1 j_2 j_3 j_4 m_0 m_1 m_2 m_3 m_4
  have KA : Box w8 w.heap.size (a) := HA.out.later hb
  have KB : Box w8 (w.heap.size + 1) (b) := HB.out.later hb
  have KC : Box w8 (w.heap.size + 1 + 1) (c) := HC.out.later hb
  have KJ : Box w8 w5.heap.size (joinR a b) := HJ.out.later hb
  have KM : Box w8 w6.heap.size (meetR a b) := HM.out.later hb
  have G : Hid (Grow w w8) := hide (Grow.trans' G.out hb)
  clear hb HA HB HC HJ HM
  have HA := hide KA
  have HB := hide KB
  have HC := hide KC
  have HJ := hide KJ
  have HM := hide KM
  obtain ⟨a_0, a_1, a_2, a_3, a_4⟩ := KA
  obtain ⟨b_0, b_1, b_2, b_3, b_4⟩ := KB
  obtain ⟨c_0, c_1, c_2, c_3, c_4⟩ := KC
  obtain ⟨j_0, j_1, j_2, j_3, j_4⟩ := KJ
  obtain ⟨m_0, m_1, m_2, m_3, m_4⟩ := KM
  go_wp2_with fail
  refine (leC a c false hp'.out _).mono ?_
  rintro e w9 ⟨rfl, hb⟩
  clear a_0 a_1 a_2 a_3 a_4 b_0 b_1 b_2 b_3 b_4 c_0 c_1 c_2 c_3 c_4 j_0 j_1 j_2 j_3 j_4 m_0 m_1 m_2 m_3 m_4
  have KA : Box w9 w.heap.size (a) := HA.out.later hb
  have KB : Box w9 (w.heap.size + 1) (b) := HB.out.later hb
  have KC : Box w9 (w.heap.size + 1 + 1) (c) := HC.out.later hb
  have KJ : Box w9 w5.heap.size (joinR a b) := HJ.out.later hb
  have KM : Box w9 w6.heap.size (meetR a b) := HM.out.later hb
  have G : Hid (Grow w w9) := hide (Grow.trans' G.out hb)
  clear hb HA HB HC HJ HM
  have HA := hide KA
  have HB := hide KB
  have HC := hide KC
  have HJ := hide KJ
  have HM := hide KM
  obtain ⟨a_0, a_1, a_2, a_3, a_4⟩ := KA
  obtain ⟨b_0, b_1, b_2, b_3, b_4⟩ := KB
  obtain ⟨c_0, c_1, c_2, c_3, c_4⟩ := KC
  obtain ⟨j_0, j_1, j_2, j_3, j_4⟩ := KJ
  obtain ⟨m_0, m_1, m_2, m_3, m_4⟩ := KM
  go_wp2_with fail
  refine (leC (meetR a b) a true hm1.out _).mono ?_
  rintro e w10 ⟨rfl, hb⟩
  clear a_0 a_1 a_2 a_3 a_4 b_0 b_1 b_2 b_3 b_4 c_0 c_1 c_2 c_3 c_4 j_0 j_1 j_2 j_3 j_4 m_0 m_1 m_2 m_3 m_4
  have KA : Box w10 w.heap.size (a) := HA.out.later hb
  have KB : Box w10 (w.heap.size + 1) (b) := HB.out.later hb
  have KC : Box w10 (w.heap.size + 1 + 1) (c) := HC.out.later hb
  have KJ : Box w10 w5.heap.size (joinR a b) := HJ.out.later hb
  have KM : Box w10 w6.heap.size (meetR a b) := HM.out.later hb
  have G : Hid (Grow w w10) := hide (Grow.trans' G.out hb)
  clear hb HA HB HC HJ HM
  have HA := hide KA
  have HB := hide KB
  have HC := hide KC
  have HJ := hide KJ
  have HM := hide KM
  obtain ⟨a_0, a_1, a_2, a_3, a_4⟩ := KA
  obtain ⟨b_0, b_1, b_2, b_3, b_4⟩ := KB
  obtain ⟨c_0, c_1, c_2, c_3, c_4⟩ := KC
  obtain ⟨j_0, j_1, j_2, j_3, j_4⟩ := KJ
  obtain ⟨m_0, m_1, m_2, m_3, m_4⟩ := KM
  go_wp2_with fail
  refine (leC (meetR a b) b true hm2.out _).mono ?_
  rintro e w11 ⟨rfl, hb⟩
  clear a_0 a_1 a_2 a_3 a_4 b_0 b_1 b_2 b_3 b_4 c_0 c_1 c_2 c_3 c_4 j_0 j_1 j_2 j_3 j_4 m_0 m_1 m_2 m_3 m_4
  have KA : Box w11 w.heap.size (a) := HA.out.later hb
  have KB : Box w11 (w.heap.size + 1) (b) := HB.out.later hb
  have KC : Box w11 (w.heap.size + 1 + 1) (c) := HC.out.later hb
  have KJ : Box w11 w5.heap.size (joinR a b) := HJ.out.later hb
  have KM : Box w11 w6.heap.size (meetR a b) := HM.out.later hb
  have G : Hid (Grow w w11) := hide (Grow.trans' G.out hb)
  clear hb HA HB HC HJ HM
  have HA := hide KA
  have HB := hide KB
  have HC := hide KC
  have HJ := hide KJ
  have HM := hide KM
  obtain ⟨a_0, a_1, a_2, a_3, a_4⟩ := KA
  obtain ⟨b_0, b_1, b_2, b_3, b_4⟩ := KB
  obtain ⟨c_0, c_1, c_2, c_3, c_4⟩ := KC
  obtain ⟨j_0, j_1, j_2, j_3, j_4⟩ := KJ
  obtain ⟨m_0, m_1, m_2, m_3, m_4⟩ := KM
  go_wp2_with fail
  refine (leC c a false hr'.out _).mono ?_
  rintro e w12 ⟨rfl, hb⟩
  clear a_0 a_1 a_2 a_3 a_4 b_0 b_1 b_2 b_3 b_4 c_0 c_1 c_2 c_3 c_4 j_0 j_1 j_2 j_3 j_4 m_0 m_1 m_2 m_3 m_4
  have KA : Box w12 w.heap.size (a) := HA.out.later hb
  have KB : Box w12 (w.heap.size + 1) (b) := HB.out.later hb
  have KC : Box w12 (w.heap.size + 1 + 1) (c) := HC.out.later hb
  have KJ : Box w12 w5.heap.size (joinR a b) := HJ.out.later hb
  have KM : Box w12 w6.heap.size (meetR a b) := HM.out.later hb
  have G : Hid (Grow w w12) := hide (Grow.trans' G.out hb)
  clear hb HA HB HC HJ HM
  have hE' := hE.out
  have HA := hide KA
  have HB := hide KB
  have HC := hide KC
  have HJ := hide KJ
  have HM := hide KM
  obtain ⟨a_0, a_1, a_2, a_3, a_4⟩ := KA
  obtain ⟨b_0, b_1, b_2, b_3, b_4⟩ := KB
  obtain ⟨c_0, c_1, c_2, c_3, c_4⟩ := KC
  obtain ⟨j_0, j_1, j_2, j_3, j_4⟩ := KJ
  obtain ⟨m_0, m_1, m_2, m_3, m_4⟩ := KM
  go_wp2_with fail
  refine (mayC (joinR a b) true hJ.out _).mono ?_
  rintro e w13 ⟨rfl, hb⟩
  clear a_0 a_1 a_2 a_3 a_4 b_0 b_1 b_2 b_3 b_4 c_0 c_1 c_2 c_3 c_4 j_0 j_1 j_2 j_3 j_4 m_0 m_1 m_2 m_3 m_4
  have KA : Box w13 w.heap.size (a) := HA.out.later hb
  have KB : Box w13 (w.heap.size + 1) (b) := HB.out.later hb
  have KC : Box w13 (w.heap.size + 1 + 1) (c) := HC.out.later hb
  have KJ : Box w13 w5.heap.size (joinR a b) := HJ.out.later hb
  have KM : Box w13 w6.heap.size (meetR a b) := HM.out.later hb
  have G : Hid (Grow w w13) := hide (Grow.trans' G.out hb)
  clear hb HA HB HC HJ HM
  have HA := hide KA
  have HB := hide KB
  have HC := hide KC
  have HJ := hide KJ
  have HM := hide KM
  obtain ⟨a_0, a_1, a_2, a_3, a_4⟩ := KA
  obtain ⟨b_0, b_1, b_2, b_3, b_4⟩ := KB
  obtain ⟨c_0, c_1, c_2, c_3, c_4⟩ := KC
  obtain ⟨j_0, j_1, j_2, j_3, j_4⟩ := KJ
  obtain ⟨m_0, m_1, m_2, m_3, m_4⟩ := KM
  go_wp2_with fail
  refine (mayC (meetR a b) true hM.out _).mono ?_
  rintro e w14 ⟨rfl, hb⟩
  clear a_0 a_1 a_2 a_3 a_4 b_0 b_1 b_2 b_3 b_4 c_0 c_1 c_2 c_3 c_4 j_0 j_1 j_2 j_3 j_4 m_0 m_1 m_2 m_3 m_4
  have KA : Box w14 w.heap.size (a) := HA.out.later hb
  have KB : Box w14 (w.heap.size + 1) (b) := HB.out.later hb
  have KC : Box w14 (w.heap.size + 1 + 1) (c) := HC.out.later hb
  have KJ : Box w14 w5.heap.size (joinR a b) := HJ.out.later hb
  have KM : Box w14 w6.heap.size (meetR a b) := HM.out.later hb
  have G : Hid (Grow w w14) := hide (Grow.trans' G.out hb)
  clear hb HA HB HC HJ HM
  obtain ⟨a_0, a_1, a_2, a_3, a_4⟩ := KA
  obtain ⟨b_0, b_1, b_2, b_3, b_4⟩ := KB
  obtain ⟨c_0, c_1, c_2, c_3, c_4⟩ := KC
  obtain ⟨j_0, j_1, j_2, j_3, j_4⟩ := KJ
  obtain ⟨m_0, m_1, m_2, m_3, m_4⟩ := KM
  go_wp2
  go_ret
  exact ⟨rfl, G.out⟩

set_option maxHeartbeats 8000000 in
theorem TsBounds_01 (a b c : Tm) (w : World) (hA : mayB a = true) (hB : mayB b = true) (hC : mayB c = true) (hd : a.d = b.d) (hp : leB a c = false) (hr : leB c a = true) (hs : leB c b = false) :
    Calls Try.prog 7 #[.agg #[.int .i64 a.e, .int .i64 a.d, .int .i64 a.x, .int .i64 a.y, .int .i64 a.z], .agg #[.int .i64 b.e, .int .i64 b.d, .int .i64 b.x, .int .i64 b.y, .int .i64 b.z], .agg #[.int .i64 c.e, .int .i64 c.d, .int .i64 c.x, .int .i64 c.y, .int .i64 c.z]] w fun e w' => e = .returned (.bool true) ∧ Below w.heap.size w w' := by
  have hE := hide (err_yes hA hd)
  have hj1 := hide (le_join_left (c := c) hA hB hd)
  have hj2 := hide (le_join_right (c := c) hA hB hd)
  have hm1 := hide (meet_le_left (c := c) hA hB hd)
  have hm2 := hide (meet_le_right (c := c) hA hB hd)
  have hJ := hide (may_join (c := c) hA hB hd)
  have hM := hide (may_meet (c := c) hA hB hd)
  have hA' := hide (hA)
  have hB' := hide (hB)
  have hC' := hide (hC)
  have hp' := hide (hp)
  have hr' := hide (hr)
  have hs' := hide (hs)
  have hne := hide (show (a.d != b.d) = false by simp [hd])
  clear hA hB hC hd hp hr hs
  have KA : Box (((w.alloc (.cells #[.int .i64 a.e, .int .i64 a.d, .int .i64 a.x, .int .i64 a.y, .int .i64 a.z] 25)).alloc (.cells #[.int .i64 b.e, .int .i64 b.d, .int .i64 b.x, .int .i64 b.y, .int .i64 b.z] 25)).alloc (.cells #[.int .i64 c.e, .int .i64 c.d, .int .i64 c.x, .int .i64 c.y, .int .i64 c.z] 25)) w.heap.size a := ((Box.new w a).later (Grow.alloc' _ _)).later (Grow.alloc' _ _)
  have KB : Box (((w.alloc (.cells #[.int .i64 a.e, .int .i64 a.d, .int .i64 a.x, .int .i64 a.y, .int .i64 a.z] 25)).alloc (.cells #[.int .i64 b.e, .int .i64 b.d, .int .i64 b.x, .int .i64 b.y, .int .i64 b.z] 25)).alloc (.cells #[.int .i64 c.e, .int .i64 c.d, .int .i64 c.x, .int .i64 c.y, .int .i64 c.z] 25)) (w.heap.size + 1) b := Box.later (Grow.alloc' _ _) (by simpa using Box.new (w.alloc (.cells #[.int .i64 a.e, .int .i64 a.d, .int .i64 a.x, .int .i64 a.y, .int .i64 a.z] 25)) b)
  have KC : Box (((w.alloc (.cells #[.int .i64 a.e, .int .i64 a.d, .int .i64 a.x, .int .i64 a.y, .int .i64 a.z] 25)).alloc (.cells #[.int .i64 b.e, .int .i64 b.d, .int .i64 b.x, .int .i64 b.y, .int .i64 b.z] 25)).alloc (.cells #[.int .i64 c.e, .int .i64 c.d, .int .i64 c.x, .int .i64 c.y, .int .i64 c.z] 25)) (w.heap.size + 1 + 1) c := by simpa using Box.new ((w.alloc (.cells #[.int .i64 a.e, .int .i64 a.d, .int .i64 a.x, .int .i64 a.y, .int .i64 a.z] 25)).alloc (.cells #[.int .i64 b.e, .int .i64 b.d, .int .i64 b.x, .int .i64 b.y, .int .i64 b.z] 25)) c
  have G : Hid (Grow w (((w.alloc (.cells #[.int .i64 a.e, .int .i64 a.d, .int .i64 a.x, .int .i64 a.y, .int .i64 a.z] 25)).alloc (.cells #[.int .i64 b.e, .int .i64 b.d, .int .i64 b.x, .int .i64 b.y, .int .i64 b.z] 25)).alloc (.cells #[.int .i64 c.e, .int .i64 c.d, .int .i64 c.x, .int .i64 c.y, .int .i64 c.z] 25))) := hide (((Grow.alloc' _ _).trans' (Grow.alloc' _ _)).trans' (Grow.alloc' _ _))
  go_enter Try.func7, Try.ntmps7
  have HA := hide KA
  have HB := hide KB
  have HC := hide KC
  obtain ⟨a_0, a_1, a_2, a_3, a_4⟩ := KA
  obtain ⟨b_0, b_1, b_2, b_3, b_4⟩ := KB
  obtain ⟨c_0, c_1, c_2, c_3, c_4⟩ := KC
  go_wp2_with fail
  refine (shown_any _).mono ?_
  rintro e w1 ⟨rfl, hb⟩
  clear a_0 a_1 a_2 a_3 a_4 b_0 b_1 b_2 b_3 b_4 c_0 c_1 c_2 c_3 c_4
  have KA : Box w1 w.heap.size (a) := HA.out.later hb
  have KB : Box w1 (w.heap.size + 1) (b) := HB.out.later hb
  have KC : Box w1 (w.heap.size + 1 + 1) (c) := HC.out.later hb
  have G : Hid (Grow w w1) := hide (Grow.trans' G.out hb)
  clear hb HA HB HC
  have HA := hide KA
  have HB := hide KB
  have HC := hide KC
  obtain ⟨a_0, a_1, a_2, a_3, a_4⟩ := KA
  obtain ⟨b_0, b_1, b_2, b_3, b_4⟩ := KB
  obtain ⟨c_0, c_1, c_2, c_3, c_4⟩ := KC
  go_wp2_with fail
  refine (mayC a true hA'.out _).mono ?_
  rintro e w2 ⟨rfl, hb⟩
  clear a_0 a_1 a_2 a_3 a_4 b_0 b_1 b_2 b_3 b_4 c_0 c_1 c_2 c_3 c_4
  have KA : Box w2 w.heap.size (a) := HA.out.later hb
  have KB : Box w2 (w.heap.size + 1) (b) := HB.out.later hb
  have KC : Box w2 (w.heap.size + 1 + 1) (c) := HC.out.later hb
  have G : Hid (Grow w w2) := hide (Grow.trans' G.out hb)
  clear hb HA HB HC
  have HA := hide KA
  have HB := hide KB
  have HC := hide KC
  obtain ⟨a_0, a_1, a_2, a_3, a_4⟩ := KA
  obtain ⟨b_0, b_1, b_2, b_3, b_4⟩ := KB
  obtain ⟨c_0, c_1, c_2, c_3, c_4⟩ := KC
  go_wp2_with fail
  refine (mayC b true hB'.out _).mono ?_
  rintro e w3 ⟨rfl, hb⟩
  clear a_0 a_1 a_2 a_3 a_4 b_0 b_1 b_2 b_3 b_4 c_0 c_1 c_2 c_3 c_4
  have KA : Box w3 w.heap.size (a) := HA.out.later hb
  have KB : Box w3 (w.heap.size + 1) (b) := HB.out.later hb
  have KC : Box w3 (w.heap.size + 1 + 1) (c) := HC.out.later hb
  have G : Hid (Grow w w3) := hide (Grow.trans' G.out hb)
  clear hb HA HB HC
  have HA := hide KA
  have HB := hide KB
  have HC := hide KC
  obtain ⟨a_0, a_1, a_2, a_3, a_4⟩ := KA
  obtain ⟨b_0, b_1, b_2, b_3, b_4⟩ := KB
  obtain ⟨c_0, c_1, c_2, c_3, c_4⟩ := KC
  go_wp2_with fail
  refine (mayC c true hC'.out _).mono ?_
  rintro e w4 ⟨rfl, hb⟩
  clear a_0 a_1 a_2 a_3 a_4 b_0 b_1 b_2 b_3 b_4 c_0 c_1 c_2 c_3 c_4
  have KA : Box w4 w.heap.size (a) := HA.out.later hb
  have KB : Box w4 (w.heap.size + 1) (b) := HB.out.later hb
  have KC : Box w4 (w.heap.size + 1 + 1) (c) := HC.out.later hb
  have G : Hid (Grow w w4) := hide (Grow.trans' G.out hb)
  clear hb HA HB HC
  have HA := hide KA
  have HB := hide KB
  have HC := hide KC
  obtain ⟨a_0, a_1, a_2, a_3, a_4⟩ := KA
  obtain ⟨b_0, b_1, b_2, b_3, b_4⟩ := KB
  obtain ⟨c_0, c_1, c_2, c_3, c_4⟩ := KC
  go_wp2_with fail
  refine (join_any a b _).mono ?_
  rintro e w5 ⟨rfl, hb⟩
  clear a_0 a_1 a_2 a_3 a_4 b_0 b_1 b_2 b_3 b_4 c_0 c_1 c_2 c_3 c_4
  have KA : Box (w5.alloc (.cells #[.int .i64 (joinR a b).e, .int .i64 (joinR a b).d, .int .i64 (joinR a b).x, .int .i64 (joinR a b).y, .int .i64 (joinR a b).z] 25)) w.heap.size (a) := (HA.out.later hb).later (Grow.alloc' _ _)
  have KB : Box (w5.alloc (.cells #[.int .i64 (joinR a b).e, .int .i64 (joinR a b).d, .int .i64 (joinR a b).x, .int .i64 (joinR a b).y, .int .i64 (joinR a b).z] 25)) (w.heap.size + 1) (b) := (HB.out.later hb).later (Grow.alloc' _ _)
  have KC : Box (w5.alloc (.cells #[.int .i64 (joinR a b).e, .int .i64 (joinR a b).d, .int .i64 (joinR a b).x, .int .i64 (joinR a b).y, .int .i64 (joinR a b).z] 25)) (w.heap.size + 1 + 1) (c) := (HC.out.later hb).later (Grow.alloc' _ _)
  have KJ : Box (w5.alloc (.cells #[.int .i64 (joinR a b).e, .int .i64 (joinR a b).d, .int .i64 (joinR a b).x, .int .i64 (joinR a b).y, .int .i64 (joinR a b).z] 25)) w5.heap.size (joinR a b) := Box.new _ _
  have G : Hid (Grow w (w5.alloc (.cells #[.int .i64 (joinR a b).e, .int .i64 (joinR a b).d, .int .i64 (joinR a b).x, .int .i64 (joinR a b).y, .int .i64 (joinR a b).z] 25))) := hide (Grow.trans' (Grow.trans' G.out hb) (Grow.alloc' _ _))
  clear hb HA HB HC
  have HA := hide KA
  have HB := hide KB
  have HC := hide KC
  have HJ := hide KJ
  obtain ⟨a_0, a_1, a_2, a_3, a_4⟩ := KA
  obtain ⟨b_0, b_1, b_2, b_3, b_4⟩ := KB
  obtain ⟨c_0, c_1, c_2, c_3, c_4⟩ := KC
  obtain ⟨j_0, j_1, j_2, j_3, j_4⟩ := KJ
  go_wp2_with fail
  refine (meet_any a b _).mono ?_
  rintro e w6 ⟨rfl, hb⟩
  clear a_0 a_1 a_2 a_3 a_4 b_0 b_1 b_2 b_3 b_4 c_0 c_1 c_2 c_3 c_4 j_0 j_1 j_2 j_3 j_4
  have KA : Box (w6.alloc (.cells #[.int .i64 (meetR a b).e, .int .i64 (meetR a b).d, .int .i64 (meetR a b).x, .int .i64 (meetR a b).y, .int .i64 (meetR a b).z] 25)) w.heap.size (a) := (HA.out.later hb).later (Grow.alloc' _ _)
  have KB : Box (w6.alloc (.cells #[.int .i64 (meetR a b).e, .int .i64 (meetR a b).d, .int .i64 (meetR a b).x, .int .i64 (meetR a b).y, .int .i64 (meetR a b).z] 25)) (w.heap.size + 1) (b) := (HB.out.later hb).later (Grow.alloc' _ _)
  have KC : Box (w6.alloc (.cells #[.int .i64 (meetR a b).e, .int .i64 (meetR a b).d, .int .i64 (meetR a b).x, .int .i64 (meetR a b).y, .int .i64 (meetR a b).z] 25)) (w.heap.size + 1 + 1) (c) := (HC.out.later hb).later (Grow.alloc' _ _)
  have KJ : Box (w6.alloc (.cells #[.int .i64 (meetR a b).e, .int .i64 (meetR a b).d, .int .i64 (meetR a b).x, .int .i64 (meetR a b).y, .int .i64 (meetR a b).z] 25)) w5.heap.size (joinR a b) := (HJ.out.later hb).later (Grow.alloc' _ _)
  have KM : Box (w6.alloc (.cells #[.int .i64 (meetR a b).e, .int .i64 (meetR a b).d, .int .i64 (meetR a b).x, .int .i64 (meetR a b).y, .int .i64 (meetR a b).z] 25)) w6.heap.size (meetR a b) := Box.new _ _
  have G : Hid (Grow w (w6.alloc (.cells #[.int .i64 (meetR a b).e, .int .i64 (meetR a b).d, .int .i64 (meetR a b).x, .int .i64 (meetR a b).y, .int .i64 (meetR a b).z] 25))) := hide (Grow.trans' (Grow.trans' G.out hb) (Grow.alloc' _ _))
  clear hb HA HB HC HJ
  have hne' := hne.out
  have HA := hide KA
  have HB := hide KB
  have HC := hide KC
  have HJ := hide KJ
  have HM := hide KM
  obtain ⟨a_0, a_1, a_2, a_3, a_4⟩ := KA
  obtain ⟨b_0, b_1, b_2, b_3, b_4⟩ := KB
  obtain ⟨c_0, c_1, c_2, c_3, c_4⟩ := KC
  obtain ⟨j_0, j_1, j_2, j_3, j_4⟩ := KJ
  obtain ⟨m_0, m_1, m_2, m_3, m_4⟩ := KM
  go_wp2_with fail
  refine (leC a (joinR a b) true hj1.out _).mono ?_
  rintro e w7 ⟨rfl, hb⟩
  clear a_0 a_1 a_2 a_3 a_4 b_0 b_1 b_2 b_3 b_4 c_0 c_1 c_2 c_3 c_4 j_0 j_1 j_2 j_3 j_4 m_0 m_1 m_2 m_3 m_4
  have KA : Box w7 w.heap.size (a) := HA.out.later hb
  have KB : Box w7 (w.heap.size + 1) (b) := HB.out.later hb
  have KC : Box w7 (w.heap.size + 1 + 1) (c) := HC.out.later hb
  have KJ : Box w7 w5.heap.size (joinR a b) := HJ.out.later hb
  have KM : Box w7 w6.heap.size (meetR a b) := HM.out.later hb
  have G : Hid (Grow w w7) := hide (Grow.trans' G.out hb)
  clear hb HA HB HC HJ HM
  have HA := hide KA
  have HB := hide KB
  have HC := hide KC
  have HJ := hide KJ
  have HM := hide KM
  obtain ⟨a_0, a_1, a_2, a_3, a_4⟩ := KA
  obtain ⟨b_0, b_1, b_2, b_3, b_4⟩ := KB
  obtain ⟨c_0, c_1, c_2, c_3, c_4⟩ := KC
  obtain ⟨j_0, j_1, j_2, j_3, j_4⟩ := KJ
  obtain ⟨m_0, m_1, m_2, m_3, m_4⟩ := KM
  go_wp2_with fail
  refine (leC b (joinR a b) true hj2.out _).mono ?_
  rintro e w8 ⟨rfl, hb⟩
  clear a_0 a_1 a_2 a_3 a_4 b_0 b_1 b_2 b_3 b_4 c_0 c_1 c_2 c_3 c_4 j_0 j_1 j_2 j_3 j_4 m_0 m_1 m_2 m_3 m_4
  have KA : Box w8 w.heap.size (a) := HA.out.later hb
  have KB : Box w8 (w.heap.size + 1) (b) := HB.out.later hb
  have KC : Box w8 (w.heap.size + 1 + 1) (c) := HC.out.later hb
  have KJ : Box w8 w5.heap.size (joinR a b) := HJ.out.later hb
  have KM : Box w8 w6.heap.size (meetR a b) := HM.out.later hb
  have G : Hid (Grow w w8) := hide (Grow.trans' G.out hb)
  clear hb HA HB HC HJ HM
  have HA := hide KA
  have HB := hide KB
  have HC := hide KC
  have HJ := hide KJ
  have HM := hide KM
  obtain ⟨a_0, a_1, a_2, a_3, a_4⟩ := KA
  obtain ⟨b_0, b_1, b_2, b_3, b_4⟩ := KB
  obtain ⟨c_0, c_1, c_2, c_3, c_4⟩ := KC
  obtain ⟨j_0, j_1, j_2, j_3, j_4⟩ := KJ
  obtain ⟨m_0, m_1, m_2, m_3, m_4⟩ := KM
  go_wp2_with fail
  refine (leC a c false hp'.out _).mono ?_
  rintro e w9 ⟨rfl, hb⟩
  clear a_0 a_1 a_2 a_3 a_4 b_0 b_1 b_2 b_3 b_4 c_0 c_1 c_2 c_3 c_4 j_0 j_1 j_2 j_3 j_4 m_0 m_1 m_2 m_3 m_4
  have KA : Box w9 w.heap.size (a) := HA.out.later hb
  have KB : Box w9 (w.heap.size + 1) (b) := HB.out.later hb
  have KC : Box w9 (w.heap.size + 1 + 1) (c) := HC.out.later hb
  have KJ : Box w9 w5.heap.size (joinR a b) := HJ.out.later hb
  have KM : Box w9 w6.heap.size (meetR a b) := HM.out.later hb
  have G : Hid (Grow w w9) := hide (Grow.trans' G.out hb)
  clear hb HA HB HC HJ HM
  have HA := hide KA
  have HB := hide KB
  have HC := hide KC
  have HJ := hide KJ
  have HM := hide KM
  obtain ⟨a_0, a_1, a_2, a_3, a_4⟩ := KA
  obtain ⟨b_0, b_1, b_2, b_3, b_4⟩ := KB
  obtain ⟨c_0, c_1, c_2, c_3, c_4⟩ := KC
  obtain ⟨j_0, j_1, j_2, j_3, j_4⟩ := KJ
  obtain ⟨m_0, m_1, m_2, m_3, m_4⟩ := KM
  go_wp2_with fail
  refine (leC (meetR a b) a true hm1.out _).mono ?_
  rintro e w10 ⟨rfl, hb⟩
  clear a_0 a_1 a_2 a_3 a_4 b_0 b_1 b_2 b_3 b_4 c_0 c_1 c_2 c_3 c_4 j_0 j_1 j_2 j_3 j_4 m_0 m_1 m_2 m_3 m_4
  have KA : Box w10 w.heap.size (a) := HA.out.later hb
  have KB : Box w10 (w.heap.size + 1) (b) := HB.out.later hb
  have KC : Box w10 (w.heap.size + 1 + 1) (c) := HC.out.later hb
  have KJ : Box w10 w5.heap.size (joinR a b) := HJ.out.later hb
  have KM : Box w10 w6.heap.size (meetR a b) := HM.out.later hb
  have G : Hid (Grow w w10) := hide (Grow.trans' G.out hb)
  clear hb HA HB HC HJ HM
  have HA := hide KA
  have HB := hide KB
  have HC := hide KC
  have HJ := hide KJ
  have HM := hide KM
  obtain ⟨a_0, a_1, a_2, a_3, a_4⟩ := KA
  obtain ⟨b_0, b_1, b_2, b_3, b_4⟩ := KB
  obtain ⟨c_0, c_1, c_2, c_3, c_4⟩ := KC
  obtain ⟨j_0, j_1, j_2, j_3, j_4⟩ := KJ
  obtain ⟨m_0, m_1, m_2, m_3, m_4⟩ := KM
  go_wp2_with fail
  refine (leC (meetR a b) b true hm2.out _).mono ?_
  rintro e w11 ⟨rfl, hb⟩
  clear a_0 a_1 a_2 a_3 a_4 b_0 b_1 b_2 b_3 b_4 c_0 c_1 c_2 c_3 c_4 j_0 j_1 j_2 j_3 j_4 m_0 m_1 m_2 m_3 m_4
  have KA : Box w11 w.heap.size (a) := HA.out.later hb
  have KB : Box w11 (w.heap.size + 1) (b) := HB.out.later hb
  have KC : Box w11 (w.heap.size + 1 + 1) (c) := HC.out.later hb
  have KJ : Box w11 w5.heap.size (joinR a b) := HJ.out.later hb
  have KM : Box w11 w6.heap.size (meetR a b) := HM.out.later hb
  have G : Hid (Grow w w11) := hide (Grow.trans' G.out hb)
  clear hb HA HB HC HJ HM
  have HA := hide KA
  have HB := hide KB
  have HC := hide KC
  have HJ := hide KJ
  have HM := hide KM
  obtain ⟨a_0, a_1, a_2, a_3, a_4⟩ := KA
  obtain ⟨b_0, b_1, b_2, b_3, b_4⟩ := KB
  obtain ⟨c_0, c_1, c_2, c_3, c_4⟩ := KC
  obtain ⟨j_0, j_1, j_2, j_3, j_4⟩ := KJ
  obtain ⟨m_0, m_1, m_2, m_3, m_4⟩ := KM
  go_wp2_with fail
  refine (leC c a true hr'.out _).mono ?_
  rintro e w12 ⟨rfl, hb⟩
  clear a_0 a_1 a_2 a_3 a_4 b_0 b_1 b_2 b_3 b_4 c_0 c_1 c_2 c_3 c_4 j_0 j_1 j_2 j_3 j_4 m_0 m_1 m_2 m_3 m_4
  have KA : Box w12 w.heap.size (a) := HA.out.later hb
  have KB : Box w12 (w.heap.size + 1) (b) := HB.out.later hb
  have KC : Box w12 (w.heap.size + 1 + 1) (c) := HC.out.later hb
  have KJ : Box w12 w5.heap.size (joinR a b) := HJ.out.later hb
  have KM : Box w12 w6.heap.size (meetR a b) := HM.out.later hb
  have G : Hid (Grow w w12) := hide (Grow.trans' G.out hb)
  clear hb HA HB HC HJ HM
  have HA := hide KA
  have HB := hide KB
  have HC := hide KC
  have HJ := hide KJ
  have HM := hide KM
  obtain ⟨a_0, a_1, a_2, a_3, a_4⟩ := KA
  obtain ⟨b_0, b_1, b_2, b_3, b_4⟩ := KB
  obtain ⟨c_0, c_1, c_2, c_3, c_4⟩ := KC
  obtain ⟨j_0, j_1, j_2, j_3, j_4⟩ := KJ
  obtain ⟨m_0, m_1, m_2, m_3, m_4⟩ := KM
  go_wp2_with fail
  refine (leC c b false hs'.out _).mono ?_
  rintro e w13 ⟨rfl, hb⟩
  clear a_0 a_1 a_2 a_3 a_4 b_0 b_1 b_2 b_3 b_4 c_0 c_1 c_2 c_3 c_4 j_0 j_1 j_2 j_3 j_4 m_0 m_1 m_2 m_3 m_4
  have KA : Box w13 w.heap.size (a) := HA.out.later hb
  have KB : Box w13 (w.heap.size + 1) (b) := HB.out.later hb
  have KC : Box w13 (w.heap.size + 1 + 1) (c) := HC.out.later hb
  have KJ : Box w13 w5.heap.size (joinR a b) := HJ.out.later hb
  have KM : Box w13 w6.heap.size (meetR a b) := HM.out.later hb
  have G : Hid (Grow w w13) := hide (Grow.trans' G.out hb)
  clear hb HA HB HC HJ HM
  have hE' := hE.out
  have HA := hide KA
  have HB := hide KB
  have HC := hide KC
  have HJ := hide KJ
  have HM := hide KM
  obtain ⟨a_0, a_1, a_2, a_3, a_4⟩ := KA
  obtain ⟨b_0, b_1, b_2, b_3, b_4⟩ := KB
  obtain ⟨c_0, c_1, c_2, c_3, c_4⟩ := KC
  obtain ⟨j_0, j_1, j_2, j_3, j_4⟩ := KJ
  obtain ⟨m_0, m_1, m_2, m_3, m_4⟩ := KM
  go_wp2_with fail
  refine (mayC (joinR a b) true hJ.out _).mono ?_
  rintro e w14 ⟨rfl, hb⟩
  clear a_0 a_1 a_2 a_3 a_4 b_0 b_1 b_2 b_3 b_4 c_0 c_1 c_2 c_3 c_4 j_0 j_1 j_2 j_3 j_4 m_0 m_1 m_2 m_3 m_4
  have KA : Box w14 w.heap.size (a) := HA.out.later hb
  have KB : Box w14 (w.heap.size + 1) (b) := HB.out.later hb
  have KC : Box w14 (w.heap.size + 1 + 1) (c) := HC.out.later hb
  have KJ : Box w14 w5.heap.size (joinR a b) := HJ.out.later hb
  have KM : Box w14 w6.heap.size (meetR a b) := HM.out.later hb
  have G : Hid (Grow w w14) := hide (Grow.trans' G.out hb)
  clear hb HA HB HC HJ HM
  have HA := hide KA
  have HB := hide KB
  have HC := hide KC
  have HJ := hide KJ
  have HM := hide KM
  obtain ⟨a_0, a_1, a_2, a_3, a_4⟩ := KA
  obtain ⟨b_0, b_1, b_2, b_3, b_4⟩ := KB
  obtain ⟨c_0, c_1, c_2, c_3, c_4⟩ := KC
  obtain ⟨j_0, j_1, j_2, j_3, j_4⟩ := KJ
  obtain ⟨m_0, m_1, m_2, m_3, m_4⟩ := KM
  go_wp2_with fail
  refine (mayC (meetR a b) true hM.out _).mono ?_
  rintro e w15 ⟨rfl, hb⟩
  clear a_0 a_1 a_2 a_3 a_4 b_0 b_1 b_2 b_3 b_4 c_0 c_1 c_2 c_3 c_4 j_0 j_1 j_2 j_3 j_4 m_0 m_1 m_2 m_3 m_4
  have KA : Box w15 w.heap.size (a) := HA.out.later hb
  have KB : Box w15 (w.heap.size + 1) (b) := HB.out.later hb
  have KC : Box w15 (w.heap.size + 1 + 1) (c) := HC.out.later hb
  have KJ : Box w15 w5.heap.size (joinR a b) := HJ.out.later hb
  have KM : Box w15 w6.heap.size (meetR a b) := HM.out.later hb
  have G : Hid (Grow w w15) := hide (Grow.trans' G.out hb)
  clear hb HA HB HC HJ HM
  obtain ⟨a_0, a_1, a_2, a_3, a_4⟩ := KA
  obtain ⟨b_0, b_1, b_2, b_3, b_4⟩ := KB
  obtain ⟨c_0, c_1, c_2, c_3, c_4⟩ := KC
  obtain ⟨j_0, j_1, j_2, j_3, j_4⟩ := KJ
  obtain ⟨m_0, m_1, m_2, m_3, m_4⟩ := KM
  go_wp2
  go_ret
  exact ⟨rfl, G.out⟩

set_option maxHeartbeats 8000000 in
theorem TsBounds_02 (a b c : Tm) (w : World) (hA : mayB a = true) (hB : mayB b = true) (hC : mayB c = true) (hd : a.d = b.d) (hp : leB a c = false) (hr : leB c a = true) (hs : leB c b = true) :
    Calls Try.prog 7 #[.agg #[.int .i64 a.e, .int .i64 a.d, .int .i64 a.x, .int .i64 a.y, .int .i64 a.z], .agg #[.int .i64 b.e, .int .i64 b.d, .int .i64 b.x, .int .i64 b.y, .int .i64 b.z], .agg #[.int .i64 c.e, .int .i64 c.d, .int .i64 c.x, .int .i64 c.y, .int .i64 c.z]] w fun e w' => e = .returned (.bool true) ∧ Below w.heap.size w w' := by
  have hE := hide (err_yes hA hd)
  have hj1 := hide (le_join_left (c := c) hA hB hd)
  have hj2 := hide (le_join_right (c := c) hA hB hd)
  have hm1 := hide (meet_le_left (c := c) hA hB hd)
  have hm2 := hide (meet_le_right (c := c) hA hB hd)
  have hJ := hide (may_join (c := c) hA hB hd)
  have hM := hide (may_meet (c := c) hA hB hd)
  have hmg := hide (meet_greatest hA hB hd hr hs)
  have hA' := hide (hA)
  have hB' := hide (hB)
  have hC' := hide (hC)
  have hp' := hide (hp)
  have hr' := hide (hr)
  have hs' := hide (hs)
  have hne := hide (show (a.d != b.d) = false by simp [hd])
  clear hA hB hC hd hp hr hs
  have KA : Box (((w.alloc (.cells #[.int .i64 a.e, .int .i64 a.d, .int .i64 a.x, .int .i64 a.y, .int .i64 a.z] 25)).alloc (.cells #[.int .i64 b.e, .int .i64 b.d, .int .i64 b.x, .int .i64 b.y, .int .i64 b.z] 25)).alloc (.cells #[.int .i64 c.e, .int .i64 c.d, .int .i64 c.x, .int .i64 c.y, .int .i64 c.z] 25)) w.heap.size a := ((Box.new w a).later (Grow.alloc' _ _)).later (Grow.alloc' _ _)
  have KB : Box (((w.alloc (.cells #[.int .i64 a.e, .int .i64 a.d, .int .i64 a.x, .int .i64 a.y, .int .i64 a.z] 25)).alloc (.cells #[.int .i64 b.e, .int .i64 b.d, .int .i64 b.x, .int .i64 b.y, .int .i64 b.z] 25)).alloc (.cells #[.int .i64 c.e, .int .i64 c.d, .int .i64 c.x, .int .i64 c.y, .int .i64 c.z] 25)) (w.heap.size + 1) b := Box.later (Grow.alloc' _ _) (by simpa using Box.new (w.alloc (.cells #[.int .i64 a.e, .int .i64 a.d, .int .i64 a.x, .int .i64 a.y, .int .i64 a.z] 25)) b)
  have KC : Box (((w.alloc (.cells #[.int .i64 a.e, .int .i64 a.d, .int .i64 a.x, .int .i64 a.y, .int .i64 a.z] 25)).alloc (.cells #[.int .i64 b.e, .int .i64 b.d, .int .i64 b.x, .int .i64 b.y, .int .i64 b.z] 25)).alloc (.cells #[.int .i64 c.e, .int .i64 c.d, .int .i64 c.x, .int .i64 c.y, .int .i64 c.z] 25)) (w.heap.size + 1 + 1) c := by simpa using Box.new ((w.alloc (.cells #[.int .i64 a.e, .int .i64 a.d, .int .i64 a.x, .int .i64 a.y, .int .i64 a.z] 25)).alloc (.cells #[.int .i64 b.e, .int .i64 b.d, .int .i64 b.x, .int .i64 b.y, .int .i64 b.z] 25)) c
  have G : Hid (Grow w (((w.alloc (.cells #[.int .i64 a.e, .int .i64 a.d, .int .i64 a.x, .int .i64 a.y, .int .i64 a.z] 25)).alloc (.cells #[.int .i64 b.e, .int .i64 b.d, .int .i64 b.x, .int .i64 b.y, .int .i64 b.z] 25)).alloc (.cells #[.int .i64 c.e, .int .i64 c.d, .int .i64 c.x, .int .i64 c.y, .int .i64 c.z] 25))) := hide (((Grow.alloc' _ _).trans' (Grow.alloc' _ _)).trans' (Grow.alloc' _ _))
  go_enter Try.func7, Try.ntmps7
  have HA := hide KA
  have HB := hide KB
  have HC := hide KC
  obtain ⟨a_0, a_1, a_2, a_3, a_4⟩ := KA
  obtain ⟨b_0, b_1, b_2, b_3, b_4⟩ := KB
  obtain ⟨c_0, c_1, c_2, c_3, c_4⟩ := KC
  go_wp2_with fail
  refine (shown_any _).mono ?_
  rintro e w1 ⟨rfl, hb⟩
  clear a_0 a_1 a_2 a_3 a_4 b_0 b_1 b_2 b_3 b_4 c_0 c_1 c_2 c_3 c_4
  have KA : Box w1 w.heap.size (a) := HA.out.later hb
  have KB : Box w1 (w.heap.size + 1) (b) := HB.out.later hb
  have KC : Box w1 (w.heap.size + 1 + 1) (c) := HC.out.later hb
  have G : Hid (Grow w w1) := hide (Grow.trans' G.out hb)
  clear hb HA HB HC
  have HA := hide KA
  have HB := hide KB
  have HC := hide KC
  obtain ⟨a_0, a_1, a_2, a_3, a_4⟩ := KA
  obtain ⟨b_0, b_1, b_2, b_3, b_4⟩ := KB
  obtain ⟨c_0, c_1, c_2, c_3, c_4⟩ := KC
  go_wp2_with fail
  refine (mayC a true hA'.out _).mono ?_
  rintro e w2 ⟨rfl, hb⟩
  clear a_0 a_1 a_2 a_3 a_4 b_0 b_1 b_2 b_3 b_4 c_0 c_1 c_2 c_3 c_4
  have KA : Box w2 w.heap.size (a) := HA.out.later hb
  have KB : Box w2 (w.heap.size + 1) (b) := HB.out.later hb
  have KC : Box w2 (w.heap.size + 1 + 1) (c) := HC.out.later hb
  have G : Hid (Grow w w2) := hide (Grow.trans' G.out hb)
  clear hb HA HB HC
  have HA := hide KA
  have HB := hide KB
  have HC := hide KC
  obtain ⟨a_0, a_1, a_2, a_3, a_4⟩ := KA
  obtain ⟨b_0, b_1, b_2, b_3, b_4⟩ := KB
  obtain ⟨c_0, c_1, c_2, c_3, c_4⟩ := KC
  go_wp2_with fail
  refine (mayC b true hB'.out _).mono ?_
  rintro e w3 ⟨rfl, hb⟩
  clear a_0 a_1 a_2 a_3 a_4 b_0 b_1 b_2 b_3 b_4 c_0 c_1 c_2 c_3 c_4
  have KA : Box w3 w.heap.size (a) := HA.out.later hb
  have KB : Box w3 (w.heap.size + 1) (b) := HB.out.later hb
  have KC : Box w3 (w.heap.size + 1 + 1) (c) := HC.out.later hb
  have G : Hid (Grow w w3) := hide (Grow.trans' G.out hb)
  clear hb HA HB HC
  have HA := hide KA
  have HB := hide KB
  have HC := hide KC
  obtain ⟨a_0, a_1, a_2, a_3, a_4⟩ := KA
  obtain ⟨b_0, b_1, b_2, b_3, b_4⟩ := KB
  obtain ⟨c_0, c_1, c_2, c_3, c_4⟩ := KC
  go_wp2_with fail
  refine (mayC c true hC'.out _).mono ?_
  rintro e w4 ⟨rfl, hb⟩
  clear a_0 a_1 a_2 a_3 a_4 b_0 b_1 b_2 b_3 b_4 c_0 c_1 c_2 c_3 c_4
  have KA : Box w4 w.heap.size (a) := HA.out.later hb
  have KB : Box w4 (w.heap.size + 1) (b) := HB.out.later hb
  have KC : Box w4 (w.heap.size + 1 + 1) (c) := HC.out.later hb
  have G : Hid (Grow w w4) := hide (Grow.trans' G.out hb)
  clear hb HA HB HC
  have HA := hide KA
  have HB := hide KB
  have HC := hide KC
  obtain ⟨a_0, a_1, a_2, a_3, a_4⟩ := KA
  obtain ⟨b_0, b_1, b_2, b_3, b_4⟩ := KB
  obtain ⟨c_0, c_1, c_2, c_3, c_4⟩ := KC
  go_wp2_with fail
  refine (join_any a b _).mono ?_
  rintro e w5 ⟨rfl, hb⟩
  clear a_0 a_1 a_2 a_3 a_4 b_0 b_1 b_2 b_3 b_4 c_0 c_1 c_2 c_3 c_4
  have KA : Box (w5.alloc (.cells #[.int .i64 (joinR a b).e, .int .i64 (joinR a b).d, .int .i64 (joinR a b).x, .int .i64 (joinR a b).y, .int .i64 (joinR a b).z] 25)) w.heap.size (a) := (HA.out.later hb).later (Grow.alloc' _ _)
  have KB : Box (w5.alloc (.cells #[.int .i64 (joinR a b).e, .int .i64 (joinR a b).d, .int .i64 (joinR a b).x, .int .i64 (joinR a b).y, .int .i64 (joinR a b).z] 25)) (w.heap.size + 1) (b) := (HB.out.later hb).later (Grow.alloc' _ _)
  have KC : Box (w5.alloc (.cells #[.int .i64 (joinR a b).e, .int .i64 (joinR a b).d, .int .i64 (joinR a b).x, .int .i64 (joinR a b).y, .int .i64 (joinR a b).z] 25)) (w.heap.size + 1 + 1) (c) := (HC.out.later hb).later (Grow.alloc' _ _)
  have KJ : Box (w5.alloc (.cells #[.int .i64 (joinR a b).e, .int .i64 (joinR a b).d, .int .i64 (joinR a b).x, .int .i64 (joinR a b).y, .int .i64 (joinR a b).z] 25)) w5.heap.size (joinR a b) := Box.new _ _
  have G : Hid (Grow w (w5.alloc (.cells #[.int .i64 (joinR a b).e, .int .i64 (joinR a b).d, .int .i64 (joinR a b).x, .int .i64 (joinR a b).y, .int .i64 (joinR a b).z] 25))) := hide (Grow.trans' (Grow.trans' G.out hb) (Grow.alloc' _ _))
  clear hb HA HB HC
  have HA := hide KA
  have HB := hide KB
  have HC := hide KC
  have HJ := hide KJ
  obtain ⟨a_0, a_1, a_2, a_3, a_4⟩ := KA
  obtain ⟨b_0, b_1, b_2, b_3, b_4⟩ := KB
  obtain ⟨c_0, c_1, c_2, c_3, c_4⟩ := KC
  obtain ⟨j_0, j_1, j_2, j_3, j_4⟩ := KJ
  go_wp2_with fail
  refine (meet_any a b _).mono ?_
  rintro e w6 ⟨rfl, hb⟩
  clear a_0 a_1 a_2 a_3 a_4 b_0 b_1 b_2 b_3 b_4 c_0 c_1 c_2 c_3 c_4 j_0 j_1 j_2 j_3 j_4
  have KA : Box (w6.alloc (.cells #[.int .i64 (meetR a b).e, .int .i64 (meetR a b).d, .int .i64 (meetR a b).x, .int .i64 (meetR a b).y, .int .i64 (meetR a b).z] 25)) w.heap.size (a) := (HA.out.later hb).later (Grow.alloc' _ _)
  have KB : Box (w6.alloc (.cells #[.int .i64 (meetR a b).e, .int .i64 (meetR a b).d, .int .i64 (meetR a b).x, .int .i64 (meetR a b).y, .int .i64 (meetR a b).z] 25)) (w.heap.size + 1) (b) := (HB.out.later hb).later (Grow.alloc' _ _)
  have KC : Box (w6.alloc (.cells #[.int .i64 (meetR a b).e, .int .i64 (meetR a b).d, .int .i64 (meetR a b).x, .int .i64 (meetR a b).y, .int .i64 (meetR a b).z] 25)) (w.heap.size + 1 + 1) (c) := (HC.out.later hb).later (Grow.alloc' _ _)
  have KJ : Box (w6.alloc (.cells #[.int .i64 (meetR a b).e, .int .i64 (meetR a b).d, .int .i64 (meetR a b).x, .int .i64 (meetR a b).y, .int .i64 (meetR a b).z] 25)) w5.heap.size (joinR a b) := (HJ.out.later hb).later (Grow.alloc' _ _)
  have KM : Box (w6.alloc (.cells #[.int .i64 (meetR a b).e, .int .i64 (meetR a b).d, .int .i64 (meetR a b).x, .int .i64 (meetR a b).y, .int .i64 (meetR a b).z] 25)) w6.heap.size (meetR a b) := Box.new _ _
  have G : Hid (Grow w (w6.alloc (.cells #[.int .i64 (meetR a b).e, .int .i64 (meetR a b).d, .int .i64 (meetR a b).x, .int .i64 (meetR a b).y, .int .i64 (meetR a b).z] 25))) := hide (Grow.trans' (Grow.trans' G.out hb) (Grow.alloc' _ _))
  clear hb HA HB HC HJ
  have hne' := hne.out
  have HA := hide KA
  have HB := hide KB
  have HC := hide KC
  have HJ := hide KJ
  have HM := hide KM
  obtain ⟨a_0, a_1, a_2, a_3, a_4⟩ := KA
  obtain ⟨b_0, b_1, b_2, b_3, b_4⟩ := KB
  obtain ⟨c_0, c_1, c_2, c_3, c_4⟩ := KC
  obtain ⟨j_0, j_1, j_2, j_3, j_4⟩ := KJ
  obtain ⟨m_0, m_1, m_2, m_3, m_4⟩ := KM
  go_wp2_with fail
  refine (leC a (joinR a b) true hj1.out _).mono ?_
  rintro e w7 ⟨rfl, hb⟩
  clear a_0 a_1 a_2 a_3 a_4 b_0 b_1 b_2 b_3 b_4 c_0 c_1 c_2 c_3 c_4 j_0 j_1 j_2 j_3 j_4 m_0 m_1 m_2 m_3 m_4
  have KA : Box w7 w.heap.size (a) := HA.out.later hb
  have KB : Box w7 (w.heap.size + 1) (b) := HB.out.later hb
  have KC : Box w7 (w.heap.size + 1 + 1) (c) := HC.out.later hb
  have KJ : Box w7 w5.heap.size (joinR a b) := HJ.out.later hb
  have KM : Box w7 w6.heap.size (meetR a b) := HM.out.later hb
  have G : Hid (Grow w w7) := hide (Grow.trans' G.out hb)
  clear hb HA HB HC HJ HM
  have HA := hide KA
  have HB := hide KB
  have HC := hide KC
  have HJ := hide KJ
  have HM := hide KM
  obtain ⟨a_0, a_1, a_2, a_3, a_4⟩ := KA
  obtain ⟨b_0, b_1, b_2, b_3, b_4⟩ := KB
  obtain ⟨c_0, c_1, c_2, c_3, c_4⟩ := KC
  obtain ⟨j_0, j_1, j_2, j_3, j_4⟩ := KJ
  obtain ⟨m_0, m_1, m_2, m_3, m_4⟩ := KM
  go_wp2_with fail
  refine (leC b (joinR a b) true hj2.out _).mono ?_
  rintro e w8 ⟨rfl, hb⟩
  clear a_0 a_1 a_2 a_3 a_4 b_0 b_1 b_2 b_3 b_4 c_0 c_1 c_2 c_3 c_4 j_0 j_1 j_2 j_3 j_4 m_0 m_1 m_2 m_3 m_4
  have KA : Box w8 w.heap.size (a) := HA.out.later hb
  have KB : Box w8 (w.heap.size + 1) (b) := HB.out.later hb
  have KC : Box w8 (w.heap.size + 1 + 1) (c) := HC.out.later hb
  have KJ : Box w8 w5.heap.size (joinR a b) := HJ.out.later hb
  have KM : Box w8 w6.heap.size (meetR a b) := HM.out.later hb
  have G : Hid (Grow w w8) := hide (Grow.trans' G.out hb)
  clear hb HA HB HC HJ HM
  have HA := hide KA
  have HB := hide KB
  have HC := hide KC
  have HJ := hide KJ
  have HM := hide KM
  obtain ⟨a_0, a_1, a_2, a_3, a_4⟩ := KA
  obtain ⟨b_0, b_1, b_2, b_3, b_4⟩ := KB
  obtain ⟨c_0, c_1, c_2, c_3, c_4⟩ := KC
  obtain ⟨j_0, j_1, j_2, j_3, j_4⟩ := KJ
  obtain ⟨m_0, m_1, m_2, m_3, m_4⟩ := KM
  go_wp2_with fail
  refine (leC a c false hp'.out _).mono ?_
  rintro e w9 ⟨rfl, hb⟩
  clear a_0 a_1 a_2 a_3 a_4 b_0 b_1 b_2 b_3 b_4 c_0 c_1 c_2 c_3 c_4 j_0 j_1 j_2 j_3 j_4 m_0 m_1 m_2 m_3 m_4
  have KA : Box w9 w.heap.size (a) := HA.out.later hb
  have KB : Box w9 (w.heap.size + 1) (b) := HB.out.later hb
  have KC : Box w9 (w.heap.size + 1 + 1) (c) := HC.out.later hb
  have KJ : Box w9 w5.heap.size (joinR a b) := HJ.out.later hb
  have KM : Box w9 w6.heap.size (meetR a b) := HM.out.later hb
  have G : Hid (Grow w w9) := hide (Grow.trans' G.out hb)
  clear hb HA HB HC HJ HM
  have HA := hide KA
  have HB := hide KB
  have HC := hide KC
  have HJ := hide KJ
  have HM := hide KM
  obtain ⟨a_0, a_1, a_2, a_3, a_4⟩ := KA
  obtain ⟨b_0, b_1, b_2, b_3, b_4⟩ := KB
  obtain ⟨c_0, c_1, c_2, c_3, c_4⟩ := KC
  obtain ⟨j_0, j_1, j_2, j_3, j_4⟩ := KJ
  obtain ⟨m_0, m_1, m_2, m_3, m_4⟩ := KM
  go_wp2_with fail
  refine (leC (meetR a b) a true hm1.out _).mono ?_
  rintro e w10 ⟨rfl, hb⟩
  clear a_0 a_1 a_2 a_3 a_4 b_0 b_1 b_2 b_3 b_4 c_0 c_1 c_2 c_3 c_4 j_0 j_1 j_2 j_3 j_4 m_0 m_1 m_2 m_3 m_4
  have KA : Box w10 w.heap.size (a) := HA.out.later hb
  have KB : Box w10 (w.heap.size + 1) (b) := HB.out.later hb
  have KC : Box w10 (w.heap.size + 1 + 1) (c) := HC.out.later hb
  have KJ : Box w10 w5.heap.size (joinR a b) := HJ.out.later hb
  have KM : Box w10 w6.heap.size (meetR a b) := HM.out.later hb
  have G : Hid (Grow w w10) := hide (Grow.trans' G.out hb)
  clear hb HA HB HC HJ HM
  have HA := hide KA
  have HB := hide KB
  have HC := hide KC
  have HJ := hide KJ
  have HM := hide KM
  obtain ⟨a_0, a_1, a_2, a_3, a_4⟩ := KA
  obtain ⟨b_0, b_1, b_2, b_3, b_4⟩ := KB
  obtain ⟨c_0, c_1, c_2, c_3, c_4⟩ := KC
  obtain ⟨j_0, j_1, j_2, j_3, j_4⟩ := KJ
  obtain ⟨m_0, m_1, m_2, m_3, m_4⟩ := KM
  go_wp2_with fail
  refine (leC (meetR a b) b true hm2.out _).mono ?_
  rintro e w11 ⟨rfl, hb⟩
  clear a_0 a_1 a_2 a_3 a_4 b_0 b_1 b_2 b_3 b_4 c_0 c_1 c_2 c_3 c_4 j_0 j_1 j_2 j_3 j_4 m_0 m_1 m_2 m_3 m_4
  have KA : Box w11 w.heap.size (a) := HA.out.later hb
  have KB : Box w11 (w.heap.size + 1) (b) := HB.out.later hb
  have KC : Box w11 (w.heap.size + 1 + 1) (c) := HC.out.later hb
  have KJ : Box w11 w5.heap.size (joinR a b) := HJ.out.later hb
  have KM : Box w11 w6.heap.size (meetR a b) := HM.out.later hb
  have G : Hid (Grow w w11) := hide (Grow.trans' G.out hb)
  clear hb HA HB HC HJ HM
  have HA := hide KA
  have HB := hide KB
  have HC := hide KC
  have HJ := hide KJ
  have HM := hide KM
  obtain ⟨a_0, a_1, a_2, a_3, a_4⟩ := KA
  obtain ⟨b_0, b_1, b_2, b_3, b_4⟩ := KB
  obtain ⟨c_0, c_1, c_2, c_3, c_4⟩ := KC
  obtain ⟨j_0, j_1, j_2, j_3, j_4⟩ := KJ
  obtain ⟨m_0, m_1, m_2, m_3, m_4⟩ := KM
  go_wp2_with fail
  refine (leC c a true hr'.out _).mono ?_
  rintro e w12 ⟨rfl, hb⟩
  clear a_0 a_1 a_2 a_3 a_4 b_0 b_1 b_2 b_3 b_4 c_0 c_1 c_2 c_3 c_4 j_0 j_1 j_2 j_3 j_4 m_0 m_1 m_2 m_3 m_4
  have KA : Box w12 w.heap.size (a) := HA.out.later hb
  have KB : Box w12 (w.heap.size + 1) (b) := HB.out.later hb
  have KC : Box w12 (w.heap.size + 1 + 1) (c) := HC.out.later hb
  have KJ : Box w12 w5.heap.size (joinR a b) := HJ.out.later hb
  have KM : Box w12 w6.heap.size (meetR a b) := HM.out.later hb
  have G : Hid (Grow w w12) := hide (Grow.trans' G.out hb)
  clear hb HA HB HC HJ HM
  have HA := hide KA
  have HB := hide KB
  have HC := hide KC
  have HJ := hide KJ
  have HM := hide KM
  obtain ⟨a_0, a_1, a_2, a_3, a_4⟩ := KA
  obtain ⟨b_0, b_1, b_2, b_3, b_4⟩ := KB
  obtain ⟨c_0, c_1, c_2, c_3, c_4⟩ := KC
  obtain ⟨j_0, j_1, j_2, j_3, j_4⟩ := KJ
  obtain ⟨m_0, m_1, m_2, m_3, m_4⟩ := KM
  go_wp2_with fail
  refine (leC c b true hs'.out _).mono ?_
  rintro e w13 ⟨rfl, hb⟩
  clear a_0 a_1 a_2 a_3 a_4 b_0 b_1 b_2 b_3 b_4 c_0 c_1 c_2 c_3 c_4 j_0 j_1 j_2 j_3 j_4 m_0 m_1 m_2 m_3 m_4
  have KA : Box w13 w.heap.size (a) := HA.out.later hb
  have KB : Box w13 (w.heap.size + 1) (b) := HB.out.later hb
  have KC : Box w13 (w.heap.size + 1 + 1) (c) := HC.out.later hb
  have KJ : Box w13 w5.heap.size (joinR a b) := HJ.out.later hb
  have KM : Box w13 w6.heap.size (meetR a b) := HM.out.later hb
  have G : Hid (Grow w w13) := hide (Grow.trans' G.out hb)
  clear hb HA HB HC HJ HM
  have HA := hide KA
  have HB := hide KB
  have HC := hide KC
  have HJ := hide KJ
  have HM := hide KM
  obtain ⟨a_0, a_1, a_2, a_3, a_4⟩ := KA
  obtain ⟨b_0, b_1, b_2, b_3, b_4⟩ := KB
  obtain ⟨c_0, c_1, c_2, c_3, c_4⟩ := KC
  obtain ⟨j_0, j_1, j_2, j_3, j_4⟩ := KJ
  obtain ⟨m_0, m_1, m_2, m_3, m_4⟩ := KM
  go_wp2_with fail
  refine (leC c (meetR a b) true hmg.out _).mono ?_
  rintro e w14 ⟨rfl, hb⟩
  clear a_0 a_1 a_2 a_3 a_4 b_0 b_1 b_2 b_3 b_4 c_0 c_1 c_2 c_3 c_4 j_0 j_1 j_2 j_3 j_4 m_0 m_1 m_2 m_3 m_4
  have KA : Box w14 w.heap.size (a) := HA.out.later hb
  have KB : Box w14 (w.heap.size + 1) (b) := HB.out.later hb
  have KC : Box w14 (w.heap.size + 1 + 1) (c) := HC.out.later hb
  have KJ : Box w14 w5.heap.size (joinR a b) := HJ.out.later hb
  have KM : Box w14 w6.heap.size (meetR a b) := HM.out.later hb
  have G : Hid (Grow w w14) := hide (Grow.trans' G.out hb)
  clear hb HA HB HC HJ HM
  have hE' := hE.out
  have HA := hide KA
  have HB := hide KB
  have HC := hide KC
  have HJ := hide KJ
  have HM := hide KM
  obtain ⟨a_0, a_1, a_2, a_3, a_4⟩ := KA
  obtain ⟨b_0, b_1, b_2, b_3, b_4⟩ := KB
  obtain ⟨c_0, c_1, c_2, c_3, c_4⟩ := KC
  obtain ⟨j_0, j_1, j_2, j_3, j_4⟩ := KJ
  obtain ⟨m_0, m_1, m_2, m_3, m_4⟩ := KM
  go_wp2_with fail
  refine (mayC (joinR a b) true hJ.out _).mono ?_
  rintro e w15 ⟨rfl, hb⟩
  clear a_0 a_1 a_2 a_3 a_4 b_0 b_1 b_2 b_3 b_4 c_0 c_1 c_2 c_3 c_4 j_0 j_1 j_2 j_3 j_4 m_0 m_1 m_2 m_3 m_4
  have KA : Box w15 w.heap.size (a) := HA.out.later hb
  have KB : Box w15 (w.heap.size + 1) (b) := HB.out.later hb
  have KC : Box w15 (w.heap.size + 1 + 1) (c) := HC.out.later hb
  have KJ : Box w15 w5.heap.size (joinR a b) := HJ.out.later hb
  have KM : Box w15 w6.heap.size (meetR a b) := HM.out.later hb
  have G : Hid (Grow w w15) := hide (Grow.trans' G.out hb)
  clear hb HA HB HC HJ HM
  have HA := hide KA
  have HB := hide KB
  have HC := hide KC
  have HJ := hide KJ
  have HM := hide KM
  obtain ⟨a_0, a_1, a_2, a_3, a_4⟩ := KA
  obtain ⟨b_0, b_1, b_2, b_3, b_4⟩ := KB
  obtain ⟨c_0, c_1, c_2, c_3, c_4⟩ := KC
  obtain ⟨j_0, j_1, j_2, j_3, j_4⟩ := KJ
  obtain ⟨m_0, m_1, m_2, m_3, m_4⟩ := KM
  go_wp2_with fail
  refine (mayC (meetR a b) true hM.out _).mono ?_
  rintro e w16 ⟨rfl, hb⟩
  clear a_0 a_1 a_2 a_3 a_4 b_0 b_1 b_2 b_3 b_4 c_0 c_1 c_2 c_3 c_4 j_0 j_1 j_2 j_3 j_4 m_0 m_1 m_2 m_3 m_4
  have KA : Box w16 w.heap.size (a) := HA.out.later hb
  have KB : Box w16 (w.heap.size + 1) (b) := HB.out.later hb
  have KC : Box w16 (w.heap.size + 1 + 1) (c) := HC.out.later hb
  have KJ : Box w16 w5.heap.size (joinR a b) := HJ.out.later hb
  have KM : Box w16 w6.heap.size (meetR a b) := HM.out.later hb
  have G : Hid (Grow w w16) := hide (Grow.trans' G.out hb)
  clear hb HA HB HC HJ HM
  obtain ⟨a_0, a_1, a_2, a_3, a_4⟩ := KA
  obtain ⟨b_0, b_1, b_2, b_3, b_4⟩ := KB
  obtain ⟨c_0, c_1, c_2, c_3, c_4⟩ := KC
  obtain ⟨j_0, j_1, j_2, j_3, j_4⟩ := KJ
  obtain ⟨m_0, m_1, m_2, m_3, m_4⟩ := KM
  go_wp2
  go_ret
  exact ⟨rfl, G.out⟩

end Go.Proofs.Ytbohgfcndclbjaa
