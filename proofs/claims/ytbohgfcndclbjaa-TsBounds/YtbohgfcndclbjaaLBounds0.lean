/-
  What the law TsBounds does, where one of the times may not be, or two of unlike depth: for every three times it returns true, and what was there stays as it was.
-/
import Derived.Test.YtbohgfcndclbjaaFacts2
import Derived.Test.YtbohgfcndclbjaaLPartial
namespace Go.Proofs.Ytbohgfcndclbjaa
open Go.RowKit
set_option linter.unusedVariables false

set_option maxHeartbeats 2000000 in
theorem TsBounds_no1 (a b c : Tm) (w : World) (hA : mayB a = false) :
    Calls Try.prog 7 #[.agg #[.int .i64 a.e, .int .i64 a.d, .int .i64 a.x, .int .i64 a.y, .int .i64 a.z], .agg #[.int .i64 b.e, .int .i64 b.d, .int .i64 b.x, .int .i64 b.y, .int .i64 b.z], .agg #[.int .i64 c.e, .int .i64 c.d, .int .i64 c.x, .int .i64 c.y, .int .i64 c.z]] w fun e w' => e = .returned (.bool true) ∧ Below w.heap.size w w' := by
  have KA : Box (((w.alloc (.cells #[.int .i64 a.e, .int .i64 a.d, .int .i64 a.x, .int .i64 a.y, .int .i64 a.z] 25)).alloc (.cells #[.int .i64 b.e, .int .i64 b.d, .int .i64 b.x, .int .i64 b.y, .int .i64 b.z] 25)).alloc (.cells #[.int .i64 c.e, .int .i64 c.d, .int .i64 c.x, .int .i64 c.y, .int .i64 c.z] 25)) w.heap.size a := ((Box.new w a).later (Grow.alloc' _ _)).later (Grow.alloc' _ _)
  have KB : Box (((w.alloc (.cells #[.int .i64 a.e, .int .i64 a.d, .int .i64 a.x, .int .i64 a.y, .int .i64 a.z] 25)).alloc (.cells #[.int .i64 b.e, .int .i64 b.d, .int .i64 b.x, .int .i64 b.y, .int .i64 b.z] 25)).alloc (.cells #[.int .i64 c.e, .int .i64 c.d, .int .i64 c.x, .int .i64 c.y, .int .i64 c.z] 25)) (w.heap.size + 1) b := Box.later (Grow.alloc' _ _) (by simpa using Box.new (w.alloc (.cells #[.int .i64 a.e, .int .i64 a.d, .int .i64 a.x, .int .i64 a.y, .int .i64 a.z] 25)) b)
  have KC : Box (((w.alloc (.cells #[.int .i64 a.e, .int .i64 a.d, .int .i64 a.x, .int .i64 a.y, .int .i64 a.z] 25)).alloc (.cells #[.int .i64 b.e, .int .i64 b.d, .int .i64 b.x, .int .i64 b.y, .int .i64 b.z] 25)).alloc (.cells #[.int .i64 c.e, .int .i64 c.d, .int .i64 c.x, .int .i64 c.y, .int .i64 c.z] 25)) (w.heap.size + 1 + 1) c := by simpa using Box.new ((w.alloc (.cells #[.int .i64 a.e, .int .i64 a.d, .int .i64 a.x, .int .i64 a.y, .int .i64 a.z] 25)).alloc (.cells #[.int .i64 b.e, .int .i64 b.d, .int .i64 b.x, .int .i64 b.y, .int .i64 b.z] 25)) c
  have G : Hid (Grow w (((w.alloc (.cells #[.int .i64 a.e, .int .i64 a.d, .int .i64 a.x, .int .i64 a.y, .int .i64 a.z] 25)).alloc (.cells #[.int .i64 b.e, .int .i64 b.d, .int .i64 b.x, .int .i64 b.y, .int .i64 b.z] 25)).alloc (.cells #[.int .i64 c.e, .int .i64 c.d, .int .i64 c.x, .int .i64 c.y, .int .i64 c.z] 25))) := hide (((Grow.alloc' _ _).trans' (Grow.alloc' _ _)).trans' (Grow.alloc' _ _))
  go_enter Try.func7, Try.ntmps7
  have HA := hide KA
  have HB := hide KB
  have HC := hide KC
  obtain ⟨a_0, a_1, a_2, a_3, a_4⟩ := KA
  obtain ⟨b_0, b_1, b_2, b_3, b_4⟩ := KB
  obtain ⟨c_0, c_1, c_2, c_3, c_4⟩ := KC
  go_wp2_with fail
  refine (shown_any _).mono ?_
  rintro e w1 ⟨rfl, hb⟩
  clear a_0 a_1 a_2 a_3 a_4 b_0 b_1 b_2 b_3 b_4 c_0 c_1 c_2 c_3 c_4
  have KA : Box w1 w.heap.size (a) := HA.out.later hb
  have KB : Box w1 (w.heap.size + 1) (b) := HB.out.later hb
  have KC : Box w1 (w.heap.size + 1 + 1) (c) := HC.out.later hb
  have G : Hid (Grow w w1) := hide (Grow.trans' G.out hb)
  clear hb HA HB HC
  have HA := hide KA
  have HB := hide KB
  have HC := hide KC
  obtain ⟨a_0, a_1, a_2, a_3, a_4⟩ := KA
  obtain ⟨b_0, b_1, b_2, b_3, b_4⟩ := KB
  obtain ⟨c_0, c_1, c_2, c_3, c_4⟩ := KC
  go_wp2_with fail
  refine (mayC a false hA _).mono ?_
  rintro e w2 ⟨rfl, hb⟩
  clear a_0 a_1 a_2 a_3 a_4 b_0 b_1 b_2 b_3 b_4 c_0 c_1 c_2 c_3 c_4
  have KA : Box w2 w.heap.size (a) := HA.out.later hb
  have KB : Box w2 (w.heap.size + 1) (b) := HB.out.later hb
  have KC : Box w2 (w.heap.size + 1 + 1) (c) := HC.out.later hb
  have G : Hid (Grow w w2) := hide (Grow.trans' G.out hb)
  clear hb HA HB HC
  obtain ⟨a_0, a_1, a_2, a_3, a_4⟩ := KA
  obtain ⟨b_0, b_1, b_2, b_3, b_4⟩ := KB
  obtain ⟨c_0, c_1, c_2, c_3, c_4⟩ := KC
  go_wp2
  go_ret
  exact ⟨rfl, G.out⟩

set_option maxHeartbeats 2000000 in
theorem TsBounds_no2 (a b c : Tm) (w : World) (hA : mayB a = true) (hB : mayB b = false) :
    Calls Try.prog 7 #[.agg #[.int .i64 a.e, .int .i64 a.d, .int .i64 a.x, .int .i64 a.y, .int .i64 a.z], .agg #[.int .i64 b.e, .int .i64 b.d, .int .i64 b.x, .int .i64 b.y, .int .i64 b.z], .agg #[.int .i64 c.e, .int .i64 c.d, .int .i64 c.x, .int .i64 c.y, .int .i64 c.z]] w fun e w' => e = .returned (.bool true) ∧ Below w.heap.size w w' := by
  have KA : Box (((w.alloc (.cells #[.int .i64 a.e, .int .i64 a.d, .int .i64 a.x, .int .i64 a.y, .int .i64 a.z] 25)).alloc (.cells #[.int .i64 b.e, .int .i64 b.d, .int .i64 b.x, .int .i64 b.y, .int .i64 b.z] 25)).alloc (.cells #[.int .i64 c.e, .int .i64 c.d, .int .i64 c.x, .int .i64 c.y, .int .i64 c.z] 25)) w.heap.size a := ((Box.new w a).later (Grow.alloc' _ _)).later (Grow.alloc' _ _)
  have KB : Box (((w.alloc (.cells #[.int .i64 a.e, .int .i64 a.d, .int .i64 a.x, .int .i64 a.y, .int .i64 a.z] 25)).alloc (.cells #[.int .i64 b.e, .int .i64 b.d, .int .i64 b.x, .int .i64 b.y, .int .i64 b.z] 25)).alloc (.cells #[.int .i64 c.e, .int .i64 c.d, .int .i64 c.x, .int .i64 c.y, .int .i64 c.z] 25)) (w.heap.size + 1) b := Box.later (Grow.alloc' _ _) (by simpa using Box.new (w.alloc (.cells #[.int .i64 a.e, .int .i64 a.d, .int .i64 a.x, .int .i64 a.y, .int .i64 a.z] 25)) b)
  have KC : Box (((w.alloc (.cells #[.int .i64 a.e, .int .i64 a.d, .int .i64 a.x, .int .i64 a.y, .int .i64 a.z] 25)).alloc (.cells #[.int .i64 b.e, .int .i64 b.d, .int .i64 b.x, .int .i64 b.y, .int .i64 b.z] 25)).alloc (.cells #[.int .i64 c.e, .int .i64 c.d, .int .i64 c.x, .int .i64 c.y, .int .i64 c.z] 25)) (w.heap.size + 1 + 1) c := by simpa using Box.new ((w.alloc (.cells #[.int .i64 a.e, .int .i64 a.d, .int .i64 a.x, .int .i64 a.y, .int .i64 a.z] 25)).alloc (.cells #[.int .i64 b.e, .int .i64 b.d, .int .i64 b.x, .int .i64 b.y, .int .i64 b.z] 25)) c
  have G : Hid (Grow w (((w.alloc (.cells #[.int .i64 a.e, .int .i64 a.d, .int .i64 a.x, .int .i64 a.y, .int .i64 a.z] 25)).alloc (.cells #[.int .i64 b.e, .int .i64 b.d, .int .i64 b.x, .int .i64 b.y, .int .i64 b.z] 25)).alloc (.cells #[.int .i64 c.e, .int .i64 c.d, .int .i64 c.x, .int .i64 c.y, .int .i64 c.z] 25))) := hide (((Grow.alloc' _ _).trans' (Grow.alloc' _ _)).trans' (Grow.alloc' _ _))
  go_enter Try.func7, Try.ntmps7
  have HA := hide KA
  have HB := hide KB
  have HC := hide KC
  obtain ⟨a_0, a_1, a_2, a_3, a_4⟩ := KA
  obtain ⟨b_0, b_1, b_2, b_3, b_4⟩ := KB
  obtain ⟨c_0, c_1, c_2, c_3, c_4⟩ := KC
  go_wp2_with fail
  refine (shown_any _).mono ?_
  rintro e w1 ⟨rfl, hb⟩
  clear a_0 a_1 a_2 a_3 a_4 b_0 b_1 b_2 b_3 b_4 c_0 c_1 c_2 c_3 c_4
  have KA : Box w1 w.heap.size (a) := HA.out.later hb
  have KB : Box w1 (w.heap.size + 1) (b) := HB.out.later hb
  have KC : Box w1 (w.heap.size + 1 + 1) (c) := HC.out.later hb
  have G : Hid (Grow w w1) := hide (Grow.trans' G.out hb)
  clear hb HA HB HC
  have HA := hide KA
  have HB := hide KB
  have HC := hide KC
  obtain ⟨a_0, a_1, a_2, a_3, a_4⟩ := KA
  obtain ⟨b_0, b_1, b_2, b_3, b_4⟩ := KB
  obtain ⟨c_0, c_1, c_2, c_3, c_4⟩ := KC
  go_wp2_with fail
  refine (mayC a true hA _).mono ?_
  rintro e w2 ⟨rfl, hb⟩
  clear a_0 a_1 a_2 a_3 a_4 b_0 b_1 b_2 b_3 b_4 c_0 c_1 c_2 c_3 c_4
  have KA : Box w2 w.heap.size (a) := HA.out.later hb
  have KB : Box w2 (w.heap.size + 1) (b) := HB.out.later hb
  have KC : Box w2 (w.heap.size + 1 + 1) (c) := HC.out.later hb
  have G : Hid (Grow w w2) := hide (Grow.trans' G.out hb)
  clear hb HA HB HC
  have HA := hide KA
  have HB := hide KB
  have HC := hide KC
  obtain ⟨a_0, a_1, a_2, a_3, a_4⟩ := KA
  obtain ⟨b_0, b_1, b_2, b_3, b_4⟩ := KB
  obtain ⟨c_0, c_1, c_2, c_3, c_4⟩ := KC
  go_wp2_with fail
  refine (mayC b false hB _).mono ?_
  rintro e w3 ⟨rfl, hb⟩
  clear a_0 a_1 a_2 a_3 a_4 b_0 b_1 b_2 b_3 b_4 c_0 c_1 c_2 c_3 c_4
  have KA : Box w3 w.heap.size (a) := HA.out.later hb
  have KB : Box w3 (w.heap.size + 1) (b) := HB.out.later hb
  have KC : Box w3 (w.heap.size + 1 + 1) (c) := HC.out.later hb
  have G : Hid (Grow w w3) := hide (Grow.trans' G.out hb)
  clear hb HA HB HC
  obtain ⟨a_0, a_1, a_2, a_3, a_4⟩ := KA
  obtain ⟨b_0, b_1, b_2, b_3, b_4⟩ := KB
  obtain ⟨c_0, c_1, c_2, c_3, c_4⟩ := KC
  go_wp2
  go_ret
  exact ⟨rfl, G.out⟩

set_option maxHeartbeats 2000000 in
theorem TsBounds_no3 (a b c : Tm) (w : World) (hA : mayB a = true) (hB : mayB b = true) (hC : mayB c = false) :
    Calls Try.prog 7 #[.agg #[.int .i64 a.e, .int .i64 a.d, .int .i64 a.x, .int .i64 a.y, .int .i64 a.z], .agg #[.int .i64 b.e, .int .i64 b.d, .int .i64 b.x, .int .i64 b.y, .int .i64 b.z], .agg #[.int .i64 c.e, .int .i64 c.d, .int .i64 c.x, .int .i64 c.y, .int .i64 c.z]] w fun e w' => e = .returned (.bool true) ∧ Below w.heap.size w w' := by
  have KA : Box (((w.alloc (.cells #[.int .i64 a.e, .int .i64 a.d, .int .i64 a.x, .int .i64 a.y, .int .i64 a.z] 25)).alloc (.cells #[.int .i64 b.e, .int .i64 b.d, .int .i64 b.x, .int .i64 b.y, .int .i64 b.z] 25)).alloc (.cells #[.int .i64 c.e, .int .i64 c.d, .int .i64 c.x, .int .i64 c.y, .int .i64 c.z] 25)) w.heap.size a := ((Box.new w a).later (Grow.alloc' _ _)).later (Grow.alloc' _ _)
  have KB : Box (((w.alloc (.cells #[.int .i64 a.e, .int .i64 a.d, .int .i64 a.x, .int .i64 a.y, .int .i64 a.z] 25)).alloc (.cells #[.int .i64 b.e, .int .i64 b.d, .int .i64 b.x, .int .i64 b.y, .int .i64 b.z] 25)).alloc (.cells #[.int .i64 c.e, .int .i64 c.d, .int .i64 c.x, .int .i64 c.y, .int .i64 c.z] 25)) (w.heap.size + 1) b := Box.later (Grow.alloc' _ _) (by simpa using Box.new (w.alloc (.cells #[.int .i64 a.e, .int .i64 a.d, .int .i64 a.x, .int .i64 a.y, .int .i64 a.z] 25)) b)
  have KC : Box (((w.alloc (.cells #[.int .i64 a.e, .int .i64 a.d, .int .i64 a.x, .int .i64 a.y, .int .i64 a.z] 25)).alloc (.cells #[.int .i64 b.e, .int .i64 b.d, .int .i64 b.x, .int .i64 b.y, .int .i64 b.z] 25)).alloc (.cells #[.int .i64 c.e, .int .i64 c.d, .int .i64 c.x, .int .i64 c.y, .int .i64 c.z] 25)) (w.heap.size + 1 + 1) c := by simpa using Box.new ((w.alloc (.cells #[.int .i64 a.e, .int .i64 a.d, .int .i64 a.x, .int .i64 a.y, .int .i64 a.z] 25)).alloc (.cells #[.int .i64 b.e, .int .i64 b.d, .int .i64 b.x, .int .i64 b.y, .int .i64 b.z] 25)) c
  have G : Hid (Grow w (((w.alloc (.cells #[.int .i64 a.e, .int .i64 a.d, .int .i64 a.x, .int .i64 a.y, .int .i64 a.z] 25)).alloc (.cells #[.int .i64 b.e, .int .i64 b.d, .int .i64 b.x, .int .i64 b.y, .int .i64 b.z] 25)).alloc (.cells #[.int .i64 c.e, .int .i64 c.d, .int .i64 c.x, .int .i64 c.y, .int .i64 c.z] 25))) := hide (((Grow.alloc' _ _).trans' (Grow.alloc' _ _)).trans' (Grow.alloc' _ _))
  go_enter Try.func7, Try.ntmps7
  have HA := hide KA
  have HB := hide KB
  have HC := hide KC
  obtain ⟨a_0, a_1, a_2, a_3, a_4⟩ := KA
  obtain ⟨b_0, b_1, b_2, b_3, b_4⟩ := KB
  obtain ⟨c_0, c_1, c_2, c_3, c_4⟩ := KC
  go_wp2_with fail
  refine (shown_any _).mono ?_
  rintro e w1 ⟨rfl, hb⟩
  clear a_0 a_1 a_2 a_3 a_4 b_0 b_1 b_2 b_3 b_4 c_0 c_1 c_2 c_3 c_4
  have KA : Box w1 w.heap.size (a) := HA.out.later hb
  have KB : Box w1 (w.heap.size + 1) (b) := HB.out.later hb
  have KC : Box w1 (w.heap.size + 1 + 1) (c) := HC.out.later hb
  have G : Hid (Grow w w1) := hide (Grow.trans' G.out hb)
  clear hb HA HB HC
  have HA := hide KA
  have HB := hide KB
  have HC := hide KC
  obtain ⟨a_0, a_1, a_2, a_3, a_4⟩ := KA
  obtain ⟨b_0, b_1, b_2, b_3, b_4⟩ := KB
  obtain ⟨c_0, c_1, c_2, c_3, c_4⟩ := KC
  go_wp2_with fail
  refine (mayC a true hA _).mono ?_
  rintro e w2 ⟨rfl, hb⟩
  clear a_0 a_1 a_2 a_3 a_4 b_0 b_1 b_2 b_3 b_4 c_0 c_1 c_2 c_3 c_4
  have KA : Box w2 w.heap.size (a) := HA.out.later hb
  have KB : Box w2 (w.heap.size + 1) (b) := HB.out.later hb
  have KC : Box w2 (w.heap.size + 1 + 1) (c) := HC.out.later hb
  have G : Hid (Grow w w2) := hide (Grow.trans' G.out hb)
  clear hb HA HB HC
  have HA := hide KA
  have HB := hide KB
  have HC := hide KC
  obtain ⟨a_0, a_1, a_2, a_3, a_4⟩ := KA
  obtain ⟨b_0, b_1, b_2, b_3, b_4⟩ := KB
  obtain ⟨c_0, c_1, c_2, c_3, c_4⟩ := KC
  go_wp2_with fail
  refine (mayC b true hB _).mono ?_
  rintro e w3 ⟨rfl, hb⟩
  clear a_0 a_1 a_2 a_3 a_4 b_0 b_1 b_2 b_3 b_4 c_0 c_1 c_2 c_3 c_4
  have KA : Box w3 w.heap.size (a) := HA.out.later hb
  have KB : Box w3 (w.heap.size + 1) (b) := HB.out.later hb
  have KC : Box w3 (w.heap.size + 1 + 1) (c) := HC.out.later hb
  have G : Hid (Grow w w3) := hide (Grow.trans' G.out hb)
  clear hb HA HB HC
  have HA := hide KA
  have HB := hide KB
  have HC := hide KC
  obtain ⟨a_0, a_1, a_2, a_3, a_4⟩ := KA
  obtain ⟨b_0, b_1, b_2, b_3, b_4⟩ := KB
  obtain ⟨c_0, c_1, c_2, c_3, c_4⟩ := KC
  go_wp2_with fail
  refine (mayC c false hC _).mono ?_
  rintro e w4 ⟨rfl, hb⟩
  clear a_0 a_1 a_2 a_3 a_4 b_0 b_1 b_2 b_3 b_4 c_0 c_1 c_2 c_3 c_4
  have KA : Box w4 w.heap.size (a) := HA.out.later hb
  have KB : Box w4 (w.heap.size + 1) (b) := HB.out.later hb
  have KC : Box w4 (w.heap.size + 1 + 1) (c) := HC.out.later hb
  have G : Hid (Grow w w4) := hide (Grow.trans' G.out hb)
  clear hb HA HB HC
  obtain ⟨a_0, a_1, a_2, a_3, a_4⟩ := KA
  obtain ⟨b_0, b_1, b_2, b_3, b_4⟩ := KB
  obtain ⟨c_0, c_1, c_2, c_3, c_4⟩ := KC
  go_wp2
  go_ret
  exact ⟨rfl, G.out⟩

set_option maxHeartbeats 4000000 in
theorem TsBounds_d (a b c : Tm) (w : World) (hA : mayB a = true) (hB : mayB b = true) (hC : mayB c = true) (hd : ¬ a.d = b.d) :
    Calls Try.prog 7 #[.agg #[.int .i64 a.e, .int .i64 a.d, .int .i64 a.x, .int .i64 a.y, .int .i64 a.z], .agg #[.int .i64 b.e, .int .i64 b.d, .int .i64 b.x, .int .i64 b.y, .int .i64 b.z], .agg #[.int .i64 c.e, .int .i64 c.d, .int .i64 c.x, .int .i64 c.y, .int .i64 c.z]] w fun e w' => e = .returned (.bool true) ∧ Below w.heap.size w w' := by
  have hE := hide (err_no hd)
  have hne := hide (show (a.d != b.d) = true by simp [hd])
  have hA' := hide hA
  have hB' := hide hB
  have hC' := hide hC
  clear hA hB hC hd
  have KA : Box (((w.alloc (.cells #[.int .i64 a.e, .int .i64 a.d, .int .i64 a.x, .int .i64 a.y, .int .i64 a.z] 25)).alloc (.cells #[.int .i64 b.e, .int .i64 b.d, .int .i64 b.x, .int .i64 b.y, .int .i64 b.z] 25)).alloc (.cells #[.int .i64 c.e, .int .i64 c.d, .int .i64 c.x, .int .i64 c.y, .int .i64 c.z] 25)) w.heap.size a := ((Box.new w a).later (Grow.alloc' _ _)).later (Grow.alloc' _ _)
  have KB : Box (((w.alloc (.cells #[.int .i64 a.e, .int .i64 a.d, .int .i64 a.x, .int .i64 a.y, .int .i64 a.z] 25)).alloc (.cells #[.int .i64 b.e, .int .i64 b.d, .int .i64 b.x, .int .i64 b.y, .int .i64 b.z] 25)).alloc (.cells #[.int .i64 c.e, .int .i64 c.d, .int .i64 c.x, .int .i64 c.y, .int .i64 c.z] 25)) (w.heap.size + 1) b := Box.later (Grow.alloc' _ _) (by simpa using Box.new (w.alloc (.cells #[.int .i64 a.e, .int .i64 a.d, .int .i64 a.x, .int .i64 a.y, .int .i64 a.z] 25)) b)
  have KC : Box (((w.alloc (.cells #[.int .i64 a.e, .int .i64 a.d, .int .i64 a.x, .int .i64 a.y, .int .i64 a.z] 25)).alloc (.cells #[.int .i64 b.e, .int .i64 b.d, .int .i64 b.x, .int .i64 b.y, .int .i64 b.z] 25)).alloc (.cells #[.int .i64 c.e, .int .i64 c.d, .int .i64 c.x, .int .i64 c.y, .int .i64 c.z] 25)) (w.heap.size + 1 + 1) c := by simpa using Box.new ((w.alloc (.cells #[.int .i64 a.e, .int .i64 a.d, .int .i64 a.x, .int .i64 a.y, .int .i64 a.z] 25)).alloc (.cells #[.int .i64 b.e, .int .i64 b.d, .int .i64 b.x, .int .i64 b.y, .int .i64 b.z] 25)) c
  have G : Hid (Grow w (((w.alloc (.cells #[.int .i64 a.e, .int .i64 a.d, .int .i64 a.x, .int .i64 a.y, .int .i64 a.z] 25)).alloc (.cells #[.int .i64 b.e, .int .i64 b.d, .int .i64 b.x, .int .i64 b.y, .int .i64 b.z] 25)).alloc (.cells #[.int .i64 c.e, .int .i64 c.d, .int .i64 c.x, .int .i64 c.y, .int .i64 c.z] 25))) := hide (((Grow.alloc' _ _).trans' (Grow.alloc' _ _)).trans' (Grow.alloc' _ _))
  go_enter Try.func7, Try.ntmps7
  have HA := hide KA
  have HB := hide KB
  have HC := hide KC
  obtain ⟨a_0, a_1, a_2, a_3, a_4⟩ := KA
  obtain ⟨b_0, b_1, b_2, b_3, b_4⟩ := KB
  obtain ⟨c_0, c_1, c_2, c_3, c_4⟩ := KC
  go_wp2_with fail
  refine (shown_any _).mono ?_
  rintro e w1 ⟨rfl, hb⟩
  clear a_0 a_1 a_2 a_3 a_4 b_0 b_1 b_2 b_3 b_4 c_0 c_1 c_2 c_3 c_4
  have KA : Box w1 w.heap.size (a) := HA.out.later hb
  have KB : Box w1 (w.heap.size + 1) (b) := HB.out.later hb
  have KC : Box w1 (w.heap.size + 1 + 1) (c) := HC.out.later hb
  have G : Hid (Grow w w1) := hide (Grow.trans' G.out hb)
  clear hb HA HB HC
  have HA := hide KA
  have HB := hide KB
  have HC := hide KC
  obtain ⟨a_0, a_1, a_2, a_3, a_4⟩ := KA
  obtain ⟨b_0, b_1, b_2, b_3, b_4⟩ := KB
  obtain ⟨c_0, c_1, c_2, c_3, c_4⟩ := KC
  go_wp2_with fail
  refine (mayC a true hA'.out _).mono ?_
  rintro e w2 ⟨rfl, hb⟩
  clear a_0 a_1 a_2 a_3 a_4 b_0 b_1 b_2 b_3 b_4 c_0 c_1 c_2 c_3 c_4
  have KA : Box w2 w.heap.size (a) := HA.out.later hb
  have KB : Box w2 (w.heap.size + 1) (b) := HB.out.later hb
  have KC : Box w2 (w.heap.size + 1 + 1) (c) := HC.out.later hb
  have G : Hid (Grow w w2) := hide (Grow.trans' G.out hb)
  clear hb HA HB HC
  have HA := hide KA
  have HB := hide KB
  have HC := hide KC
  obtain ⟨a_0, a_1, a_2, a_3, a_4⟩ := KA
  obtain ⟨b_0, b_1, b_2, b_3, b_4⟩ := KB
  obtain ⟨c_0, c_1, c_2, c_3, c_4⟩ := KC
  go_wp2_with fail
  refine (mayC b true hB'.out _).mono ?_
  rintro e w3 ⟨rfl, hb⟩
  clear a_0 a_1 a_2 a_3 a_4 b_0 b_1 b_2 b_3 b_4 c_0 c_1 c_2 c_3 c_4
  have KA : Box w3 w.heap.size (a) := HA.out.later hb
  have KB : Box w3 (w.heap.size + 1) (b) := HB.out.later hb
  have KC : Box w3 (w.heap.size + 1 + 1) (c) := HC.out.later hb
  have G : Hid (Grow w w3) := hide (Grow.trans' G.out hb)
  clear hb HA HB HC
  have HA := hide KA
  have HB := hide KB
  have HC := hide KC
  obtain ⟨a_0, a_1, a_2, a_3, a_4⟩ := KA
  obtain ⟨b_0, b_1, b_2, b_3, b_4⟩ := KB
  obtain ⟨c_0, c_1, c_2, c_3, c_4⟩ := KC
  go_wp2_with fail
  refine (mayC c true hC'.out _).mono ?_
  rintro e w4 ⟨rfl, hb⟩
  clear a_0 a_1 a_2 a_3 a_4 b_0 b_1 b_2 b_3 b_4 c_0 c_1 c_2 c_3 c_4
  have KA : Box w4 w.heap.size (a) := HA.out.later hb
  have KB : Box w4 (w.heap.size + 1) (b) := HB.out.later hb
  have KC : Box w4 (w.heap.size + 1 + 1) (c) := HC.out.later hb
  have G : Hid (Grow w w4) := hide (Grow.trans' G.out hb)
  clear hb HA HB HC
  have HA := hide KA
  have HB := hide KB
  have HC := hide KC
  obtain ⟨a_0, a_1, a_2, a_3, a_4⟩ := KA
  obtain ⟨b_0, b_1, b_2, b_3, b_4⟩ := KB
  obtain ⟨c_0, c_1, c_2, c_3, c_4⟩ := KC
  go_wp2_with fail
  refine (join_any a b _).mono ?_
  rintro e w5 ⟨rfl, hb⟩
  clear a_0 a_1 a_2 a_3 a_4 b_0 b_1 b_2 b_3 b_4 c_0 c_1 c_2 c_3 c_4
  have KA : Box (w5.alloc (.cells #[.int .i64 (joinR a b).e, .int .i64 (joinR a b).d, .int .i64 (joinR a b).x, .int .i64 (joinR a b).y, .int .i64 (joinR a b).z] 25)) w.heap.size (a) := (HA.out.later hb).later (Grow.alloc' _ _)
  have KB : Box (w5.alloc (.cells #[.int .i64 (joinR a b).e, .int .i64 (joinR a b).d, .int .i64 (joinR a b).x, .int .i64 (joinR a b).y, .int .i64 (joinR a b).z] 25)) (w.heap.size + 1) (b) := (HB.out.later hb).later (Grow.alloc' _ _)
  have KC : Box (w5.alloc (.cells #[.int .i64 (joinR a b).e, .int .i64 (joinR a b).d, .int .i64 (joinR a b).x, .int .i64 (joinR a b).y, .int .i64 (joinR a b).z] 25)) (w.heap.size + 1 + 1) (c) := (HC.out.later hb).later (Grow.alloc' _ _)
  have KJ : Box (w5.alloc (.cells #[.int .i64 (joinR a b).e, .int .i64 (joinR a b).d, .int .i64 (joinR a b).x, .int .i64 (joinR a b).y, .int .i64 (joinR a b).z] 25)) w5.heap.size (joinR a b) := Box.new _ _
  have G : Hid (Grow w (w5.alloc (.cells #[.int .i64 (joinR a b).e, .int .i64 (joinR a b).d, .int .i64 (joinR a b).x, .int .i64 (joinR a b).y, .int .i64 (joinR a b).z] 25))) := hide (Grow.trans' (Grow.trans' G.out hb) (Grow.alloc' _ _))
  clear hb HA HB HC
  have HA := hide KA
  have HB := hide KB
  have HC := hide KC
  have HJ := hide KJ
  obtain ⟨a_0, a_1, a_2, a_3, a_4⟩ := KA
  obtain ⟨b_0, b_1, b_2, b_3, b_4⟩ := KB
  obtain ⟨c_0, c_1, c_2, c_3, c_4⟩ := KC
  obtain ⟨j_0, j_1, j_2, j_3, j_4⟩ := KJ
  go_wp2_with fail
  refine (meet_any a b _).mono ?_
  rintro e w6 ⟨rfl, hb⟩
  clear a_0 a_1 a_2 a_3 a_4 b_0 b_1 b_2 b_3 b_4 c_0 c_1 c_2 c_3 c_4 j_0 j_1 j_2 j_3 j_4
  have KA : Box (w6.alloc (.cells #[.int .i64 (meetR a b).e, .int .i64 (meetR a b).d, .int .i64 (meetR a b).x, .int .i64 (meetR a b).y, .int .i64 (meetR a b).z] 25)) w.heap.size (a) := (HA.out.later hb).later (Grow.alloc' _ _)
  have KB : Box (w6.alloc (.cells #[.int .i64 (meetR a b).e, .int .i64 (meetR a b).d, .int .i64 (meetR a b).x, .int .i64 (meetR a b).y, .int .i64 (meetR a b).z] 25)) (w.heap.size + 1) (b) := (HB.out.later hb).later (Grow.alloc' _ _)
  have KC : Box (w6.alloc (.cells #[.int .i64 (meetR a b).e, .int .i64 (meetR a b).d, .int .i64 (meetR a b).x, .int .i64 (meetR a b).y, .int .i64 (meetR a b).z] 25)) (w.heap.size + 1 + 1) (c) := (HC.out.later hb).later (Grow.alloc' _ _)
  have KJ : Box (w6.alloc (.cells #[.int .i64 (meetR a b).e, .int .i64 (meetR a b).d, .int .i64 (meetR a b).x, .int .i64 (meetR a b).y, .int .i64 (meetR a b).z] 25)) w5.heap.size (joinR a b) := (HJ.out.later hb).later (Grow.alloc' _ _)
  have KM : Box (w6.alloc (.cells #[.int .i64 (meetR a b).e, .int .i64 (meetR a b).d, .int .i64 (meetR a b).x, .int .i64 (meetR a b).y, .int .i64 (meetR a b).z] 25)) w6.heap.size (meetR a b) := Box.new _ _
  have G : Hid (Grow w (w6.alloc (.cells #[.int .i64 (meetR a b).e, .int .i64 (meetR a b).d, .int .i64 (meetR a b).x, .int .i64 (meetR a b).y, .int .i64 (meetR a b).z] 25))) := hide (Grow.trans' (Grow.trans' G.out hb) (Grow.alloc' _ _))
  clear hb HA HB HC HJ
  have hE' := hE.out
  have hne' := hne.out
  obtain ⟨a_0, a_1, a_2, a_3, a_4⟩ := KA
  obtain ⟨b_0, b_1, b_2, b_3, b_4⟩ := KB
  obtain ⟨c_0, c_1, c_2, c_3, c_4⟩ := KC
  obtain ⟨j_0, j_1, j_2, j_3, j_4⟩ := KJ
  obtain ⟨m_0, m_1, m_2, m_3, m_4⟩ := KM
  go_wp2
  go_ret
  exact ⟨rfl, G.out⟩

end Go.Proofs.Ytbohgfcndclbjaa
