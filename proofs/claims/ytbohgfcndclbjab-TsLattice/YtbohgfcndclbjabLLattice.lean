/-
  What the law TsLattice does: for every three times it returns true, and what was there stays as it was.
-/
import Derived.Test.YtbohgfcndclbjabFacts3
import Derived.Test.YtbohgfcndclbjabShown
import Derived.Test.YtbohgfcndclbjabMy
namespace Go.Proofs.Ytbohgfcndclbjab
open Go.RowKit
attribute [local go_sem ↓] eqTm
set_option linter.unusedVariables false

theorem mayC (a : Tm) (p : Bool) (h : mayB a = p) (w : World) : Calls Try.prog 6 #[.agg #[.int .i64 a.e, .int .i64 a.d, .int .i64 a.x, .int .i64 a.y, .int .i64 a.z]] w fun e w' => e = .returned (.bool p) ∧ Below w.heap.size w w' := by
  rw [← h]; exact may_any a w

set_option maxHeartbeats 2000000 in
theorem TsLattice_no1 (a b c : Tm) (w : World) (hA : mayB a = false) :
    Calls Try.prog 3 #[.agg #[.int .i64 a.e, .int .i64 a.d, .int .i64 a.x, .int .i64 a.y, .int .i64 a.z], .agg #[.int .i64 b.e, .int .i64 b.d, .int .i64 b.x, .int .i64 b.y, .int .i64 b.z], .agg #[.int .i64 c.e, .int .i64 c.d, .int .i64 c.x, .int .i64 c.y, .int .i64 c.z]] w fun e w' => e = .returned (.bool true) ∧ Below w.heap.size w w' := by
  have KA : Box (((w.alloc (.cells #[.int .i64 a.e, .int .i64 a.d, .int .i64 a.x, .int .i64 a.y, .int .i64 a.z] 24)).alloc (.cells #[.int .i64 b.e, .int .i64 b.d, .int .i64 b.x, .int .i64 b.y, .int .i64 b.z] 24)).alloc (.cells #[.int .i64 c.e, .int .i64 c.d, .int .i64 c.x, .int .i64 c.y, .int .i64 c.z] 24)) w.heap.size a := ((Box.new w a).later (Grow.alloc' _ _)).later (Grow.alloc' _ _)
  have KB : Box (((w.alloc (.cells #[.int .i64 a.e, .int .i64 a.d, .int .i64 a.x, .int .i64 a.y, .int .i64 a.z] 24)).alloc (.cells #[.int .i64 b.e, .int .i64 b.d, .int .i64 b.x, .int .i64 b.y, .int .i64 b.z] 24)).alloc (.cells #[.int .i64 c.e, .int .i64 c.d, .int .i64 c.x, .int .i64 c.y, .int .i64 c.z] 24)) (w.heap.size + 1) b := Box.later (Grow.alloc' _ _) (by simpa using Box.new (w.alloc (.cells #[.int .i64 a.e, .int .i64 a.d, .int .i64 a.x, .int .i64 a.y, .int .i64 a.z] 24)) b)
  have KC : Box (((w.alloc (.cells #[.int .i64 a.e, .int .i64 a.d, .int .i64 a.x, .int .i64 a.y, .int .i64 a.z] 24)).alloc (.cells #[.int .i64 b.e, .int .i64 b.d, .int .i64 b.x, .int .i64 b.y, .int .i64 b.z] 24)).alloc (.cells #[.int .i64 c.e, .int .i64 c.d, .int .i64 c.x, .int .i64 c.y, .int .i64 c.z] 24)) (w.heap.size + 1 + 1) c := by simpa using Box.new ((w.alloc (.cells #[.int .i64 a.e, .int .i64 a.d, .int .i64 a.x, .int .i64 a.y, .int .i64 a.z] 24)).alloc (.cells #[.int .i64 b.e, .int .i64 b.d, .int .i64 b.x, .int .i64 b.y, .int .i64 b.z] 24)) c
  have G : Hid (Grow w (((w.alloc (.cells #[.int .i64 a.e, .int .i64 a.d, .int .i64 a.x, .int .i64 a.y, .int .i64 a.z] 24)).alloc (.cells #[.int .i64 b.e, .int .i64 b.d, .int .i64 b.x, .int .i64 b.y, .int .i64 b.z] 24)).alloc (.cells #[.int .i64 c.e, .int .i64 c.d, .int .i64 c.x, .int .i64 c.y, .int .i64 c.z] 24))) := hide (((Grow.alloc' _ _).trans' (Grow.alloc' _ _)).trans' (Grow.alloc' _ _))
  go_enter Try.func3, Try.ntmps3
  have HA := hide KA
  have HB := hide KB
  have HC := hide KC
  obtain ⟨a_0, a_1, a_2, a_3, a_4⟩ := KA
  obtain ⟨b_0, b_1, b_2, b_3, b_4⟩ := KB
  obtain ⟨c_0, c_1, c_2, c_3, c_4⟩ := KC
  go_wp2_with fail
  refine (shown_any _).mono ?_
  rintro e w1 ⟨rfl, hb⟩
  clear a_0 a_1 a_2 a_3 a_4 b_0 b_1 b_2 b_3 b_4 c_0 c_1 c_2 c_3 c_4
  have KA : Box w1 w.heap.size (a) := HA.out.later hb
  have KB : Box w1 (w.heap.size + 1) (b) := HB.out.later hb
  have KC : Box w1 (w.heap.size + 1 + 1) (c) := HC.out.later hb
  have G : Hid (Grow w w1) := hide (Grow.trans' G.out hb)
  clear hb HA HB HC
  have HA := hide KA
  have HB := hide KB
  have HC := hide KC
  obtain ⟨a_0, a_1, a_2, a_3, a_4⟩ := KA
  obtain ⟨b_0, b_1, b_2, b_3, b_4⟩ := KB
  obtain ⟨c_0, c_1, c_2, c_3, c_4⟩ := KC
  go_wp2_with fail
  refine (mayC a false hA _).mono ?_
  rintro e w2 ⟨rfl, hb⟩
  clear a_0 a_1 a_2 a_3 a_4 b_0 b_1 b_2 b_3 b_4 c_0 c_1 c_2 c_3 c_4
  have KA : Box w2 w.heap.size (a) := HA.out.later hb
  have KB : Box w2 (w.heap.size + 1) (b) := HB.out.later hb
  have KC : Box w2 (w.heap.size + 1 + 1) (c) := HC.out.later hb
  have G : Hid (Grow w w2) := hide (Grow.trans' G.out hb)
  clear hb HA HB HC
  obtain ⟨a_0, a_1, a_2, a_3, a_4⟩ := KA
  obtain ⟨b_0, b_1, b_2, b_3, b_4⟩ := KB
  obtain ⟨c_0, c_1, c_2, c_3, c_4⟩ := KC
  go_wp2
  go_ret
  exact ⟨rfl, G.out⟩

set_option maxHeartbeats 2000000 in
theorem TsLattice_no2 (a b c : Tm) (w : World) (hA : mayB a = true) (hB : mayB b = false) :
    Calls Try.prog 3 #[.agg #[.int .i64 a.e, .int .i64 a.d, .int .i64 a.x, .int .i64 a.y, .int .i64 a.z], .agg #[.int .i64 b.e, .int .i64 b.d, .int .i64 b.x, .int .i64 b.y, .int .i64 b.z], .agg #[.int .i64 c.e, .int .i64 c.d, .int .i64 c.x, .int .i64 c.y, .int .i64 c.z]] w fun e w' => e = .returned (.bool true) ∧ Below w.heap.size w w' := by
  have KA : Box (((w.alloc (.cells #[.int .i64 a.e, .int .i64 a.d, .int .i64 a.x, .int .i64 a.y, .int .i64 a.z] 24)).alloc (.cells #[.int .i64 b.e, .int .i64 b.d, .int .i64 b.x, .int .i64 b.y, .int .i64 b.z] 24)).alloc (.cells #[.int .i64 c.e, .int .i64 c.d, .int .i64 c.x, .int .i64 c.y, .int .i64 c.z] 24)) w.heap.size a := ((Box.new w a).later (Grow.alloc' _ _)).later (Grow.alloc' _ _)
  have KB : Box (((w.alloc (.cells #[.int .i64 a.e, .int .i64 a.d, .int .i64 a.x, .int .i64 a.y, .int .i64 a.z] 24)).alloc (.cells #[.int .i64 b.e, .int .i64 b.d, .int .i64 b.x, .int .i64 b.y, .int .i64 b.z] 24)).alloc (.cells #[.int .i64 c.e, .int .i64 c.d, .int .i64 c.x, .int .i64 c.y, .int .i64 c.z] 24)) (w.heap.size + 1) b := Box.later (Grow.alloc' _ _) (by simpa using Box.new (w.alloc (.cells #[.int .i64 a.e, .int .i64 a.d, .int .i64 a.x, .int .i64 a.y, .int .i64 a.z] 24)) b)
  have KC : Box (((w.alloc (.cells #[.int .i64 a.e, .int .i64 a.d, .int .i64 a.x, .int .i64 a.y, .int .i64 a.z] 24)).alloc (.cells #[.int .i64 b.e, .int .i64 b.d, .int .i64 b.x, .int .i64 b.y, .int .i64 b.z] 24)).alloc (.cells #[.int .i64 c.e, .int .i64 c.d, .int .i64 c.x, .int .i64 c.y, .int .i64 c.z] 24)) (w.heap.size + 1 + 1) c := by simpa using Box.new ((w.alloc (.cells #[.int .i64 a.e, .int .i64 a.d, .int .i64 a.x, .int .i64 a.y, .int .i64 a.z] 24)).alloc (.cells #[.int .i64 b.e, .int .i64 b.d, .int .i64 b.x, .int .i64 b.y, .int .i64 b.z] 24)) c
  have G : Hid (Grow w (((w.alloc (.cells #[.int .i64 a.e, .int .i64 a.d, .int .i64 a.x, .int .i64 a.y, .int .i64 a.z] 24)).alloc (.cells #[.int .i64 b.e, .int .i64 b.d, .int .i64 b.x, .int .i64 b.y, .int .i64 b.z] 24)).alloc (.cells #[.int .i64 c.e, .int .i64 c.d, .int .i64 c.x, .int .i64 c.y, .int .i64 c.z] 24))) := hide (((Grow.alloc' _ _).trans' (Grow.alloc' _ _)).trans' (Grow.alloc' _ _))
  go_enter Try.func3, Try.ntmps3
  have HA := hide KA
  have HB := hide KB
  have HC := hide KC
  obtain ⟨a_0, a_1, a_2, a_3, a_4⟩ := KA
  obtain ⟨b_0, b_1, b_2, b_3, b_4⟩ := KB
  obtain ⟨c_0, c_1, c_2, c_3, c_4⟩ := KC
  go_wp2_with fail
  refine (shown_any _).mono ?_
  rintro e w1 ⟨rfl, hb⟩
  clear a_0 a_1 a_2 a_3 a_4 b_0 b_1 b_2 b_3 b_4 c_0 c_1 c_2 c_3 c_4
  have KA : Box w1 w.heap.size (a) := HA.out.later hb
  have KB : Box w1 (w.heap.size + 1) (b) := HB.out.later hb
  have KC : Box w1 (w.heap.size + 1 + 1) (c) := HC.out.later hb
  have G : Hid (Grow w w1) := hide (Grow.trans' G.out hb)
  clear hb HA HB HC
  have HA := hide KA
  have HB := hide KB
  have HC := hide KC
  obtain ⟨a_0, a_1, a_2, a_3, a_4⟩ := KA
  obtain ⟨b_0, b_1, b_2, b_3, b_4⟩ := KB
  obtain ⟨c_0, c_1, c_2, c_3, c_4⟩ := KC
  go_wp2_with fail
  refine (mayC a true hA _).mono ?_
  rintro e w2 ⟨rfl, hb⟩
  clear a_0 a_1 a_2 a_3 a_4 b_0 b_1 b_2 b_3 b_4 c_0 c_1 c_2 c_3 c_4
  have KA : Box w2 w.heap.size (a) := HA.out.later hb
  have KB : Box w2 (w.heap.size + 1) (b) := HB.out.later hb
  have KC : Box w2 (w.heap.size + 1 + 1) (c) := HC.out.later hb
  have G : Hid (Grow w w2) := hide (Grow.trans' G.out hb)
  clear hb HA HB HC
  have HA := hide KA
  have HB := hide KB
  have HC := hide KC
  obtain ⟨a_0, a_1, a_2, a_3, a_4⟩ := KA
  obtain ⟨b_0, b_1, b_2, b_3, b_4⟩ := KB
  obtain ⟨c_0, c_1, c_2, c_3, c_4⟩ := KC
  go_wp2_with fail
  refine (mayC b false hB _).mono ?_
  rintro e w3 ⟨rfl, hb⟩
  clear a_0 a_1 a_2 a_3 a_4 b_0 b_1 b_2 b_3 b_4 c_0 c_1 c_2 c_3 c_4
  have KA : Box w3 w.heap.size (a) := HA.out.later hb
  have KB : Box w3 (w.heap.size + 1) (b) := HB.out.later hb
  have KC : Box w3 (w.heap.size + 1 + 1) (c) := HC.out.later hb
  have G : Hid (Grow w w3) := hide (Grow.trans' G.out hb)
  clear hb HA HB HC
  obtain ⟨a_0, a_1, a_2, a_3, a_4⟩ := KA
  obtain ⟨b_0, b_1, b_2, b_3, b_4⟩ := KB
  obtain ⟨c_0, c_1, c_2, c_3, c_4⟩ := KC
  go_wp2
  go_ret
  exact ⟨rfl, G.out⟩

set_option maxHeartbeats 2000000 in
theorem TsLattice_no3 (a b c : Tm) (w : World) (hA : mayB a = true) (hB : mayB b = true) (hC : mayB c = false) :
    Calls Try.prog 3 #[.agg #[.int .i64 a.e, .int .i64 a.d, .int .i64 a.x, .int .i64 a.y, .int .i64 a.z], .agg #[.int .i64 b.e, .int .i64 b.d, .int .i64 b.x, .int .i64 b.y, .int .i64 b.z], .agg #[.int .i64 c.e, .int .i64 c.d, .int .i64 c.x, .int .i64 c.y, .int .i64 c.z]] w fun e w' => e = .returned (.bool true) ∧ Below w.heap.size w w' := by
  have KA : Box (((w.alloc (.cells #[.int .i64 a.e, .int .i64 a.d, .int .i64 a.x, .int .i64 a.y, .int .i64 a.z] 24)).alloc (.cells #[.int .i64 b.e, .int .i64 b.d, .int .i64 b.x, .int .i64 b.y, .int .i64 b.z] 24)).alloc (.cells #[.int .i64 c.e, .int .i64 c.d, .int .i64 c.x, .int .i64 c.y, .int .i64 c.z] 24)) w.heap.size a := ((Box.new w a).later (Grow.alloc' _ _)).later (Grow.alloc' _ _)
  have KB : Box (((w.alloc (.cells #[.int .i64 a.e, .int .i64 a.d, .int .i64 a.x, .int .i64 a.y, .int .i64 a.z] 24)).alloc (.cells #[.int .i64 b.e, .int .i64 b.d, .int .i64 b.x, .int .i64 b.y, .int .i64 b.z] 24)).alloc (.cells #[.int .i64 c.e, .int .i64 c.d, .int .i64 c.x, .int .i64 c.y, .int .i64 c.z] 24)) (w.heap.size + 1) b := Box.later (Grow.alloc' _ _) (by simpa using Box.new (w.alloc (.cells #[.int .i64 a.e, .int .i64 a.d, .int .i64 a.x, .int .i64 a.y, .int .i64 a.z] 24)) b)
  have KC : Box (((w.alloc (.cells #[.int .i64 a.e, .int .i64 a.d, .int .i64 a.x, .int .i64 a.y, .int .i64 a.z] 24)).alloc (.cells #[.int .i64 b.e, .int .i64 b.d, .int .i64 b.x, .int .i64 b.y, .int .i64 b.z] 24)).alloc (.cells #[.int .i64 c.e, .int .i64 c.d, .int .i64 c.x, .int .i64 c.y, .int .i64 c.z] 24)) (w.heap.size + 1 + 1) c := by simpa using Box.new ((w.alloc (.cells #[.int .i64 a.e, .int .i64 a.d, .int .i64 a.x, .int .i64 a.y, .int .i64 a.z] 24)).alloc (.cells #[.int .i64 b.e, .int .i64 b.d, .int .i64 b.x, .int .i64 b.y, .int .i64 b.z] 24)) c
  have G : Hid (Grow w (((w.alloc (.cells #[.int .i64 a.e, .int .i64 a.d, .int .i64 a.x, .int .i64 a.y, .int .i64 a.z] 24)).alloc (.cells #[.int .i64 b.e, .int .i64 b.d, .int .i64 b.x, .int .i64 b.y, .int .i64 b.z] 24)).alloc (.cells #[.int .i64 c.e, .int .i64 c.d, .int .i64 c.x, .int .i64 c.y, .int .i64 c.z] 24))) := hide (((Grow.alloc' _ _).trans' (Grow.alloc' _ _)).trans' (Grow.alloc' _ _))
  go_enter Try.func3, Try.ntmps3
  have HA := hide KA
  have HB := hide KB
  have HC := hide KC
  obtain ⟨a_0, a_1, a_2, a_3, a_4⟩ := KA
  obtain ⟨b_0, b_1, b_2, b_3, b_4⟩ := KB
  obtain ⟨c_0, c_1, c_2, c_3, c_4⟩ := KC
  go_wp2_with fail
  refine (shown_any _).mono ?_
  rintro e w1 ⟨rfl, hb⟩
  clear a_0 a_1 a_2 a_3 a_4 b_0 b_1 b_2 b_3 b_4 c_0 c_1 c_2 c_3 c_4
  have KA : Box w1 w.heap.size (a) := HA.out.later hb
  have KB : Box w1 (w.heap.size + 1) (b) := HB.out.later hb
  have KC : Box w1 (w.heap.size + 1 + 1) (c) := HC.out.later hb
  have G : Hid (Grow w w1) := hide (Grow.trans' G.out hb)
  clear hb HA HB HC
  have HA := hide KA
  have HB := hide KB
  have HC := hide KC
  obtain ⟨a_0, a_1, a_2, a_3, a_4⟩ := KA
  obtain ⟨b_0, b_1, b_2, b_3, b_4⟩ := KB
  obtain ⟨c_0, c_1, c_2, c_3, c_4⟩ := KC
  go_wp2_with fail
  refine (mayC a true hA _).mono ?_
  rintro e w2 ⟨rfl, hb⟩
  clear a_0 a_1 a_2 a_3 a_4 b_0 b_1 b_2 b_3 b_4 c_0 c_1 c_2 c_3 c_4
  have KA : Box w2 w.heap.size (a) := HA.out.later hb
  have KB : Box w2 (w.heap.size + 1) (b) := HB.out.later hb
  have KC : Box w2 (w.heap.size + 1 + 1) (c) := HC.out.later hb
  have G : Hid (Grow w w2) := hide (Grow.trans' G.out hb)
  clear hb HA HB HC
  have HA := hide KA
  have HB := hide KB
  have HC := hide KC
  obtain ⟨a_0, a_1, a_2, a_3, a_4⟩ := KA
  obtain ⟨b_0, b_1, b_2, b_3, b_4⟩ := KB
  obtain ⟨c_0, c_1, c_2, c_3, c_4⟩ := KC
  go_wp2_with fail
  refine (mayC b true hB _).mono ?_
  rintro e w3 ⟨rfl, hb⟩
  clear a_0 a_1 a_2 a_3 a_4 b_0 b_1 b_2 b_3 b_4 c_0 c_1 c_2 c_3 c_4
  have KA : Box w3 w.heap.size (a) := HA.out.later hb
  have KB : Box w3 (w.heap.size + 1) (b) := HB.out.later hb
  have KC : Box w3 (w.heap.size + 1 + 1) (c) := HC.out.later hb
  have G : Hid (Grow w w3) := hide (Grow.trans' G.out hb)
  clear hb HA HB HC
  have HA := hide KA
  have HB := hide KB
  have HC := hide KC
  obtain ⟨a_0, a_1, a_2, a_3, a_4⟩ := KA
  obtain ⟨b_0, b_1, b_2, b_3, b_4⟩ := KB
  obtain ⟨c_0, c_1, c_2, c_3, c_4⟩ := KC
  go_wp2_with fail
  refine (mayC c false hC _).mono ?_
  rintro e w4 ⟨rfl, hb⟩
  clear a_0 a_1 a_2 a_3 a_4 b_0 b_1 b_2 b_3 b_4 c_0 c_1 c_2 c_3 c_4
  have KA : Box w4 w.heap.size (a) := HA.out.later hb
  have KB : Box w4 (w.heap.size + 1) (b) := HB.out.later hb
  have KC : Box w4 (w.heap.size + 1 + 1) (c) := HC.out.later hb
  have G : Hid (Grow w w4) := hide (Grow.trans' G.out hb)
  clear hb HA HB HC
  obtain ⟨a_0, a_1, a_2, a_3, a_4⟩ := KA
  obtain ⟨b_0, b_1, b_2, b_3, b_4⟩ := KB
  obtain ⟨c_0, c_1, c_2, c_3, c_4⟩ := KC
  go_wp2
  go_ret
  exact ⟨rfl, G.out⟩

set_option maxHeartbeats 2000000 in
theorem TsLattice_d1 (a b c : Tm) (w : World) (hA : mayB a = true) (hB : mayB b = true) (hC : mayB c = true) (hd : ¬ a.d = b.d) :
    Calls Try.prog 3 #[.agg #[.int .i64 a.e, .int .i64 a.d, .int .i64 a.x, .int .i64 a.y, .int .i64 a.z], .agg #[.int .i64 b.e, .int .i64 b.d, .int .i64 b.x, .int .i64 b.y, .int .i64 b.z], .agg #[.int .i64 c.e, .int .i64 c.d, .int .i64 c.x, .int .i64 c.y, .int .i64 c.z]] w fun e w' => e = .returned (.bool true) ∧ Below w.heap.size w w' := by
  have hA' := hide hA
  have hB' := hide hB
  have hC' := hide hC
  have hne := show (a.d != b.d) = true by simp [hd]
  clear hA hB hC hd
  have KA : Box (((w.alloc (.cells #[.int .i64 a.e, .int .i64 a.d, .int .i64 a.x, .int .i64 a.y, .int .i64 a.z] 24)).alloc (.cells #[.int .i64 b.e, .int .i64 b.d, .int .i64 b.x, .int .i64 b.y, .int .i64 b.z] 24)).alloc (.cells #[.int .i64 c.e, .int .i64 c.d, .int .i64 c.x, .int .i64 c.y, .int .i64 c.z] 24)) w.heap.size a := ((Box.new w a).later (Grow.alloc' _ _)).later (Grow.alloc' _ _)
  have KB : Box (((w.alloc (.cells #[.int .i64 a.e, .int .i64 a.d, .int .i64 a.x, .int .i64 a.y, .int .i64 a.z] 24)).alloc (.cells #[.int .i64 b.e, .int .i64 b.d, .int .i64 b.x, .int .i64 b.y, .int .i64 b.z] 24)).alloc (.cells #[.int .i64 c.e, .int .i64 c.d, .int .i64 c.x, .int .i64 c.y, .int .i64 c.z] 24)) (w.heap.size + 1) b := Box.later (Grow.alloc' _ _) (by simpa using Box.new (w.alloc (.cells #[.int .i64 a.e, .int .i64 a.d, .int .i64 a.x, .int .i64 a.y, .int .i64 a.z] 24)) b)
  have KC : Box (((w.alloc (.cells #[.int .i64 a.e, .int .i64 a.d, .int .i64 a.x, .int .i64 a.y, .int .i64 a.z] 24)).alloc (.cells #[.int .i64 b.e, .int .i64 b.d, .int .i64 b.x, .int .i64 b.y, .int .i64 b.z] 24)).alloc (.cells #[.int .i64 c.e, .int .i64 c.d, .int .i64 c.x, .int .i64 c.y, .int .i64 c.z] 24)) (w.heap.size + 1 + 1) c := by simpa using Box.new ((w.alloc (.cells #[.int .i64 a.e, .int .i64 a.d, .int .i64 a.x, .int .i64 a.y, .int .i64 a.z] 24)).alloc (.cells #[.int .i64 b.e, .int .i64 b.d, .int .i64 b.x, .int .i64 b.y, .int .i64 b.z] 24)) c
  have G : Hid (Grow w (((w.alloc (.cells #[.int .i64 a.e, .int .i64 a.d, .int .i64 a.x, .int .i64 a.y, .int .i64 a.z] 24)).alloc (.cells #[.int .i64 b.e, .int .i64 b.d, .int .i64 b.x, .int .i64 b.y, .int .i64 b.z] 24)).alloc (.cells #[.int .i64 c.e, .int .i64 c.d, .int .i64 c.x, .int .i64 c.y, .int .i64 c.z] 24))) := hide (((Grow.alloc' _ _).trans' (Grow.alloc' _ _)).trans' (Grow.alloc' _ _))
  go_enter Try.func3, Try.ntmps3
  have HA := hide KA
  have HB := hide KB
  have HC := hide KC
  obtain ⟨a_0, a_1, a_2, a_3, a_4⟩ := KA
  obtain ⟨b_0, b_1, b_2, b_3, b_4⟩ := KB
  obtain ⟨c_0, c_1, c_2, c_3, c_4⟩ := KC
  go_wp2_with fail
  refine (shown_any _).mono ?_
  rintro e w1 ⟨rfl, hb⟩
  clear a_0 a_1 a_2 a_3 a_4 b_0 b_1 b_2 b_3 b_4 c_0 c_1 c_2 c_3 c_4
  have KA : Box w1 w.heap.size (a) := HA.out.later hb
  have KB : Box w1 (w.heap.size + 1) (b) := HB.out.later hb
  have KC : Box w1 (w.heap.size + 1 + 1) (c) := HC.out.later hb
  have G : Hid (Grow w w1) := hide (Grow.trans' G.out hb)
  clear hb HA HB HC
  have HA := hide KA
  have HB := hide KB
  have HC := hide KC
  obtain ⟨a_0, a_1, a_2, a_3, a_4⟩ := KA
  obtain ⟨b_0, b_1, b_2, b_3, b_4⟩ := KB
  obtain ⟨c_0, c_1, c_2, c_3, c_4⟩ := KC
  go_wp2_with fail
  refine (mayC a true hA'.out _).mono ?_
  rintro e w2 ⟨rfl, hb⟩
  clear a_0 a_1 a_2 a_3 a_4 b_0 b_1 b_2 b_3 b_4 c_0 c_1 c_2 c_3 c_4
  have KA : Box w2 w.heap.size (a) := HA.out.later hb
  have KB : Box w2 (w.heap.size + 1) (b) := HB.out.later hb
  have KC : Box w2 (w.heap.size + 1 + 1) (c) := HC.out.later hb
  have G : Hid (Grow w w2) := hide (Grow.trans' G.out hb)
  clear hb HA HB HC
  have HA := hide KA
  have HB := hide KB
  have HC := hide KC
  obtain ⟨a_0, a_1, a_2, a_3, a_4⟩ := KA
  obtain ⟨b_0, b_1, b_2, b_3, b_4⟩ := KB
  obtain ⟨c_0, c_1, c_2, c_3, c_4⟩ := KC
  go_wp2_with fail
  refine (mayC b true hB'.out _).mono ?_
  rintro e w3 ⟨rfl, hb⟩
  clear a_0 a_1 a_2 a_3 a_4 b_0 b_1 b_2 b_3 b_4 c_0 c_1 c_2 c_3 c_4
  have KA : Box w3 w.heap.size (a) := HA.out.later hb
  have KB : Box w3 (w.heap.size + 1) (b) := HB.out.later hb
  have KC : Box w3 (w.heap.size + 1 + 1) (c) := HC.out.later hb
  have G : Hid (Grow w w3) := hide (Grow.trans' G.out hb)
  clear hb HA HB HC
  have HA := hide KA
  have HB := hide KB
  have HC := hide KC
  obtain ⟨a_0, a_1, a_2, a_3, a_4⟩ := KA
  obtain ⟨b_0, b_1, b_2, b_3, b_4⟩ := KB
  obtain ⟨c_0, c_1, c_2, c_3, c_4⟩ := KC
  go_wp2_with fail
  refine (mayC c true hC'.out _).mono ?_
  rintro e w4 ⟨rfl, hb⟩
  clear a_0 a_1 a_2 a_3 a_4 b_0 b_1 b_2 b_3 b_4 c_0 c_1 c_2 c_3 c_4
  have KA : Box w4 w.heap.size (a) := HA.out.later hb
  have KB : Box w4 (w.heap.size + 1) (b) := HB.out.later hb
  have KC : Box w4 (w.heap.size + 1 + 1) (c) := HC.out.later hb
  have G : Hid (Grow w w4) := hide (Grow.trans' G.out hb)
  clear hb HA HB HC
  obtain ⟨a_0, a_1, a_2, a_3, a_4⟩ := KA
  obtain ⟨b_0, b_1, b_2, b_3, b_4⟩ := KB
  obtain ⟨c_0, c_1, c_2, c_3, c_4⟩ := KC
  go_wp2
  go_ret
  exact ⟨rfl, G.out⟩

set_option maxHeartbeats 2000000 in
theorem TsLattice_d2 (a b c : Tm) (w : World) (hA : mayB a = true) (hB : mayB b = true) (hC : mayB c = true) (hd : a.d = b.d) (he : ¬ b.d = c.d) :
    Calls Try.prog 3 #[.agg #[.int .i64 a.e, .int .i64 a.d, .int .i64 a.x, .int .i64 a.y, .int .i64 a.z], .agg #[.int .i64 b.e, .int .i64 b.d, .int .i64 b.x, .int .i64 b.y, .int .i64 b.z], .agg #[.int .i64 c.e, .int .i64 c.d, .int .i64 c.x, .int .i64 c.y, .int .i64 c.z]] w fun e w' => e = .returned (.bool true) ∧ Below w.heap.size w w' := by
  have hA' := hide hA
  have hB' := hide hB
  have hC' := hide hC
  have hn1 := show (a.d != b.d) = false by simp [hd]
  have hn2 := show (b.d != c.d) = true by simp [he]
  clear hA hB hC hd he
  have KA : Box (((w.alloc (.cells #[.int .i64 a.e, .int .i64 a.d, .int .i64 a.x, .int .i64 a.y, .int .i64 a.z] 24)).alloc (.cells #[.int .i64 b.e, .int .i64 b.d, .int .i64 b.x, .int .i64 b.y, .int .i64 b.z] 24)).alloc (.cells #[.int .i64 c.e, .int .i64 c.d, .int .i64 c.x, .int .i64 c.y, .int .i64 c.z] 24)) w.heap.size a := ((Box.new w a).later (Grow.alloc' _ _)).later (Grow.alloc' _ _)
  have KB : Box (((w.alloc (.cells #[.int .i64 a.e, .int .i64 a.d, .int .i64 a.x, .int .i64 a.y, .int .i64 a.z] 24)).alloc (.cells #[.int .i64 b.e, .int .i64 b.d, .int .i64 b.x, .int .i64 b.y, .int .i64 b.z] 24)).alloc (.cells #[.int .i64 c.e, .int .i64 c.d, .int .i64 c.x, .int .i64 c.y, .int .i64 c.z] 24)) (w.heap.size + 1) b := Box.later (Grow.alloc' _ _) (by simpa using Box.new (w.alloc (.cells #[.int .i64 a.e, .int .i64 a.d, .int .i64 a.x, .int .i64 a.y, .int .i64 a.z] 24)) b)
  have KC : Box (((w.alloc (.cells #[.int .i64 a.e, .int .i64 a.d, .int .i64 a.x, .int .i64 a.y, .int .i64 a.z] 24)).alloc (.cells #[.int .i64 b.e, .int .i64 b.d, .int .i64 b.x, .int .i64 b.y, .int .i64 b.z] 24)).alloc (.cells #[.int .i64 c.e, .int .i64 c.d, .int .i64 c.x, .int .i64 c.y, .int .i64 c.z] 24)) (w.heap.size + 1 + 1) c := by simpa using Box.new ((w.alloc (.cells #[.int .i64 a.e, .int .i64 a.d, .int .i64 a.x, .int .i64 a.y, .int .i64 a.z] 24)).alloc (.cells #[.int .i64 b.e, .int .i64 b.d, .int .i64 b.x, .int .i64 b.y, .int .i64 b.z] 24)) c
  have G : Hid (Grow w (((w.alloc (.cells #[.int .i64 a.e, .int .i64 a.d, .int .i64 a.x, .int .i64 a.y, .int .i64 a.z] 24)).alloc (.cells #[.int .i64 b.e, .int .i64 b.d, .int .i64 b.x, .int .i64 b.y, .int .i64 b.z] 24)).alloc (.cells #[.int .i64 c.e, .int .i64 c.d, .int .i64 c.x, .int .i64 c.y, .int .i64 c.z] 24))) := hide (((Grow.alloc' _ _).trans' (Grow.alloc' _ _)).trans' (Grow.alloc' _ _))
  go_enter Try.func3, Try.ntmps3
  have HA := hide KA
  have HB := hide KB
  have HC := hide KC
  obtain ⟨a_0, a_1, a_2, a_3, a_4⟩ := KA
  obtain ⟨b_0, b_1, b_2, b_3, b_4⟩ := KB
  obtain ⟨c_0, c_1, c_2, c_3, c_4⟩ := KC
  go_wp2_with fail
  refine (shown_any _).mono ?_
  rintro e w1 ⟨rfl, hb⟩
  clear a_0 a_1 a_2 a_3 a_4 b_0 b_1 b_2 b_3 b_4 c_0 c_1 c_2 c_3 c_4
  have KA : Box w1 w.heap.size (a) := HA.out.later hb
  have KB : Box w1 (w.heap.size + 1) (b) := HB.out.later hb
  have KC : Box w1 (w.heap.size + 1 + 1) (c) := HC.out.later hb
  have G : Hid (Grow w w1) := hide (Grow.trans' G.out hb)
  clear hb HA HB HC
  have HA := hide KA
  have HB := hide KB
  have HC := hide KC
  obtain ⟨a_0, a_1, a_2, a_3, a_4⟩ := KA
  obtain ⟨b_0, b_1, b_2, b_3, b_4⟩ := KB
  obtain ⟨c_0, c_1, c_2, c_3, c_4⟩ := KC
  go_wp2_with fail
  refine (mayC a true hA'.out _).mono ?_
  rintro e w2 ⟨rfl, hb⟩
  clear a_0 a_1 a_2 a_3 a_4 b_0 b_1 b_2 b_3 b_4 c_0 c_1 c_2 c_3 c_4
  have KA : Box w2 w.heap.size (a) := HA.out.later hb
  have KB : Box w2 (w.heap.size + 1) (b) := HB.out.later hb
  have KC : Box w2 (w.heap.size + 1 + 1) (c) := HC.out.later hb
  have G : Hid (Grow w w2) := hide (Grow.trans' G.out hb)
  clear hb HA HB HC
  have HA := hide KA
  have HB := hide KB
  have HC := hide KC
  obtain ⟨a_0, a_1, a_2, a_3, a_4⟩ := KA
  obtain ⟨b_0, b_1, b_2, b_3, b_4⟩ := KB
  obtain ⟨c_0, c_1, c_2, c_3, c_4⟩ := KC
  go_wp2_with fail
  refine (mayC b true hB'.out _).mono ?_
  rintro e w3 ⟨rfl, hb⟩
  clear a_0 a_1 a_2 a_3 a_4 b_0 b_1 b_2 b_3 b_4 c_0 c_1 c_2 c_3 c_4
  have KA : Box w3 w.heap.size (a) := HA.out.later hb
  have KB : Box w3 (w.heap.size + 1) (b) := HB.out.later hb
  have KC : Box w3 (w.heap.size + 1 + 1) (c) := HC.out.later hb
  have G : Hid (Grow w w3) := hide (Grow.trans' G.out hb)
  clear hb HA HB HC
  have HA := hide KA
  have HB := hide KB
  have HC := hide KC
  obtain ⟨a_0, a_1, a_2, a_3, a_4⟩ := KA
  obtain ⟨b_0, b_1, b_2, b_3, b_4⟩ := KB
  obtain ⟨c_0, c_1, c_2, c_3, c_4⟩ := KC
  go_wp2_with fail
  refine (mayC c true hC'.out _).mono ?_
  rintro e w4 ⟨rfl, hb⟩
  clear a_0 a_1 a_2 a_3 a_4 b_0 b_1 b_2 b_3 b_4 c_0 c_1 c_2 c_3 c_4
  have KA : Box w4 w.heap.size (a) := HA.out.later hb
  have KB : Box w4 (w.heap.size + 1) (b) := HB.out.later hb
  have KC : Box w4 (w.heap.size + 1 + 1) (c) := HC.out.later hb
  have G : Hid (Grow w w4) := hide (Grow.trans' G.out hb)
  clear hb HA HB HC
  obtain ⟨a_0, a_1, a_2, a_3, a_4⟩ := KA
  obtain ⟨b_0, b_1, b_2, b_3, b_4⟩ := KB
  obtain ⟨c_0, c_1, c_2, c_3, c_4⟩ := KC
  go_wp2
  go_ret
  exact ⟨rfl, G.out⟩

set_option maxHeartbeats 8000000 in
theorem TsLattice_all (a b c : Tm) (w : World) (hA : mayB a = true) (hB : mayB b = true) (hC : mayB c = true) (hd : a.d = b.d) (he : b.d = c.d) :
    Calls Try.prog 3 #[.agg #[.int .i64 a.e, .int .i64 a.d, .int .i64 a.x, .int .i64 a.y, .int .i64 a.z], .agg #[.int .i64 b.e, .int .i64 b.d, .int .i64 b.x, .int .i64 b.y, .int .i64 b.z], .agg #[.int .i64 c.e, .int .i64 c.d, .int .i64 c.x, .int .i64 c.y, .int .i64 c.z]] w fun e w' => e = .returned (.bool true) ∧ Below w.heap.size w w' := by
  have hA' := hide hA
  have hB' := hide hB
  have hC' := hide hC
  have q1 := hide (eqB_of (lat_join_comm hA hB hd))
  have q2 := hide (eqB_of (lat_assoc hA hB hC hd he))
  have q3 := hide (eqB_of (lat_meet_comm hA hB hd))
  have q4 := hide (eqB_of (lat_meet_join hA hB hd))
  have q5 := hide (eqB_of (lat_join_meet hA hB hd))
  have q6 := hide (eqB_of (lat_self hA))
  have hn1 := show (a.d != b.d) = false by simp [hd]
  have hn2 := show (b.d != c.d) = false by simp [he]
  clear hA hB hC hd he
  have KA : Box (((w.alloc (.cells #[.int .i64 a.e, .int .i64 a.d, .int .i64 a.x, .int .i64 a.y, .int .i64 a.z] 24)).alloc (.cells #[.int .i64 b.e, .int .i64 b.d, .int .i64 b.x, .int .i64 b.y, .int .i64 b.z] 24)).alloc (.cells #[.int .i64 c.e, .int .i64 c.d, .int .i64 c.x, .int .i64 c.y, .int .i64 c.z] 24)) w.heap.size a := ((Box.new w a).later (Grow.alloc' _ _)).later (Grow.alloc' _ _)
  have KB : Box (((w.alloc (.cells #[.int .i64 a.e, .int .i64 a.d, .int .i64 a.x, .int .i64 a.y, .int .i64 a.z] 24)).alloc (.cells #[.int .i64 b.e, .int .i64 b.d, .int .i64 b.x, .int .i64 b.y, .int .i64 b.z] 24)).alloc (.cells #[.int .i64 c.e, .int .i64 c.d, .int .i64 c.x, .int .i64 c.y, .int .i64 c.z] 24)) (w.heap.size + 1) b := Box.later (Grow.alloc' _ _) (by simpa using Box.new (w.alloc (.cells #[.int .i64 a.e, .int .i64 a.d, .int .i64 a.x, .int .i64 a.y, .int .i64 a.z] 24)) b)
  have KC : Box (((w.alloc (.cells #[.int .i64 a.e, .int .i64 a.d, .int .i64 a.x, .int .i64 a.y, .int .i64 a.z] 24)).alloc (.cells #[.int .i64 b.e, .int .i64 b.d, .int .i64 b.x, .int .i64 b.y, .int .i64 b.z] 24)).alloc (.cells #[.int .i64 c.e, .int .i64 c.d, .int .i64 c.x, .int .i64 c.y, .int .i64 c.z] 24)) (w.heap.size + 1 + 1) c := by simpa using Box.new ((w.alloc (.cells #[.int .i64 a.e, .int .i64 a.d, .int .i64 a.x, .int .i64 a.y, .int .i64 a.z] 24)).alloc (.cells #[.int .i64 b.e, .int .i64 b.d, .int .i64 b.x, .int .i64 b.y, .int .i64 b.z] 24)) c
  have G : Hid (Grow w (((w.alloc (.cells #[.int .i64 a.e, .int .i64 a.d, .int .i64 a.x, .int .i64 a.y, .int .i64 a.z] 24)).alloc (.cells #[.int .i64 b.e, .int .i64 b.d, .int .i64 b.x, .int .i64 b.y, .int .i64 b.z] 24)).alloc (.cells #[.int .i64 c.e, .int .i64 c.d, .int .i64 c.x, .int .i64 c.y, .int .i64 c.z] 24))) := hide (((Grow.alloc' _ _).trans' (Grow.alloc' _ _)).trans' (Grow.alloc' _ _))
  go_enter Try.func3, Try.ntmps3
  have HA := hide KA
  have HB := hide KB
  have HC := hide KC
  obtain ⟨a_0, a_1, a_2, a_3, a_4⟩ := KA
  obtain ⟨b_0, b_1, b_2, b_3, b_4⟩ := KB
  obtain ⟨c_0, c_1, c_2, c_3, c_4⟩ := KC
  go_wp2_with fail
  refine (shown_any _).mono ?_
  rintro e w1 ⟨rfl, hb⟩
  clear a_0 a_1 a_2 a_3 a_4 b_0 b_1 b_2 b_3 b_4 c_0 c_1 c_2 c_3 c_4
  have KA : Box w1 w.heap.size (a) := HA.out.later hb
  have KB : Box w1 (w.heap.size + 1) (b) := HB.out.later hb
  have KC : Box w1 (w.heap.size + 1 + 1) (c) := HC.out.later hb
  have G : Hid (Grow w w1) := hide (Grow.trans' G.out hb)
  clear hb HA HB HC
  have HA := hide KA
  have HB := hide KB
  have HC := hide KC
  obtain ⟨a_0, a_1, a_2, a_3, a_4⟩ := KA
  obtain ⟨b_0, b_1, b_2, b_3, b_4⟩ := KB
  obtain ⟨c_0, c_1, c_2, c_3, c_4⟩ := KC
  go_wp2_with fail
  refine (mayC a true hA'.out _).mono ?_
  rintro e w2 ⟨rfl, hb⟩
  clear a_0 a_1 a_2 a_3 a_4 b_0 b_1 b_2 b_3 b_4 c_0 c_1 c_2 c_3 c_4
  have KA : Box w2 w.heap.size (a) := HA.out.later hb
  have KB : Box w2 (w.heap.size + 1) (b) := HB.out.later hb
  have KC : Box w2 (w.heap.size + 1 + 1) (c) := HC.out.later hb
  have G : Hid (Grow w w2) := hide (Grow.trans' G.out hb)
  clear hb HA HB HC
  have HA := hide KA
  have HB := hide KB
  have HC := hide KC
  obtain ⟨a_0, a_1, a_2, a_3, a_4⟩ := KA
  obtain ⟨b_0, b_1, b_2, b_3, b_4⟩ := KB
  obtain ⟨c_0, c_1, c_2, c_3, c_4⟩ := KC
  go_wp2_with fail
  refine (mayC b true hB'.out _).mono ?_
  rintro e w3 ⟨rfl, hb⟩
  clear a_0 a_1 a_2 a_3 a_4 b_0 b_1 b_2 b_3 b_4 c_0 c_1 c_2 c_3 c_4
  have KA : Box w3 w.heap.size (a) := HA.out.later hb
  have KB : Box w3 (w.heap.size + 1) (b) := HB.out.later hb
  have KC : Box w3 (w.heap.size + 1 + 1) (c) := HC.out.later hb
  have G : Hid (Grow w w3) := hide (Grow.trans' G.out hb)
  clear hb HA HB HC
  have HA := hide KA
  have HB := hide KB
  have HC := hide KC
  obtain ⟨a_0, a_1, a_2, a_3, a_4⟩ := KA
  obtain ⟨b_0, b_1, b_2, b_3, b_4⟩ := KB
  obtain ⟨c_0, c_1, c_2, c_3, c_4⟩ := KC
  go_wp2_with fail
  refine (mayC c true hC'.out _).mono ?_
  rintro e w4 ⟨rfl, hb⟩
  clear a_0 a_1 a_2 a_3 a_4 b_0 b_1 b_2 b_3 b_4 c_0 c_1 c_2 c_3 c_4
  have KA : Box w4 w.heap.size (a) := HA.out.later hb
  have KB : Box w4 (w.heap.size + 1) (b) := HB.out.later hb
  have KC : Box w4 (w.heap.size + 1 + 1) (c) := HC.out.later hb
  have G : Hid (Grow w w4) := hide (Grow.trans' G.out hb)
  clear hb HA HB HC
  have HA := hide KA
  have HB := hide KB
  have HC := hide KC
  obtain ⟨a_0, a_1, a_2, a_3, a_4⟩ := KA
  obtain ⟨b_0, b_1, b_2, b_3, b_4⟩ := KB
  obtain ⟨c_0, c_1, c_2, c_3, c_4⟩ := KC
  go_wp2_with fail
  refine (join_any a b _).mono ?_
  rintro e w5 ⟨rfl, hb⟩
  clear a_0 a_1 a_2 a_3 a_4 b_0 b_1 b_2 b_3 b_4 c_0 c_1 c_2 c_3 c_4
  have KA : Box (w5.alloc (.cells #[.int .i64 (joinR a b).e, .int .i64 (joinR a b).d, .int .i64 (joinR a b).x, .int .i64 (joinR a b).y, .int .i64 (joinR a b).z] 24)) w.heap.size (a) := (HA.out.later hb).later (Grow.alloc' _ _)
  have KB : Box (w5.alloc (.cells #[.int .i64 (joinR a b).e, .int .i64 (joinR a b).d, .int .i64 (joinR a b).x, .int .i64 (joinR a b).y, .int .i64 (joinR a b).z] 24)) (w.heap.size + 1) (b) := (HB.out.later hb).later (Grow.alloc' _ _)
  have KC : Box (w5.alloc (.cells #[.int .i64 (joinR a b).e, .int .i64 (joinR a b).d, .int .i64 (joinR a b).x, .int .i64 (joinR a b).y, .int .i64 (joinR a b).z] 24)) (w.heap.size + 1 + 1) (c) := (HC.out.later hb).later (Grow.alloc' _ _)
  have KD : Box (w5.alloc (.cells #[.int .i64 (joinR a b).e, .int .i64 (joinR a b).d, .int .i64 (joinR a b).x, .int .i64 (joinR a b).y, .int .i64 (joinR a b).z] 24)) w5.heap.size (joinR a b) := Box.new _ _
  have G : Hid (Grow w (w5.alloc (.cells #[.int .i64 (joinR a b).e, .int .i64 (joinR a b).d, .int .i64 (joinR a b).x, .int .i64 (joinR a b).y, .int .i64 (joinR a b).z] 24))) := hide (Grow.trans' (Grow.trans' G.out hb) (Grow.alloc' _ _))
  clear hb HA HB HC
  have HA := hide KA
  have HB := hide KB
  have HC := hide KC
  have HD := hide KD
  obtain ⟨a_0, a_1, a_2, a_3, a_4⟩ := KA
  obtain ⟨b_0, b_1, b_2, b_3, b_4⟩ := KB
  obtain ⟨c_0, c_1, c_2, c_3, c_4⟩ := KC
  obtain ⟨d_0, d_1, d_2, d_3, d_4⟩ := KD
  go_wp2_with fail
  refine (join_any b a _).mono ?_
  rintro e w6 ⟨rfl, hb⟩
  clear a_0 a_1 a_2 a_3 a_4 b_0 b_1 b_2 b_3 b_4 c_0 c_1 c_2 c_3 c_4 d_0 d_1 d_2 d_3 d_4
  have KA : Box (w6.alloc (.cells #[.int .i64 (joinR b a).e, .int .i64 (joinR b a).d, .int .i64 (joinR b a).x, .int .i64 (joinR b a).y, .int .i64 (joinR b a).z] 24)) w.heap.size (a) := (HA.out.later hb).later (Grow.alloc' _ _)
  have KB : Box (w6.alloc (.cells #[.int .i64 (joinR b a).e, .int .i64 (joinR b a).d, .int .i64 (joinR b a).x, .int .i64 (joinR b a).y, .int .i64 (joinR b a).z] 24)) (w.heap.size + 1) (b) := (HB.out.later hb).later (Grow.alloc' _ _)
  have KC : Box (w6.alloc (.cells #[.int .i64 (joinR b a).e, .int .i64 (joinR b a).d, .int .i64 (joinR b a).x, .int .i64 (joinR b a).y, .int .i64 (joinR b a).z] 24)) (w.heap.size + 1 + 1) (c) := (HC.out.later hb).later (Grow.alloc' _ _)
  have KD : Box (w6.alloc (.cells #[.int .i64 (joinR b a).e, .int .i64 (joinR b a).d, .int .i64 (joinR b a).x, .int .i64 (joinR b a).y, .int .i64 (joinR b a).z] 24)) w5.heap.size (joinR a b) := (HD.out.later hb).later (Grow.alloc' _ _)
  have KE : Box (w6.alloc (.cells #[.int .i64 (joinR b a).e, .int .i64 (joinR b a).d, .int .i64 (joinR b a).x, .int .i64 (joinR b a).y, .int .i64 (joinR b a).z] 24)) w6.heap.size (joinR b a) := Box.new _ _
  have G : Hid (Grow w (w6.alloc (.cells #[.int .i64 (joinR b a).e, .int .i64 (joinR b a).d, .int .i64 (joinR b a).x, .int .i64 (joinR b a).y, .int .i64 (joinR b a).z] 24))) := hide (Grow.trans' (Grow.trans' G.out hb) (Grow.alloc' _ _))
  clear hb HA HB HC HD
  have HA := hide KA
  have HB := hide KB
  have HC := hide KC
  have HD := hide KD
  have HE := hide KE
  obtain ⟨a_0, a_1, a_2, a_3, a_4⟩ := KA
  obtain ⟨b_0, b_1, b_2, b_3, b_4⟩ := KB
  obtain ⟨c_0, c_1, c_2, c_3, c_4⟩ := KC
  obtain ⟨d_0, d_1, d_2, d_3, d_4⟩ := KD
  obtain ⟨e_0, e_1, e_2, e_3, e_4⟩ := KE
  go_wp2_with fail
  refine (join_any b c _).mono ?_
  rintro e w7 ⟨rfl, hb⟩
  clear a_0 a_1 a_2 a_3 a_4 b_0 b_1 b_2 b_3 b_4 c_0 c_1 c_2 c_3 c_4 d_0 d_1 d_2 d_3 d_4 e_0 e_1 e_2 e_3 e_4
  have KA : Box (w7.alloc (.cells #[.int .i64 (joinR b c).e, .int .i64 (joinR b c).d, .int .i64 (joinR b c).x, .int .i64 (joinR b c).y, .int .i64 (joinR b c).z] 24)) w.heap.size (a) := (HA.out.later hb).later (Grow.alloc' _ _)
  have KB : Box (w7.alloc (.cells #[.int .i64 (joinR b c).e, .int .i64 (joinR b c).d, .int .i64 (joinR b c).x, .int .i64 (joinR b c).y, .int .i64 (joinR b c).z] 24)) (w.heap.size + 1) (b) := (HB.out.later hb).later (Grow.alloc' _ _)
  have KC : Box (w7.alloc (.cells #[.int .i64 (joinR b c).e, .int .i64 (joinR b c).d, .int .i64 (joinR b c).x, .int .i64 (joinR b c).y, .int .i64 (joinR b c).z] 24)) (w.heap.size + 1 + 1) (c) := (HC.out.later hb).later (Grow.alloc' _ _)
  have KD : Box (w7.alloc (.cells #[.int .i64 (joinR b c).e, .int .i64 (joinR b c).d, .int .i64 (joinR b c).x, .int .i64 (joinR b c).y, .int .i64 (joinR b c).z] 24)) w5.heap.size (joinR a b) := (HD.out.later hb).later (Grow.alloc' _ _)
  have KE : Box (w7.alloc (.cells #[.int .i64 (joinR b c).e, .int .i64 (joinR b c).d, .int .i64 (joinR b c).x, .int .i64 (joinR b c).y, .int .i64 (joinR b c).z] 24)) w6.heap.size (joinR b a) := (HE.out.later hb).later (Grow.alloc' _ _)
  have KF : Box (w7.alloc (.cells #[.int .i64 (joinR b c).e, .int .i64 (joinR b c).d, .int .i64 (joinR b c).x, .int .i64 (joinR b c).y, .int .i64 (joinR b c).z] 24)) w7.heap.size (joinR b c) := Box.new _ _
  have G : Hid (Grow w (w7.alloc (.cells #[.int .i64 (joinR b c).e, .int .i64 (joinR b c).d, .int .i64 (joinR b c).x, .int .i64 (joinR b c).y, .int .i64 (joinR b c).z] 24))) := hide (Grow.trans' (Grow.trans' G.out hb) (Grow.alloc' _ _))
  clear hb HA HB HC HD HE
  have HA := hide KA
  have HB := hide KB
  have HC := hide KC
  have HD := hide KD
  have HE := hide KE
  have HF := hide KF
  obtain ⟨a_0, a_1, a_2, a_3, a_4⟩ := KA
  obtain ⟨b_0, b_1, b_2, b_3, b_4⟩ := KB
  obtain ⟨c_0, c_1, c_2, c_3, c_4⟩ := KC
  obtain ⟨d_0, d_1, d_2, d_3, d_4⟩ := KD
  obtain ⟨e_0, e_1, e_2, e_3, e_4⟩ := KE
  obtain ⟨f_0, f_1, f_2, f_3, f_4⟩ := KF
  go_wp2_with fail
  refine (join_any (joinR a b) c _).mono ?_
  rintro e w8 ⟨rfl, hb⟩
  clear a_0 a_1 a_2 a_3 a_4 b_0 b_1 b_2 b_3 b_4 c_0 c_1 c_2 c_3 c_4 d_0 d_1 d_2 d_3 d_4 e_0 e_1 e_2 e_3 e_4 f_0 f_1 f_2 f_3 f_4
  have KA : Box (w8.alloc (.cells #[.int .i64 (joinR (joinR a b) c).e, .int .i64 (joinR (joinR a b) c).d, .int .i64 (joinR (joinR a b) c).x, .int .i64 (joinR (joinR a b) c).y, .int .i64 (joinR (joinR a b) c).z] 24)) w.heap.size (a) := (HA.out.later hb).later (Grow.alloc' _ _)
  have KB : Box (w8.alloc (.cells #[.int .i64 (joinR (joinR a b) c).e, .int .i64 (joinR (joinR a b) c).d, .int .i64 (joinR (joinR a b) c).x, .int .i64 (joinR (joinR a b) c).y, .int .i64 (joinR (joinR a b) c).z] 24)) (w.heap.size + 1) (b) := (HB.out.later hb).later (Grow.alloc' _ _)
  have KC : Box (w8.alloc (.cells #[.int .i64 (joinR (joinR a b) c).e, .int .i64 (joinR (joinR a b) c).d, .int .i64 (joinR (joinR a b) c).x, .int .i64 (joinR (joinR a b) c).y, .int .i64 (joinR (joinR a b) c).z] 24)) (w.heap.size + 1 + 1) (c) := (HC.out.later hb).later (Grow.alloc' _ _)
  have KD : Box (w8.alloc (.cells #[.int .i64 (joinR (joinR a b) c).e, .int .i64 (joinR (joinR a b) c).d, .int .i64 (joinR (joinR a b) c).x, .int .i64 (joinR (joinR a b) c).y, .int .i64 (joinR (joinR a b) c).z] 24)) w5.heap.size (joinR a b) := (HD.out.later hb).later (Grow.alloc' _ _)
  have KE : Box (w8.alloc (.cells #[.int .i64 (joinR (joinR a b) c).e, .int .i64 (joinR (joinR a b) c).d, .int .i64 (joinR (joinR a b) c).x, .int .i64 (joinR (joinR a b) c).y, .int .i64 (joinR (joinR a b) c).z] 24)) w6.heap.size (joinR b a) := (HE.out.later hb).later (Grow.alloc' _ _)
  have KF : Box (w8.alloc (.cells #[.int .i64 (joinR (joinR a b) c).e, .int .i64 (joinR (joinR a b) c).d, .int .i64 (joinR (joinR a b) c).x, .int .i64 (joinR (joinR a b) c).y, .int .i64 (joinR (joinR a b) c).z] 24)) w7.heap.size (joinR b c) := (HF.out.later hb).later (Grow.alloc' _ _)
  have KX : Box (w8.alloc (.cells #[.int .i64 (joinR (joinR a b) c).e, .int .i64 (joinR (joinR a b) c).d, .int .i64 (joinR (joinR a b) c).x, .int .i64 (joinR (joinR a b) c).y, .int .i64 (joinR (joinR a b) c).z] 24)) w8.heap.size (joinR (joinR a b) c) := Box.new _ _
  have G : Hid (Grow w (w8.alloc (.cells #[.int .i64 (joinR (joinR a b) c).e, .int .i64 (joinR (joinR a b) c).d, .int .i64 (joinR (joinR a b) c).x, .int .i64 (joinR (joinR a b) c).y, .int .i64 (joinR (joinR a b) c).z] 24))) := hide (Grow.trans' (Grow.trans' G.out hb) (Grow.alloc' _ _))
  clear hb HA HB HC HD HE HF
  have HA := hide KA
  have HB := hide KB
  have HC := hide KC
  have HD := hide KD
  have HE := hide KE
  have HF := hide KF
  have HX := hide KX
  obtain ⟨a_0, a_1, a_2, a_3, a_4⟩ := KA
  obtain ⟨b_0, b_1, b_2, b_3, b_4⟩ := KB
  obtain ⟨c_0, c_1, c_2, c_3, c_4⟩ := KC
  obtain ⟨d_0, d_1, d_2, d_3, d_4⟩ := KD
  obtain ⟨e_0, e_1, e_2, e_3, e_4⟩ := KE
  obtain ⟨f_0, f_1, f_2, f_3, f_4⟩ := KF
  obtain ⟨x_0, x_1, x_2, x_3, x_4⟩ := KX
  go_wp2_with fail
  refine (join_any a (joinR b c) _).mono ?_
  rintro e w9 ⟨rfl, hb⟩
  clear a_0 a_1 a_2 a_3 a_4 b_0 b_1 b_2 b_3 b_4 c_0 c_1 c_2 c_3 c_4 d_0 d_1 d_2 d_3 d_4 e_0 e_1 e_2 e_3 e_4 f_0 f_1 f_2 f_3 f_4 x_0 x_1 x_2 x_3 x_4
  have KA : Box (w9.alloc (.cells #[.int .i64 (joinR a (joinR b c)).e, .int .i64 (joinR a (joinR b c)).d, .int .i64 (joinR a (joinR b c)).x, .int .i64 (joinR a (joinR b c)).y, .int .i64 (joinR a (joinR b c)).z] 24)) w.heap.size (a) := (HA.out.later hb).later (Grow.alloc' _ _)
  have KB : Box (w9.alloc (.cells #[.int .i64 (joinR a (joinR b c)).e, .int .i64 (joinR a (joinR b c)).d, .int .i64 (joinR a (joinR b c)).x, .int .i64 (joinR a (joinR b c)).y, .int .i64 (joinR a (joinR b c)).z] 24)) (w.heap.size + 1) (b) := (HB.out.later hb).later (Grow.alloc' _ _)
  have KC : Box (w9.alloc (.cells #[.int .i64 (joinR a (joinR b c)).e, .int .i64 (joinR a (joinR b c)).d, .int .i64 (joinR a (joinR b c)).x, .int .i64 (joinR a (joinR b c)).y, .int .i64 (joinR a (joinR b c)).z] 24)) (w.heap.size + 1 + 1) (c) := (HC.out.later hb).later (Grow.alloc' _ _)
  have KD : Box (w9.alloc (.cells #[.int .i64 (joinR a (joinR b c)).e, .int .i64 (joinR a (joinR b c)).d, .int .i64 (joinR a (joinR b c)).x, .int .i64 (joinR a (joinR b c)).y, .int .i64 (joinR a (joinR b c)).z] 24)) w5.heap.size (joinR a b) := (HD.out.later hb).later (Grow.alloc' _ _)
  have KE : Box (w9.alloc (.cells #[.int .i64 (joinR a (joinR b c)).e, .int .i64 (joinR a (joinR b c)).d, .int .i64 (joinR a (joinR b c)).x, .int .i64 (joinR a (joinR b c)).y, .int .i64 (joinR a (joinR b c)).z] 24)) w6.heap.size (joinR b a) := (HE.out.later hb).later (Grow.alloc' _ _)
  have KF : Box (w9.alloc (.cells #[.int .i64 (joinR a (joinR b c)).e, .int .i64 (joinR a (joinR b c)).d, .int .i64 (joinR a (joinR b c)).x, .int .i64 (joinR a (joinR b c)).y, .int .i64 (joinR a (joinR b c)).z] 24)) w7.heap.size (joinR b c) := (HF.out.later hb).later (Grow.alloc' _ _)
  have KX : Box (w9.alloc (.cells #[.int .i64 (joinR a (joinR b c)).e, .int .i64 (joinR a (joinR b c)).d, .int .i64 (joinR a (joinR b c)).x, .int .i64 (joinR a (joinR b c)).y, .int .i64 (joinR a (joinR b c)).z] 24)) w8.heap.size (joinR (joinR a b) c) := (HX.out.later hb).later (Grow.alloc' _ _)
  have KY : Box (w9.alloc (.cells #[.int .i64 (joinR a (joinR b c)).e, .int .i64 (joinR a (joinR b c)).d, .int .i64 (joinR a (joinR b c)).x, .int .i64 (joinR a (joinR b c)).y, .int .i64 (joinR a (joinR b c)).z] 24)) w9.heap.size (joinR a (joinR b c)) := Box.new _ _
  have G : Hid (Grow w (w9.alloc (.cells #[.int .i64 (joinR a (joinR b c)).e, .int .i64 (joinR a (joinR b c)).d, .int .i64 (joinR a (joinR b c)).x, .int .i64 (joinR a (joinR b c)).y, .int .i64 (joinR a (joinR b c)).z] 24))) := hide (Grow.trans' (Grow.trans' G.out hb) (Grow.alloc' _ _))
  clear hb HA HB HC HD HE HF HX
  have HA := hide KA
  have HB := hide KB
  have HC := hide KC
  have HD := hide KD
  have HE := hide KE
  have HF := hide KF
  have HX := hide KX
  have HY := hide KY
  obtain ⟨a_0, a_1, a_2, a_3, a_4⟩ := KA
  obtain ⟨b_0, b_1, b_2, b_3, b_4⟩ := KB
  obtain ⟨c_0, c_1, c_2, c_3, c_4⟩ := KC
  obtain ⟨d_0, d_1, d_2, d_3, d_4⟩ := KD
  obtain ⟨e_0, e_1, e_2, e_3, e_4⟩ := KE
  obtain ⟨f_0, f_1, f_2, f_3, f_4⟩ := KF
  obtain ⟨x_0, x_1, x_2, x_3, x_4⟩ := KX
  obtain ⟨y_0, y_1, y_2, y_3, y_4⟩ := KY
  go_wp2_with fail
  refine (meet_any a b _).mono ?_
  rintro e w10 ⟨rfl, hb⟩
  clear a_0 a_1 a_2 a_3 a_4 b_0 b_1 b_2 b_3 b_4 c_0 c_1 c_2 c_3 c_4 d_0 d_1 d_2 d_3 d_4 e_0 e_1 e_2 e_3 e_4 f_0 f_1 f_2 f_3 f_4 x_0 x_1 x_2 x_3 x_4 y_0 y_1 y_2 y_3 y_4
  have KA : Box (w10.alloc (.cells #[.int .i64 (meetR a b).e, .int .i64 (meetR a b).d, .int .i64 (meetR a b).x, .int .i64 (meetR a b).y, .int .i64 (meetR a b).z] 24)) w.heap.size (a) := (HA.out.later hb).later (Grow.alloc' _ _)
  have KB : Box (w10.alloc (.cells #[.int .i64 (meetR a b).e, .int .i64 (meetR a b).d, .int .i64 (meetR a b).x, .int .i64 (meetR a b).y, .int .i64 (meetR a b).z] 24)) (w.heap.size + 1) (b) := (HB.out.later hb).later (Grow.alloc' _ _)
  have KC : Box (w10.alloc (.cells #[.int .i64 (meetR a b).e, .int .i64 (meetR a b).d, .int .i64 (meetR a b).x, .int .i64 (meetR a b).y, .int .i64 (meetR a b).z] 24)) (w.heap.size + 1 + 1) (c) := (HC.out.later hb).later (Grow.alloc' _ _)
  have KD : Box (w10.alloc (.cells #[.int .i64 (meetR a b).e, .int .i64 (meetR a b).d, .int .i64 (meetR a b).x, .int .i64 (meetR a b).y, .int .i64 (meetR a b).z] 24)) w5.heap.size (joinR a b) := (HD.out.later hb).later (Grow.alloc' _ _)
  have KE : Box (w10.alloc (.cells #[.int .i64 (meetR a b).e, .int .i64 (meetR a b).d, .int .i64 (meetR a b).x, .int .i64 (meetR a b).y, .int .i64 (meetR a b).z] 24)) w6.heap.size (joinR b a) := (HE.out.later hb).later (Grow.alloc' _ _)
  have KF : Box (w10.alloc (.cells #[.int .i64 (meetR a b).e, .int .i64 (meetR a b).d, .int .i64 (meetR a b).x, .int .i64 (meetR a b).y, .int .i64 (meetR a b).z] 24)) w7.heap.size (joinR b c) := (HF.out.later hb).later (Grow.alloc' _ _)
  have KX : Box (w10.alloc (.cells #[.int .i64 (meetR a b).e, .int .i64 (meetR a b).d, .int .i64 (meetR a b).x, .int .i64 (meetR a b).y, .int .i64 (meetR a b).z] 24)) w8.heap.size (joinR (joinR a b) c) := (HX.out.later hb).later (Grow.alloc' _ _)
  have KY : Box (w10.alloc (.cells #[.int .i64 (meetR a b).e, .int .i64 (meetR a b).d, .int .i64 (meetR a b).x, .int .i64 (meetR a b).y, .int .i64 (meetR a b).z] 24)) w9.heap.size (joinR a (joinR b c)) := (HY.out.later hb).later (Grow.alloc' _ _)
  have KM : Box (w10.alloc (.cells #[.int .i64 (meetR a b).e, .int .i64 (meetR a b).d, .int .i64 (meetR a b).x, .int .i64 (meetR a b).y, .int .i64 (meetR a b).z] 24)) w10.heap.size (meetR a b) := Box.new _ _
  have G : Hid (Grow w (w10.alloc (.cells #[.int .i64 (meetR a b).e, .int .i64 (meetR a b).d, .int .i64 (meetR a b).x, .int .i64 (meetR a b).y, .int .i64 (meetR a b).z] 24))) := hide (Grow.trans' (Grow.trans' G.out hb) (Grow.alloc' _ _))
  clear hb HA HB HC HD HE HF HX HY
  have HA := hide KA
  have HB := hide KB
  have HC := hide KC
  have HD := hide KD
  have HE := hide KE
  have HF := hide KF
  have HX := hide KX
  have HY := hide KY
  have HM := hide KM
  obtain ⟨a_0, a_1, a_2, a_3, a_4⟩ := KA
  obtain ⟨b_0, b_1, b_2, b_3, b_4⟩ := KB
  obtain ⟨c_0, c_1, c_2, c_3, c_4⟩ := KC
  obtain ⟨d_0, d_1, d_2, d_3, d_4⟩ := KD
  obtain ⟨e_0, e_1, e_2, e_3, e_4⟩ := KE
  obtain ⟨f_0, f_1, f_2, f_3, f_4⟩ := KF
  obtain ⟨x_0, x_1, x_2, x_3, x_4⟩ := KX
  obtain ⟨y_0, y_1, y_2, y_3, y_4⟩ := KY
  obtain ⟨m_0, m_1, m_2, m_3, m_4⟩ := KM
  go_wp2_with fail
  refine (meet_any b a _).mono ?_
  rintro e w11 ⟨rfl, hb⟩
  clear a_0 a_1 a_2 a_3 a_4 b_0 b_1 b_2 b_3 b_4 c_0 c_1 c_2 c_3 c_4 d_0 d_1 d_2 d_3 d_4 e_0 e_1 e_2 e_3 e_4 f_0 f_1 f_2 f_3 f_4 x_0 x_1 x_2 x_3 x_4 y_0 y_1 y_2 y_3 y_4 m_0 m_1 m_2 m_3 m_4
  have KA : Box (w11.alloc (.cells #[.int .i64 (meetR b a).e, .int .i64 (meetR b a).d, .int .i64 (meetR b a).x, .int .i64 (meetR b a).y, .int .i64 (meetR b a).z] 24)) w.heap.size (a) := (HA.out.later hb).later (Grow.alloc' _ _)
  have KB : Box (w11.alloc (.cells #[.int .i64 (meetR b a).e, .int .i64 (meetR b a).d, .int .i64 (meetR b a).x, .int .i64 (meetR b a).y, .int .i64 (meetR b a).z] 24)) (w.heap.size + 1) (b) := (HB.out.later hb).later (Grow.alloc' _ _)
  have KC : Box (w11.alloc (.cells #[.int .i64 (meetR b a).e, .int .i64 (meetR b a).d, .int .i64 (meetR b a).x, .int .i64 (meetR b a).y, .int .i64 (meetR b a).z] 24)) (w.heap.size + 1 + 1) (c) := (HC.out.later hb).later (Grow.alloc' _ _)
  have KD : Box (w11.alloc (.cells #[.int .i64 (meetR b a).e, .int .i64 (meetR b a).d, .int .i64 (meetR b a).x, .int .i64 (meetR b a).y, .int .i64 (meetR b a).z] 24)) w5.heap.size (joinR a b) := (HD.out.later hb).later (Grow.alloc' _ _)
  have KE : Box (w11.alloc (.cells #[.int .i64 (meetR b a).e, .int .i64 (meetR b a).d, .int .i64 (meetR b a).x, .int .i64 (meetR b a).y, .int .i64 (meetR b a).z] 24)) w6.heap.size (joinR b a) := (HE.out.later hb).later (Grow.alloc' _ _)
  have KF : Box (w11.alloc (.cells #[.int .i64 (meetR b a).e, .int .i64 (meetR b a).d, .int .i64 (meetR b a).x, .int .i64 (meetR b a).y, .int .i64 (meetR b a).z] 24)) w7.heap.size (joinR b c) := (HF.out.later hb).later (Grow.alloc' _ _)
  have KX : Box (w11.alloc (.cells #[.int .i64 (meetR b a).e, .int .i64 (meetR b a).d, .int .i64 (meetR b a).x, .int .i64 (meetR b a).y, .int .i64 (meetR b a).z] 24)) w8.heap.size (joinR (joinR a b) c) := (HX.out.later hb).later (Grow.alloc' _ _)
  have KY : Box (w11.alloc (.cells #[.int .i64 (meetR b a).e, .int .i64 (meetR b a).d, .int .i64 (meetR b a).x, .int .i64 (meetR b a).y, .int .i64 (meetR b a).z] 24)) w9.heap.size (joinR a (joinR b c)) := (HY.out.later hb).later (Grow.alloc' _ _)
  have KM : Box (w11.alloc (.cells #[.int .i64 (meetR b a).e, .int .i64 (meetR b a).d, .int .i64 (meetR b a).x, .int .i64 (meetR b a).y, .int .i64 (meetR b a).z] 24)) w10.heap.size (meetR a b) := (HM.out.later hb).later (Grow.alloc' _ _)
  have KN : Box (w11.alloc (.cells #[.int .i64 (meetR b a).e, .int .i64 (meetR b a).d, .int .i64 (meetR b a).x, .int .i64 (meetR b a).y, .int .i64 (meetR b a).z] 24)) w11.heap.size (meetR b a) := Box.new _ _
  have G : Hid (Grow w (w11.alloc (.cells #[.int .i64 (meetR b a).e, .int .i64 (meetR b a).d, .int .i64 (meetR b a).x, .int .i64 (meetR b a).y, .int .i64 (meetR b a).z] 24))) := hide (Grow.trans' (Grow.trans' G.out hb) (Grow.alloc' _ _))
  clear hb HA HB HC HD HE HF HX HY HM
  have HA := hide KA
  have HB := hide KB
  have HC := hide KC
  have HD := hide KD
  have HE := hide KE
  have HF := hide KF
  have HX := hide KX
  have HY := hide KY
  have HM := hide KM
  have HN := hide KN
  obtain ⟨a_0, a_1, a_2, a_3, a_4⟩ := KA
  obtain ⟨b_0, b_1, b_2, b_3, b_4⟩ := KB
  obtain ⟨c_0, c_1, c_2, c_3, c_4⟩ := KC
  obtain ⟨d_0, d_1, d_2, d_3, d_4⟩ := KD
  obtain ⟨e_0, e_1, e_2, e_3, e_4⟩ := KE
  obtain ⟨f_0, f_1, f_2, f_3, f_4⟩ := KF
  obtain ⟨x_0, x_1, x_2, x_3, x_4⟩ := KX
  obtain ⟨y_0, y_1, y_2, y_3, y_4⟩ := KY
  obtain ⟨m_0, m_1, m_2, m_3, m_4⟩ := KM
  obtain ⟨n_0, n_1, n_2, n_3, n_4⟩ := KN
  go_wp2_with fail
  refine (meet_any a (joinR a b) _).mono ?_
  rintro e w12 ⟨rfl, hb⟩
  clear a_0 a_1 a_2 a_3 a_4 b_0 b_1 b_2 b_3 b_4 c_0 c_1 c_2 c_3 c_4 d_0 d_1 d_2 d_3 d_4 e_0 e_1 e_2 e_3 e_4 f_0 f_1 f_2 f_3 f_4 x_0 x_1 x_2 x_3 x_4 y_0 y_1 y_2 y_3 y_4 m_0 m_1 m_2 m_3 m_4 n_0 n_1 n_2 n_3 n_4
  have KA : Box (w12.alloc (.cells #[.int .i64 (meetR a (joinR a b)).e, .int .i64 (meetR a (joinR a b)).d, .int .i64 (meetR a (joinR a b)).x, .int .i64 (meetR a (joinR a b)).y, .int .i64 (meetR a (joinR a b)).z] 24)) w.heap.size (a) := (HA.out.later hb).later (Grow.alloc' _ _)
  have KB : Box (w12.alloc (.cells #[.int .i64 (meetR a (joinR a b)).e, .int .i64 (meetR a (joinR a b)).d, .int .i64 (meetR a (joinR a b)).x, .int .i64 (meetR a (joinR a b)).y, .int .i64 (meetR a (joinR a b)).z] 24)) (w.heap.size + 1) (b) := (HB.out.later hb).later (Grow.alloc' _ _)
  have KC : Box (w12.alloc (.cells #[.int .i64 (meetR a (joinR a b)).e, .int .i64 (meetR a (joinR a b)).d, .int .i64 (meetR a (joinR a b)).x, .int .i64 (meetR a (joinR a b)).y, .int .i64 (meetR a (joinR a b)).z] 24)) (w.heap.size + 1 + 1) (c) := (HC.out.later hb).later (Grow.alloc' _ _)
  have KD : Box (w12.alloc (.cells #[.int .i64 (meetR a (joinR a b)).e, .int .i64 (meetR a (joinR a b)).d, .int .i64 (meetR a (joinR a b)).x, .int .i64 (meetR a (joinR a b)).y, .int .i64 (meetR a (joinR a b)).z] 24)) w5.heap.size (joinR a b) := (HD.out.later hb).later (Grow.alloc' _ _)
  have KE : Box (w12.alloc (.cells #[.int .i64 (meetR a (joinR a b)).e, .int .i64 (meetR a (joinR a b)).d, .int .i64 (meetR a (joinR a b)).x, .int .i64 (meetR a (joinR a b)).y, .int .i64 (meetR a (joinR a b)).z] 24)) w6.heap.size (joinR b a) := (HE.out.later hb).later (Grow.alloc' _ _)
  have KF : Box (w12.alloc (.cells #[.int .i64 (meetR a (joinR a b)).e, .int .i64 (meetR a (joinR a b)).d, .int .i64 (meetR a (joinR a b)).x, .int .i64 (meetR a (joinR a b)).y, .int .i64 (meetR a (joinR a b)).z] 24)) w7.heap.size (joinR b c) := (HF.out.later hb).later (Grow.alloc' _ _)
  have KX : Box (w12.alloc (.cells #[.int .i64 (meetR a (joinR a b)).e, .int .i64 (meetR a (joinR a b)).d, .int .i64 (meetR a (joinR a b)).x, .int .i64 (meetR a (joinR a b)).y, .int .i64 (meetR a (joinR a b)).z] 24)) w8.heap.size (joinR (joinR a b) c) := (HX.out.later hb).later (Grow.alloc' _ _)
  have KY : Box (w12.alloc (.cells #[.int .i64 (meetR a (joinR a b)).e, .int .i64 (meetR a (joinR a b)).d, .int .i64 (meetR a (joinR a b)).x, .int .i64 (meetR a (joinR a b)).y, .int .i64 (meetR a (joinR a b)).z] 24)) w9.heap.size (joinR a (joinR b c)) := (HY.out.later hb).later (Grow.alloc' _ _)
  have KM : Box (w12.alloc (.cells #[.int .i64 (meetR a (joinR a b)).e, .int .i64 (meetR a (joinR a b)).d, .int .i64 (meetR a (joinR a b)).x, .int .i64 (meetR a (joinR a b)).y, .int .i64 (meetR a (joinR a b)).z] 24)) w10.heap.size (meetR a b) := (HM.out.later hb).later (Grow.alloc' _ _)
  have KN : Box (w12.alloc (.cells #[.int .i64 (meetR a (joinR a b)).e, .int .i64 (meetR a (joinR a b)).d, .int .i64 (meetR a (joinR a b)).x, .int .i64 (meetR a (joinR a b)).y, .int .i64 (meetR a (joinR a b)).z] 24)) w11.heap.size (meetR b a) := (HN.out.later hb).later (Grow.alloc' _ _)
  have KP : Box (w12.alloc (.cells #[.int .i64 (meetR a (joinR a b)).e, .int .i64 (meetR a (joinR a b)).d, .int .i64 (meetR a (joinR a b)).x, .int .i64 (meetR a (joinR a b)).y, .int .i64 (meetR a (joinR a b)).z] 24)) w12.heap.size (meetR a (joinR a b)) := Box.new _ _
  have G : Hid (Grow w (w12.alloc (.cells #[.int .i64 (meetR a (joinR a b)).e, .int .i64 (meetR a (joinR a b)).d, .int .i64 (meetR a (joinR a b)).x, .int .i64 (meetR a (joinR a b)).y, .int .i64 (meetR a (joinR a b)).z] 24))) := hide (Grow.trans' (Grow.trans' G.out hb) (Grow.alloc' _ _))
  clear hb HA HB HC HD HE HF HX HY HM HN
  have HA := hide KA
  have HB := hide KB
  have HC := hide KC
  have HD := hide KD
  have HE := hide KE
  have HF := hide KF
  have HX := hide KX
  have HY := hide KY
  have HM := hide KM
  have HN := hide KN
  have HP := hide KP
  obtain ⟨a_0, a_1, a_2, a_3, a_4⟩ := KA
  obtain ⟨b_0, b_1, b_2, b_3, b_4⟩ := KB
  obtain ⟨c_0, c_1, c_2, c_3, c_4⟩ := KC
  obtain ⟨d_0, d_1, d_2, d_3, d_4⟩ := KD
  obtain ⟨e_0, e_1, e_2, e_3, e_4⟩ := KE
  obtain ⟨f_0, f_1, f_2, f_3, f_4⟩ := KF
  obtain ⟨x_0, x_1, x_2, x_3, x_4⟩ := KX
  obtain ⟨y_0, y_1, y_2, y_3, y_4⟩ := KY
  obtain ⟨m_0, m_1, m_2, m_3, m_4⟩ := KM
  obtain ⟨n_0, n_1, n_2, n_3, n_4⟩ := KN
  obtain ⟨p_0, p_1, p_2, p_3, p_4⟩ := KP
  go_wp2_with fail
  refine (join_any a (meetR a b) _).mono ?_
  rintro e w13 ⟨rfl, hb⟩
  clear a_0 a_1 a_2 a_3 a_4 b_0 b_1 b_2 b_3 b_4 c_0 c_1 c_2 c_3 c_4 d_0 d_1 d_2 d_3 d_4 e_0 e_1 e_2 e_3 e_4 f_0 f_1 f_2 f_3 f_4 x_0 x_1 x_2 x_3 x_4 y_0 y_1 y_2 y_3 y_4 m_0 m_1 m_2 m_3 m_4 n_0 n_1 n_2 n_3 n_4 p_0 p_1 p_2 p_3 p_4
  have KA : Box (w13.alloc (.cells #[.int .i64 (joinR a (meetR a b)).e, .int .i64 (joinR a (meetR a b)).d, .int .i64 (joinR a (meetR a b)).x, .int .i64 (joinR a (meetR a b)).y, .int .i64 (joinR a (meetR a b)).z] 24)) w.heap.size (a) := (HA.out.later hb).later (Grow.alloc' _ _)
  have KB : Box (w13.alloc (.cells #[.int .i64 (joinR a (meetR a b)).e, .int .i64 (joinR a (meetR a b)).d, .int .i64 (joinR a (meetR a b)).x, .int .i64 (joinR a (meetR a b)).y, .int .i64 (joinR a (meetR a b)).z] 24)) (w.heap.size + 1) (b) := (HB.out.later hb).later (Grow.alloc' _ _)
  have KC : Box (w13.alloc (.cells #[.int .i64 (joinR a (meetR a b)).e, .int .i64 (joinR a (meetR a b)).d, .int .i64 (joinR a (meetR a b)).x, .int .i64 (joinR a (meetR a b)).y, .int .i64 (joinR a (meetR a b)).z] 24)) (w.heap.size + 1 + 1) (c) := (HC.out.later hb).later (Grow.alloc' _ _)
  have KD : Box (w13.alloc (.cells #[.int .i64 (joinR a (meetR a b)).e, .int .i64 (joinR a (meetR a b)).d, .int .i64 (joinR a (meetR a b)).x, .int .i64 (joinR a (meetR a b)).y, .int .i64 (joinR a (meetR a b)).z] 24)) w5.heap.size (joinR a b) := (HD.out.later hb).later (Grow.alloc' _ _)
  have KE : Box (w13.alloc (.cells #[.int .i64 (joinR a (meetR a b)).e, .int .i64 (joinR a (meetR a b)).d, .int .i64 (joinR a (meetR a b)).x, .int .i64 (joinR a (meetR a b)).y, .int .i64 (joinR a (meetR a b)).z] 24)) w6.heap.size (joinR b a) := (HE.out.later hb).later (Grow.alloc' _ _)
  have KF : Box (w13.alloc (.cells #[.int .i64 (joinR a (meetR a b)).e, .int .i64 (joinR a (meetR a b)).d, .int .i64 (joinR a (meetR a b)).x, .int .i64 (joinR a (meetR a b)).y, .int .i64 (joinR a (meetR a b)).z] 24)) w7.heap.size (joinR b c) := (HF.out.later hb).later (Grow.alloc' _ _)
  have KX : Box (w13.alloc (.cells #[.int .i64 (joinR a (meetR a b)).e, .int .i64 (joinR a (meetR a b)).d, .int .i64 (joinR a (meetR a b)).x, .int .i64 (joinR a (meetR a b)).y, .int .i64 (joinR a (meetR a b)).z] 24)) w8.heap.size (joinR (joinR a b) c) := (HX.out.later hb).later (Grow.alloc' _ _)
  have KY : Box (w13.alloc (.cells #[.int .i64 (joinR a (meetR a b)).e, .int .i64 (joinR a (meetR a b)).d, .int .i64 (joinR a (meetR a b)).x, .int .i64 (joinR a (meetR a b)).y, .int .i64 (joinR a (meetR a b)).z] 24)) w9.heap.size (joinR a (joinR b c)) := (HY.out.later hb).later (Grow.alloc' _ _)
  have KM : Box (w13.alloc (.cells #[.int .i64 (joinR a (meetR a b)).e, .int .i64 (joinR a (meetR a b)).d, .int .i64 (joinR a (meetR a b)).x, .int .i64 (joinR a (meetR a b)).y, .int .i64 (joinR a (meetR a b)).z] 24)) w10.heap.size (meetR a b) := (HM.out.later hb).later (Grow.alloc' _ _)
  have KN : Box (w13.alloc (.cells #[.int .i64 (joinR a (meetR a b)).e, .int .i64 (joinR a (meetR a b)).d, .int .i64 (joinR a (meetR a b)).x, .int .i64 (joinR a (meetR a b)).y, .int .i64 (joinR a (meetR a b)).z] 24)) w11.heap.size (meetR b a) := (HN.out.later hb).later (Grow.alloc' _ _)
  have KP : Box (w13.alloc (.cells #[.int .i64 (joinR a (meetR a b)).e, .int .i64 (joinR a (meetR a b)).d, .int .i64 (joinR a (meetR a b)).x, .int .i64 (joinR a (meetR a b)).y, .int .i64 (joinR a (meetR a b)).z] 24)) w12.heap.size (meetR a (joinR a b)) := (HP.out.later hb).later (Grow.alloc' _ _)
  have KQ : Box (w13.alloc (.cells #[.int .i64 (joinR a (meetR a b)).e, .int .i64 (joinR a (meetR a b)).d, .int .i64 (joinR a (meetR a b)).x, .int .i64 (joinR a (meetR a b)).y, .int .i64 (joinR a (meetR a b)).z] 24)) w13.heap.size (joinR a (meetR a b)) := Box.new _ _
  have G : Hid (Grow w (w13.alloc (.cells #[.int .i64 (joinR a (meetR a b)).e, .int .i64 (joinR a (meetR a b)).d, .int .i64 (joinR a (meetR a b)).x, .int .i64 (joinR a (meetR a b)).y, .int .i64 (joinR a (meetR a b)).z] 24))) := hide (Grow.trans' (Grow.trans' G.out hb) (Grow.alloc' _ _))
  clear hb HA HB HC HD HE HF HX HY HM HN HP
  have HA := hide KA
  have HB := hide KB
  have HC := hide KC
  have HD := hide KD
  have HE := hide KE
  have HF := hide KF
  have HX := hide KX
  have HY := hide KY
  have HM := hide KM
  have HN := hide KN
  have HP := hide KP
  have HQ := hide KQ
  obtain ⟨a_0, a_1, a_2, a_3, a_4⟩ := KA
  obtain ⟨b_0, b_1, b_2, b_3, b_4⟩ := KB
  obtain ⟨c_0, c_1, c_2, c_3, c_4⟩ := KC
  obtain ⟨d_0, d_1, d_2, d_3, d_4⟩ := KD
  obtain ⟨e_0, e_1, e_2, e_3, e_4⟩ := KE
  obtain ⟨f_0, f_1, f_2, f_3, f_4⟩ := KF
  obtain ⟨x_0, x_1, x_2, x_3, x_4⟩ := KX
  obtain ⟨y_0, y_1, y_2, y_3, y_4⟩ := KY
  obtain ⟨m_0, m_1, m_2, m_3, m_4⟩ := KM
  obtain ⟨n_0, n_1, n_2, n_3, n_4⟩ := KN
  obtain ⟨p_0, p_1, p_2, p_3, p_4⟩ := KP
  obtain ⟨q_0, q_1, q_2, q_3, q_4⟩ := KQ
  go_wp2_with fail
  refine (join_any a a _).mono ?_
  rintro e w14 ⟨rfl, hb⟩
  clear a_0 a_1 a_2 a_3 a_4 b_0 b_1 b_2 b_3 b_4 c_0 c_1 c_2 c_3 c_4 d_0 d_1 d_2 d_3 d_4 e_0 e_1 e_2 e_3 e_4 f_0 f_1 f_2 f_3 f_4 x_0 x_1 x_2 x_3 x_4 y_0 y_1 y_2 y_3 y_4 m_0 m_1 m_2 m_3 m_4 n_0 n_1 n_2 n_3 n_4 p_0 p_1 p_2 p_3 p_4 q_0 q_1 q_2 q_3 q_4
  have KA : Box (w14.alloc (.cells #[.int .i64 (joinR a a).e, .int .i64 (joinR a a).d, .int .i64 (joinR a a).x, .int .i64 (joinR a a).y, .int .i64 (joinR a a).z] 24)) w.heap.size (a) := (HA.out.later hb).later (Grow.alloc' _ _)
  have KB : Box (w14.alloc (.cells #[.int .i64 (joinR a a).e, .int .i64 (joinR a a).d, .int .i64 (joinR a a).x, .int .i64 (joinR a a).y, .int .i64 (joinR a a).z] 24)) (w.heap.size + 1) (b) := (HB.out.later hb).later (Grow.alloc' _ _)
  have KC : Box (w14.alloc (.cells #[.int .i64 (joinR a a).e, .int .i64 (joinR a a).d, .int .i64 (joinR a a).x, .int .i64 (joinR a a).y, .int .i64 (joinR a a).z] 24)) (w.heap.size + 1 + 1) (c) := (HC.out.later hb).later (Grow.alloc' _ _)
  have KD : Box (w14.alloc (.cells #[.int .i64 (joinR a a).e, .int .i64 (joinR a a).d, .int .i64 (joinR a a).x, .int .i64 (joinR a a).y, .int .i64 (joinR a a).z] 24)) w5.heap.size (joinR a b) := (HD.out.later hb).later (Grow.alloc' _ _)
  have KE : Box (w14.alloc (.cells #[.int .i64 (joinR a a).e, .int .i64 (joinR a a).d, .int .i64 (joinR a a).x, .int .i64 (joinR a a).y, .int .i64 (joinR a a).z] 24)) w6.heap.size (joinR b a) := (HE.out.later hb).later (Grow.alloc' _ _)
  have KF : Box (w14.alloc (.cells #[.int .i64 (joinR a a).e, .int .i64 (joinR a a).d, .int .i64 (joinR a a).x, .int .i64 (joinR a a).y, .int .i64 (joinR a a).z] 24)) w7.heap.size (joinR b c) := (HF.out.later hb).later (Grow.alloc' _ _)
  have KX : Box (w14.alloc (.cells #[.int .i64 (joinR a a).e, .int .i64 (joinR a a).d, .int .i64 (joinR a a).x, .int .i64 (joinR a a).y, .int .i64 (joinR a a).z] 24)) w8.heap.size (joinR (joinR a b) c) := (HX.out.later hb).later (Grow.alloc' _ _)
  have KY : Box (w14.alloc (.cells #[.int .i64 (joinR a a).e, .int .i64 (joinR a a).d, .int .i64 (joinR a a).x, .int .i64 (joinR a a).y, .int .i64 (joinR a a).z] 24)) w9.heap.size (joinR a (joinR b c)) := (HY.out.later hb).later (Grow.alloc' _ _)
  have KM : Box (w14.alloc (.cells #[.int .i64 (joinR a a).e, .int .i64 (joinR a a).d, .int .i64 (joinR a a).x, .int .i64 (joinR a a).y, .int .i64 (joinR a a).z] 24)) w10.heap.size (meetR a b) := (HM.out.later hb).later (Grow.alloc' _ _)
  have KN : Box (w14.alloc (.cells #[.int .i64 (joinR a a).e, .int .i64 (joinR a a).d, .int .i64 (joinR a a).x, .int .i64 (joinR a a).y, .int .i64 (joinR a a).z] 24)) w11.heap.size (meetR b a) := (HN.out.later hb).later (Grow.alloc' _ _)
  have KP : Box (w14.alloc (.cells #[.int .i64 (joinR a a).e, .int .i64 (joinR a a).d, .int .i64 (joinR a a).x, .int .i64 (joinR a a).y, .int .i64 (joinR a a).z] 24)) w12.heap.size (meetR a (joinR a b)) := (HP.out.later hb).later (Grow.alloc' _ _)
  have KQ : Box (w14.alloc (.cells #[.int .i64 (joinR a a).e, .int .i64 (joinR a a).d, .int .i64 (joinR a a).x, .int .i64 (joinR a a).y, .int .i64 (joinR a a).z] 24)) w13.heap.size (joinR a (meetR a b)) := (HQ.out.later hb).later (Grow.alloc' _ _)
  have KR : Box (w14.alloc (.cells #[.int .i64 (joinR a a).e, .int .i64 (joinR a a).d, .int .i64 (joinR a a).x, .int .i64 (joinR a a).y, .int .i64 (joinR a a).z] 24)) w14.heap.size (joinR a a) := Box.new _ _
  have G : Hid (Grow w (w14.alloc (.cells #[.int .i64 (joinR a a).e, .int .i64 (joinR a a).d, .int .i64 (joinR a a).x, .int .i64 (joinR a a).y, .int .i64 (joinR a a).z] 24))) := hide (Grow.trans' (Grow.trans' G.out hb) (Grow.alloc' _ _))
  clear hb HA HB HC HD HE HF HX HY HM HN HP HQ
  have q1_ := q1.out
  have q2_ := q2.out
  have q3_ := q3.out
  have q4_ := q4.out
  have q5_ := q5.out
  have q6_ := q6.out
  obtain ⟨a_0, a_1, a_2, a_3, a_4⟩ := KA
  obtain ⟨b_0, b_1, b_2, b_3, b_4⟩ := KB
  obtain ⟨c_0, c_1, c_2, c_3, c_4⟩ := KC
  obtain ⟨d_0, d_1, d_2, d_3, d_4⟩ := KD
  obtain ⟨e_0, e_1, e_2, e_3, e_4⟩ := KE
  obtain ⟨f_0, f_1, f_2, f_3, f_4⟩ := KF
  obtain ⟨x_0, x_1, x_2, x_3, x_4⟩ := KX
  obtain ⟨y_0, y_1, y_2, y_3, y_4⟩ := KY
  obtain ⟨m_0, m_1, m_2, m_3, m_4⟩ := KM
  obtain ⟨n_0, n_1, n_2, n_3, n_4⟩ := KN
  obtain ⟨p_0, p_1, p_2, p_3, p_4⟩ := KP
  obtain ⟨q_0, q_1, q_2, q_3, q_4⟩ := KQ
  obtain ⟨r_0, r_1, r_2, r_3, r_4⟩ := KR
  go_wp2
  go_ret
  exact ⟨rfl, G.out⟩

theorem TsLattice_any (a b c : Tm) (w : World) :
    Calls Try.prog 3 #[.agg #[.int .i64 a.e, .int .i64 a.d, .int .i64 a.x, .int .i64 a.y, .int .i64 a.z], .agg #[.int .i64 b.e, .int .i64 b.d, .int .i64 b.x, .int .i64 b.y, .int .i64 b.z], .agg #[.int .i64 c.e, .int .i64 c.d, .int .i64 c.x, .int .i64 c.y, .int .i64 c.z]] w fun e w' => e = .returned (.bool true) ∧ Below w.heap.size w w' := by
  cases hA : mayB a
  · exact TsLattice_no1 a b c w hA
  cases hB : mayB b
  · exact TsLattice_no2 a b c w hA hB
  cases hC : mayB c
  · exact TsLattice_no3 a b c w hA hB hC
  by_cases hd : a.d = b.d
  · by_cases he : b.d = c.d
    · exact TsLattice_all a b c w hA hB hC hd he
    · exact TsLattice_d2 a b c w hA hB hC hd he
  · exact TsLattice_d1 a b c w hA hB hC hd

end Go.Proofs.Ytbohgfcndclbjab
