/-
  GraphTotal: for every three places: they are in one order, in which an output stands ahead of its node's inputs: two places have the order 0 just if they are the same, the order of two turned about is the other one's negative, and it goes on over three; the call returns true and leaves its arguments as they were. No conditions.
-/
import Derived.Test.YtjpaclcpebpcjaaHHd
import Derived.Lib.QuietBelow
namespace Go.Proofs.Ytjpaclcpebpcjaa
set_option maxRecDepth 100000
open Go.ChangeShapes Go.WideShapes Go.ChangeAt Go.RowKit Go.Deep Go.Sort
set_option linter.unusedVariables false
set_option linter.unusedSimpArgs false
attribute [local go_sem ↓] eqLc

set_option maxHeartbeats 4000000 in
theorem total_a (a b c : Lc) (w : World) (hab : ordL a b = 1) (hba : ordL b a = -1) (he : eqL a b = false)  :
    Calls Try.prog 8 #[.agg #[.int .i64 a.n, .int .i64 a.p], .agg #[.int .i64 b.n, .int .i64 b.p], .agg #[.int .i64 c.n, .int .i64 c.p]] w fun r w' => r = .returned (.bool true) ∧ Grow w w' := by
  have hz1 : (w.alloc (.cells #[.int .i64 a.n, .int .i64 a.p] 25)).heap.size = w.heap.size + 1 := by simp
  have hz2 : ((w.alloc (.cells #[.int .i64 a.n, .int .i64 a.p] 25)).alloc (.cells #[.int .i64 b.n, .int .i64 b.p] 25)).heap.size = w.heap.size + 2 := by simp
  have GG : Hid (Grow w (((w.alloc (.cells #[.int .i64 a.n, .int .i64 a.p] 25)).alloc (.cells #[.int .i64 b.n, .int .i64 b.p] 25)).alloc (.cells #[.int .i64 c.n, .int .i64 c.p] 25))) := hide (Grow.trans' (Grow.trans' (Grow.alloc' _ _) (Grow.alloc' _ _)) (Grow.alloc' _ _))
  have KA : Hid (BoxL (((w.alloc (.cells #[.int .i64 a.n, .int .i64 a.p] 25)).alloc (.cells #[.int .i64 b.n, .int .i64 b.p] 25)).alloc (.cells #[.int .i64 c.n, .int .i64 c.p] 25)) w.heap.size a) := hide (((BoxL.new w a).later (Grow.alloc' _ _)).later (Grow.alloc' _ _))
  have KB : Hid (BoxL (((w.alloc (.cells #[.int .i64 a.n, .int .i64 a.p] 25)).alloc (.cells #[.int .i64 b.n, .int .i64 b.p] 25)).alloc (.cells #[.int .i64 c.n, .int .i64 c.p] 25)) (w.heap.size + 1) b) := hide (by rw [← hz1]; exact (BoxL.new _ b).later (Grow.alloc' _ _))
  have KC : Hid (BoxL (((w.alloc (.cells #[.int .i64 a.n, .int .i64 a.p] 25)).alloc (.cells #[.int .i64 b.n, .int .i64 b.p] 25)).alloc (.cells #[.int .i64 c.n, .int .i64 c.p] 25)) (w.heap.size + 2) c) := hide (by rw [← hz2]; exact BoxL.new _ c)
  have CAB := hide (fun w => ord_at a b hab w)
  have CBA := hide (fun w => ord_at b a hba w)
  skip
  skip
  have CO := hide (fun w => ord_at ⟨a.n, -1⟩ ⟨a.n, 0⟩ (ordL_out a.n) w)
  clear hz1 hz2 hab hba  
  obtain ⟨an, ap⟩ := a
  obtain ⟨bn, bp⟩ := b
  obtain ⟨cn, cp⟩ := c
  dsimp only at GG KA KB KC CAB CBA   CO ⊢
  go_enter Try.func8, Try.ntmps8
  go_wp2_with fail
  generalize ((w.alloc (.cells #[.int .i64 an, .int .i64 ap] 25)).alloc (.cells #[.int .i64 bn, .int .i64 bp] 25)).alloc (.cells #[.int .i64 cn, .int .i64 cp] 25) = w0 at *
  generalize w.heap.size = P at *
  refine (shown_any _).mono ?_
  rintro _ w1 ⟨rfl, hb⟩
  have G1 := hide (Grow.trans' GG.out hb)
  have A1 := hide (KA.out.later hb)
  have B1 := hide (KB.out.later hb)
  have C1 := hide (KC.out.later hb)
  clear hb KA KB KC GG
  go_wp2_with fail
  obtain ⟨a0, a1⟩ := A1.out
  obtain ⟨b0, b1⟩ := B1.out
  dsimp only at a0 a1 b0 b1
  have sa0 := cell_regrown a0
  have sa1 := cell_regrown a1
  have sb0 := cell_regrown b0
  have sb1 := cell_regrown b1
  have Q1 := hide (fun dd os => Calls.regrown_of (CAB.out (grow (redrawn w1 dd) os)))
  have Q2 := hide (fun dd os => Calls.regrown_of (CBA.out (grow (redrawn w1 dd) os)))
  refine wp_region_quiet_below (by kernel_rfl) (by kernel_rfl) ?_
  repeat (go_big_quiet_step ((go_at_call 18; first | (with_reducible exact Q1.out _ _) | (with_reducible exact Q2.out _ _))))
  refine wpQuiet_nil ?_
  intro _ hw'
  obtain ⟨⟨dq, osq⟩, hw''⟩ := hw'
  subst hw''
  have hgw := below_regrown w1 dq osq
  clear sa0 sa1 sb0 sb1 Q1 Q2 a0 a1 b0 b1
  generalize grow (redrawn w1 dq) osq = wz at *
  replace G1 := hide (Grow.trans' G1.out hgw)
  replace A1 := hide (A1.out.later hgw)
  replace B1 := hide (B1.out.later hgw)
  replace C1 := hide (C1.out.later hgw)
  clear hgw
  clear w1
  rename World => w1
  go_wp2_with fail
  obtain ⟨a0, a1⟩ := A1.out
  obtain ⟨b0, b1⟩ := B1.out
  dsimp only at a0 a1 b0 b1
  have sa0 := cell_regrown a0
  have sa1 := cell_regrown a1
  have sb0 := cell_regrown b0
  have sb1 := cell_regrown b1
  have Q1 := hide (fun dd os => Calls.regrown_of (CAB.out (grow (redrawn w1 dd) os)))
  have Q2 := hide (fun dd os => Calls.regrown_of (CBA.out (grow (redrawn w1 dd) os)))
  refine wp_region_quiet_below (by kernel_rfl) (by kernel_rfl) ?_
  repeat (go_big_quiet_step ((go_at_call 18; first | (with_reducible exact Q1.out _ _) | (with_reducible exact Q2.out _ _))))
  refine wpQuiet_nil ?_
  intro _ hw'
  obtain ⟨⟨dq, osq⟩, hw''⟩ := hw'
  subst hw''
  have hgw := below_regrown w1 dq osq
  clear sa0 sa1 sb0 sb1 Q1 Q2 a0 a1 b0 b1
  generalize grow (redrawn w1 dq) osq = wz at *
  replace G1 := hide (Grow.trans' G1.out hgw)
  replace A1 := hide (A1.out.later hgw)
  replace B1 := hide (B1.out.later hgw)
  replace C1 := hide (C1.out.later hgw)
  clear hgw
  clear w1
  rename World => w1
  obtain ⟨a0, a1⟩ := A1.out
  obtain ⟨b0, b1⟩ := B1.out
  obtain ⟨c0, c1⟩ := C1.out
  dsimp only at a0 a1 b0 b1 c0 c1
  go_wp2_with fail
  refine (CAB.out _).mono ?_
  rintro _ w2 ⟨rfl, hb⟩
  have G2 := hide (Grow.trans' G1.out hb)
  have A2 := hide (A1.out.later hb)
  have B2 := hide (B1.out.later hb)
  have C2 := hide (C1.out.later hb)
  clear hb a0 a1 b0 b1 c0 c1 A1 B1 C1 G1
  obtain ⟨a0, a1⟩ := A2.out
  obtain ⟨b0, b1⟩ := B2.out
  obtain ⟨c0, c1⟩ := C2.out
  dsimp only at a0 a1 b0 b1 c0 c1
  go_wp2_with fail
  refine (CO.out _).mono ?_
  rintro _ w5 ⟨rfl, hb⟩
  have G5 := hide (Grow.trans' G2.out hb)
  clear hb
  go_wp2_with fail
  go_ret
  exact ⟨rfl, G5.out⟩
set_option maxHeartbeats 4000000 in
theorem total_b (a b c : Lc) (w : World) (hab : ordL a b = -1) (hba : ordL b a = 1) (he : eqL a b = false) (zb : Int) (hbc : ordL b c = zb) (hb1 : 0 < zb) :
    Calls Try.prog 8 #[.agg #[.int .i64 a.n, .int .i64 a.p], .agg #[.int .i64 b.n, .int .i64 b.p], .agg #[.int .i64 c.n, .int .i64 c.p]] w fun r w' => r = .returned (.bool true) ∧ Grow w w' := by
  have hz1 : (w.alloc (.cells #[.int .i64 a.n, .int .i64 a.p] 25)).heap.size = w.heap.size + 1 := by simp
  have hz2 : ((w.alloc (.cells #[.int .i64 a.n, .int .i64 a.p] 25)).alloc (.cells #[.int .i64 b.n, .int .i64 b.p] 25)).heap.size = w.heap.size + 2 := by simp
  have GG : Hid (Grow w (((w.alloc (.cells #[.int .i64 a.n, .int .i64 a.p] 25)).alloc (.cells #[.int .i64 b.n, .int .i64 b.p] 25)).alloc (.cells #[.int .i64 c.n, .int .i64 c.p] 25))) := hide (Grow.trans' (Grow.trans' (Grow.alloc' _ _) (Grow.alloc' _ _)) (Grow.alloc' _ _))
  have KA : Hid (BoxL (((w.alloc (.cells #[.int .i64 a.n, .int .i64 a.p] 25)).alloc (.cells #[.int .i64 b.n, .int .i64 b.p] 25)).alloc (.cells #[.int .i64 c.n, .int .i64 c.p] 25)) w.heap.size a) := hide (((BoxL.new w a).later (Grow.alloc' _ _)).later (Grow.alloc' _ _))
  have KB : Hid (BoxL (((w.alloc (.cells #[.int .i64 a.n, .int .i64 a.p] 25)).alloc (.cells #[.int .i64 b.n, .int .i64 b.p] 25)).alloc (.cells #[.int .i64 c.n, .int .i64 c.p] 25)) (w.heap.size + 1) b) := hide (by rw [← hz1]; exact (BoxL.new _ b).later (Grow.alloc' _ _))
  have KC : Hid (BoxL (((w.alloc (.cells #[.int .i64 a.n, .int .i64 a.p] 25)).alloc (.cells #[.int .i64 b.n, .int .i64 b.p] 25)).alloc (.cells #[.int .i64 c.n, .int .i64 c.p] 25)) (w.heap.size + 2) c) := hide (by rw [← hz2]; exact BoxL.new _ c)
  have CAB := hide (fun w => ord_at a b hab w)
  have CBA := hide (fun w => ord_at b a hba w)
  have CBC := hide (fun w => ord_at b c hbc w)
  skip
  have CO := hide (fun w => ord_at ⟨a.n, -1⟩ ⟨a.n, 0⟩ (ordL_out a.n) w)
  clear hz1 hz2 hab hba hbc 
  obtain ⟨an, ap⟩ := a
  obtain ⟨bn, bp⟩ := b
  obtain ⟨cn, cp⟩ := c
  dsimp only at GG KA KB KC CAB CBA CBC  CO ⊢
  go_enter Try.func8, Try.ntmps8
  go_wp2_with fail
  generalize ((w.alloc (.cells #[.int .i64 an, .int .i64 ap] 25)).alloc (.cells #[.int .i64 bn, .int .i64 bp] 25)).alloc (.cells #[.int .i64 cn, .int .i64 cp] 25) = w0 at *
  generalize w.heap.size = P at *
  refine (shown_any _).mono ?_
  rintro _ w1 ⟨rfl, hb⟩
  have G1 := hide (Grow.trans' GG.out hb)
  have A1 := hide (KA.out.later hb)
  have B1 := hide (KB.out.later hb)
  have C1 := hide (KC.out.later hb)
  clear hb KA KB KC GG
  go_wp2_with fail
  obtain ⟨a0, a1⟩ := A1.out
  obtain ⟨b0, b1⟩ := B1.out
  dsimp only at a0 a1 b0 b1
  have sa0 := cell_regrown a0
  have sa1 := cell_regrown a1
  have sb0 := cell_regrown b0
  have sb1 := cell_regrown b1
  have Q1 := hide (fun dd os => Calls.regrown_of (CAB.out (grow (redrawn w1 dd) os)))
  have Q2 := hide (fun dd os => Calls.regrown_of (CBA.out (grow (redrawn w1 dd) os)))
  refine wp_region_quiet_below (by kernel_rfl) (by kernel_rfl) ?_
  repeat (go_big_quiet_step ((go_at_call 18; first | (with_reducible exact Q1.out _ _) | (with_reducible exact Q2.out _ _))))
  refine wpQuiet_nil ?_
  intro _ hw'
  obtain ⟨⟨dq, osq⟩, hw''⟩ := hw'
  subst hw''
  have hgw := below_regrown w1 dq osq
  clear sa0 sa1 sb0 sb1 Q1 Q2 a0 a1 b0 b1
  generalize grow (redrawn w1 dq) osq = wz at *
  replace G1 := hide (Grow.trans' G1.out hgw)
  replace A1 := hide (A1.out.later hgw)
  replace B1 := hide (B1.out.later hgw)
  replace C1 := hide (C1.out.later hgw)
  clear hgw
  clear w1
  rename World => w1
  go_wp2_with fail
  obtain ⟨a0, a1⟩ := A1.out
  obtain ⟨b0, b1⟩ := B1.out
  dsimp only at a0 a1 b0 b1
  have sa0 := cell_regrown a0
  have sa1 := cell_regrown a1
  have sb0 := cell_regrown b0
  have sb1 := cell_regrown b1
  have Q1 := hide (fun dd os => Calls.regrown_of (CAB.out (grow (redrawn w1 dd) os)))
  have Q2 := hide (fun dd os => Calls.regrown_of (CBA.out (grow (redrawn w1 dd) os)))
  refine wp_region_quiet_below (by kernel_rfl) (by kernel_rfl) ?_
  repeat (go_big_quiet_step ((go_at_call 18; first | (with_reducible exact Q1.out _ _) | (with_reducible exact Q2.out _ _))))
  refine wpQuiet_nil ?_
  intro _ hw'
  obtain ⟨⟨dq, osq⟩, hw''⟩ := hw'
  subst hw''
  have hgw := below_regrown w1 dq osq
  clear sa0 sa1 sb0 sb1 Q1 Q2 a0 a1 b0 b1
  generalize grow (redrawn w1 dq) osq = wz at *
  replace G1 := hide (Grow.trans' G1.out hgw)
  replace A1 := hide (A1.out.later hgw)
  replace B1 := hide (B1.out.later hgw)
  replace C1 := hide (C1.out.later hgw)
  clear hgw
  clear w1
  rename World => w1
  obtain ⟨a0, a1⟩ := A1.out
  obtain ⟨b0, b1⟩ := B1.out
  obtain ⟨c0, c1⟩ := C1.out
  dsimp only at a0 a1 b0 b1 c0 c1
  go_wp2_with fail
  refine (CAB.out _).mono ?_
  rintro _ w2 ⟨rfl, hb⟩
  have G2 := hide (Grow.trans' G1.out hb)
  have A2 := hide (A1.out.later hb)
  have B2 := hide (B1.out.later hb)
  have C2 := hide (C1.out.later hb)
  clear hb a0 a1 b0 b1 c0 c1 A1 B1 C1 G1
  obtain ⟨a0, a1⟩ := A2.out
  obtain ⟨b0, b1⟩ := B2.out
  obtain ⟨c0, c1⟩ := C2.out
  dsimp only at a0 a1 b0 b1 c0 c1
  go_wp2_with fail
  refine (CBC.out _).mono ?_
  rintro _ w3 ⟨rfl, hb⟩
  have G3 := hide (Grow.trans' G2.out hb)
  have A3 := hide (A2.out.later hb)
  have C3 := hide (C2.out.later hb)
  clear hb a0 a1 b0 b1 c0 c1 A2 B2 C2 G2
  obtain ⟨a0, a1⟩ := A3.out
  obtain ⟨c0, c1⟩ := C3.out
  dsimp only at a0 a1 c0 c1
  go_wp2_with fail
  refine (CO.out _).mono ?_
  rintro _ w5 ⟨rfl, hb⟩
  have G5 := hide (Grow.trans' G3.out hb)
  clear hb
  go_wp2_with fail
  go_ret
  exact ⟨rfl, G5.out⟩
set_option maxHeartbeats 4000000 in
theorem total_c (a b c : Lc) (w : World) (hab : ordL a b = -1) (hba : ordL b a = 1) (he : eqL a b = false) (zb : Int) (hbc : ordL b c = zb) (hb1 : ¬ 0 < zb) (zc : Int) (hac : ordL a c = zc) (hc1 : zc ≤ 0) :
    Calls Try.prog 8 #[.agg #[.int .i64 a.n, .int .i64 a.p], .agg #[.int .i64 b.n, .int .i64 b.p], .agg #[.int .i64 c.n, .int .i64 c.p]] w fun r w' => r = .returned (.bool true) ∧ Grow w w' := by
  have hz1 : (w.alloc (.cells #[.int .i64 a.n, .int .i64 a.p] 25)).heap.size = w.heap.size + 1 := by simp
  have hz2 : ((w.alloc (.cells #[.int .i64 a.n, .int .i64 a.p] 25)).alloc (.cells #[.int .i64 b.n, .int .i64 b.p] 25)).heap.size = w.heap.size + 2 := by simp
  have GG : Hid (Grow w (((w.alloc (.cells #[.int .i64 a.n, .int .i64 a.p] 25)).alloc (.cells #[.int .i64 b.n, .int .i64 b.p] 25)).alloc (.cells #[.int .i64 c.n, .int .i64 c.p] 25))) := hide (Grow.trans' (Grow.trans' (Grow.alloc' _ _) (Grow.alloc' _ _)) (Grow.alloc' _ _))
  have KA : Hid (BoxL (((w.alloc (.cells #[.int .i64 a.n, .int .i64 a.p] 25)).alloc (.cells #[.int .i64 b.n, .int .i64 b.p] 25)).alloc (.cells #[.int .i64 c.n, .int .i64 c.p] 25)) w.heap.size a) := hide (((BoxL.new w a).later (Grow.alloc' _ _)).later (Grow.alloc' _ _))
  have KB : Hid (BoxL (((w.alloc (.cells #[.int .i64 a.n, .int .i64 a.p] 25)).alloc (.cells #[.int .i64 b.n, .int .i64 b.p] 25)).alloc (.cells #[.int .i64 c.n, .int .i64 c.p] 25)) (w.heap.size + 1) b) := hide (by rw [← hz1]; exact (BoxL.new _ b).later (Grow.alloc' _ _))
  have KC : Hid (BoxL (((w.alloc (.cells #[.int .i64 a.n, .int .i64 a.p] 25)).alloc (.cells #[.int .i64 b.n, .int .i64 b.p] 25)).alloc (.cells #[.int .i64 c.n, .int .i64 c.p] 25)) (w.heap.size + 2) c) := hide (by rw [← hz2]; exact BoxL.new _ c)
  have CAB := hide (fun w => ord_at a b hab w)
  have CBA := hide (fun w => ord_at b a hba w)
  have CBC := hide (fun w => ord_at b c hbc w)
  have CAC := hide (fun w => ord_at a c hac w)
  have CO := hide (fun w => ord_at ⟨a.n, -1⟩ ⟨a.n, 0⟩ (ordL_out a.n) w)
  clear hz1 hz2 hab hba hbc hac
  obtain ⟨an, ap⟩ := a
  obtain ⟨bn, bp⟩ := b
  obtain ⟨cn, cp⟩ := c
  dsimp only at GG KA KB KC CAB CBA CBC CAC CO ⊢
  go_enter Try.func8, Try.ntmps8
  go_wp2_with fail
  generalize ((w.alloc (.cells #[.int .i64 an, .int .i64 ap] 25)).alloc (.cells #[.int .i64 bn, .int .i64 bp] 25)).alloc (.cells #[.int .i64 cn, .int .i64 cp] 25) = w0 at *
  generalize w.heap.size = P at *
  refine (shown_any _).mono ?_
  rintro _ w1 ⟨rfl, hb⟩
  have G1 := hide (Grow.trans' GG.out hb)
  have A1 := hide (KA.out.later hb)
  have B1 := hide (KB.out.later hb)
  have C1 := hide (KC.out.later hb)
  clear hb KA KB KC GG
  go_wp2_with fail
  obtain ⟨a0, a1⟩ := A1.out
  obtain ⟨b0, b1⟩ := B1.out
  dsimp only at a0 a1 b0 b1
  have sa0 := cell_regrown a0
  have sa1 := cell_regrown a1
  have sb0 := cell_regrown b0
  have sb1 := cell_regrown b1
  have Q1 := hide (fun dd os => Calls.regrown_of (CAB.out (grow (redrawn w1 dd) os)))
  have Q2 := hide (fun dd os => Calls.regrown_of (CBA.out (grow (redrawn w1 dd) os)))
  refine wp_region_quiet_below (by kernel_rfl) (by kernel_rfl) ?_
  repeat (go_big_quiet_step ((go_at_call 18; first | (with_reducible exact Q1.out _ _) | (with_reducible exact Q2.out _ _))))
  refine wpQuiet_nil ?_
  intro _ hw'
  obtain ⟨⟨dq, osq⟩, hw''⟩ := hw'
  subst hw''
  have hgw := below_regrown w1 dq osq
  clear sa0 sa1 sb0 sb1 Q1 Q2 a0 a1 b0 b1
  generalize grow (redrawn w1 dq) osq = wz at *
  replace G1 := hide (Grow.trans' G1.out hgw)
  replace A1 := hide (A1.out.later hgw)
  replace B1 := hide (B1.out.later hgw)
  replace C1 := hide (C1.out.later hgw)
  clear hgw
  clear w1
  rename World => w1
  go_wp2_with fail
  obtain ⟨a0, a1⟩ := A1.out
  obtain ⟨b0, b1⟩ := B1.out
  dsimp only at a0 a1 b0 b1
  have sa0 := cell_regrown a0
  have sa1 := cell_regrown a1
  have sb0 := cell_regrown b0
  have sb1 := cell_regrown b1
  have Q1 := hide (fun dd os => Calls.regrown_of (CAB.out (grow (redrawn w1 dd) os)))
  have Q2 := hide (fun dd os => Calls.regrown_of (CBA.out (grow (redrawn w1 dd) os)))
  refine wp_region_quiet_below (by kernel_rfl) (by kernel_rfl) ?_
  repeat (go_big_quiet_step ((go_at_call 18; first | (with_reducible exact Q1.out _ _) | (with_reducible exact Q2.out _ _))))
  refine wpQuiet_nil ?_
  intro _ hw'
  obtain ⟨⟨dq, osq⟩, hw''⟩ := hw'
  subst hw''
  have hgw := below_regrown w1 dq osq
  clear sa0 sa1 sb0 sb1 Q1 Q2 a0 a1 b0 b1
  generalize grow (redrawn w1 dq) osq = wz at *
  replace G1 := hide (Grow.trans' G1.out hgw)
  replace A1 := hide (A1.out.later hgw)
  replace B1 := hide (B1.out.later hgw)
  replace C1 := hide (C1.out.later hgw)
  clear hgw
  clear w1
  rename World => w1
  obtain ⟨a0, a1⟩ := A1.out
  obtain ⟨b0, b1⟩ := B1.out
  obtain ⟨c0, c1⟩ := C1.out
  dsimp only at a0 a1 b0 b1 c0 c1
  go_wp2_with fail
  refine (CAB.out _).mono ?_
  rintro _ w2 ⟨rfl, hb⟩
  have G2 := hide (Grow.trans' G1.out hb)
  have A2 := hide (A1.out.later hb)
  have B2 := hide (B1.out.later hb)
  have C2 := hide (C1.out.later hb)
  clear hb a0 a1 b0 b1 c0 c1 A1 B1 C1 G1
  obtain ⟨a0, a1⟩ := A2.out
  obtain ⟨b0, b1⟩ := B2.out
  obtain ⟨c0, c1⟩ := C2.out
  dsimp only at a0 a1 b0 b1 c0 c1
  go_wp2_with fail
  refine (CBC.out _).mono ?_
  rintro _ w3 ⟨rfl, hb⟩
  have G3 := hide (Grow.trans' G2.out hb)
  have A3 := hide (A2.out.later hb)
  have C3 := hide (C2.out.later hb)
  clear hb a0 a1 b0 b1 c0 c1 A2 B2 C2 G2
  obtain ⟨a0, a1⟩ := A3.out
  obtain ⟨c0, c1⟩ := C3.out
  dsimp only at a0 a1 c0 c1
  go_wp2_with fail
  refine (CAC.out _).mono ?_
  rintro _ w4 ⟨rfl, hb⟩
  have G4 := hide (Grow.trans' G3.out hb)
  have A4 := hide (A3.out.later hb)
  clear hb a0 a1 c0 c1 A3 C3 G3
  obtain ⟨a0, a1⟩ := A4.out
  dsimp only at a0 a1
  go_wp2_with fail
  refine (CO.out _).mono ?_
  rintro _ w5 ⟨rfl, hb⟩
  have G5 := hide (Grow.trans' G4.out hb)
  clear hb
  go_wp2_with fail
  go_ret
  exact ⟨rfl, G5.out⟩
set_option maxHeartbeats 4000000 in
theorem total_d (a b c : Lc) (w : World) (hab : ordL a b = 0) (hba : ordL b a = 0) (he : eqL a b = true) (zb : Int) (hbc : ordL b c = zb) (hb1 : 0 < zb) :
    Calls Try.prog 8 #[.agg #[.int .i64 a.n, .int .i64 a.p], .agg #[.int .i64 b.n, .int .i64 b.p], .agg #[.int .i64 c.n, .int .i64 c.p]] w fun r w' => r = .returned (.bool true) ∧ Grow w w' := by
  have hz1 : (w.alloc (.cells #[.int .i64 a.n, .int .i64 a.p] 25)).heap.size = w.heap.size + 1 := by simp
  have hz2 : ((w.alloc (.cells #[.int .i64 a.n, .int .i64 a.p] 25)).alloc (.cells #[.int .i64 b.n, .int .i64 b.p] 25)).heap.size = w.heap.size + 2 := by simp
  have GG : Hid (Grow w (((w.alloc (.cells #[.int .i64 a.n, .int .i64 a.p] 25)).alloc (.cells #[.int .i64 b.n, .int .i64 b.p] 25)).alloc (.cells #[.int .i64 c.n, .int .i64 c.p] 25))) := hide (Grow.trans' (Grow.trans' (Grow.alloc' _ _) (Grow.alloc' _ _)) (Grow.alloc' _ _))
  have KA : Hid (BoxL (((w.alloc (.cells #[.int .i64 a.n, .int .i64 a.p] 25)).alloc (.cells #[.int .i64 b.n, .int .i64 b.p] 25)).alloc (.cells #[.int .i64 c.n, .int .i64 c.p] 25)) w.heap.size a) := hide (((BoxL.new w a).later (Grow.alloc' _ _)).later (Grow.alloc' _ _))
  have KB : Hid (BoxL (((w.alloc (.cells #[.int .i64 a.n, .int .i64 a.p] 25)).alloc (.cells #[.int .i64 b.n, .int .i64 b.p] 25)).alloc (.cells #[.int .i64 c.n, .int .i64 c.p] 25)) (w.heap.size + 1) b) := hide (by rw [← hz1]; exact (BoxL.new _ b).later (Grow.alloc' _ _))
  have KC : Hid (BoxL (((w.alloc (.cells #[.int .i64 a.n, .int .i64 a.p] 25)).alloc (.cells #[.int .i64 b.n, .int .i64 b.p] 25)).alloc (.cells #[.int .i64 c.n, .int .i64 c.p] 25)) (w.heap.size + 2) c) := hide (by rw [← hz2]; exact BoxL.new _ c)
  have CAB := hide (fun w => ord_at a b hab w)
  have CBA := hide (fun w => ord_at b a hba w)
  have CBC := hide (fun w => ord_at b c hbc w)
  skip
  have CO := hide (fun w => ord_at ⟨a.n, -1⟩ ⟨a.n, 0⟩ (ordL_out a.n) w)
  clear hz1 hz2 hab hba hbc 
  obtain ⟨an, ap⟩ := a
  obtain ⟨bn, bp⟩ := b
  obtain ⟨cn, cp⟩ := c
  dsimp only at GG KA KB KC CAB CBA CBC  CO ⊢
  go_enter Try.func8, Try.ntmps8
  go_wp2_with fail
  generalize ((w.alloc (.cells #[.int .i64 an, .int .i64 ap] 25)).alloc (.cells #[.int .i64 bn, .int .i64 bp] 25)).alloc (.cells #[.int .i64 cn, .int .i64 cp] 25) = w0 at *
  generalize w.heap.size = P at *
  refine (shown_any _).mono ?_
  rintro _ w1 ⟨rfl, hb⟩
  have G1 := hide (Grow.trans' GG.out hb)
  have A1 := hide (KA.out.later hb)
  have B1 := hide (KB.out.later hb)
  have C1 := hide (KC.out.later hb)
  clear hb KA KB KC GG
  go_wp2_with fail
  obtain ⟨a0, a1⟩ := A1.out
  obtain ⟨b0, b1⟩ := B1.out
  dsimp only at a0 a1 b0 b1
  have sa0 := cell_regrown a0
  have sa1 := cell_regrown a1
  have sb0 := cell_regrown b0
  have sb1 := cell_regrown b1
  have Q1 := hide (fun dd os => Calls.regrown_of (CAB.out (grow (redrawn w1 dd) os)))
  have Q2 := hide (fun dd os => Calls.regrown_of (CBA.out (grow (redrawn w1 dd) os)))
  refine wp_region_quiet_below (by kernel_rfl) (by kernel_rfl) ?_
  repeat (go_big_quiet_step ((go_at_call 18; first | (with_reducible exact Q1.out _ _) | (with_reducible exact Q2.out _ _))))
  refine wpQuiet_nil ?_
  intro _ hw'
  obtain ⟨⟨dq, osq⟩, hw''⟩ := hw'
  subst hw''
  have hgw := below_regrown w1 dq osq
  clear sa0 sa1 sb0 sb1 Q1 Q2 a0 a1 b0 b1
  generalize grow (redrawn w1 dq) osq = wz at *
  replace G1 := hide (Grow.trans' G1.out hgw)
  replace A1 := hide (A1.out.later hgw)
  replace B1 := hide (B1.out.later hgw)
  replace C1 := hide (C1.out.later hgw)
  clear hgw
  clear w1
  rename World => w1
  go_wp2_with fail
  obtain ⟨a0, a1⟩ := A1.out
  obtain ⟨b0, b1⟩ := B1.out
  dsimp only at a0 a1 b0 b1
  have sa0 := cell_regrown a0
  have sa1 := cell_regrown a1
  have sb0 := cell_regrown b0
  have sb1 := cell_regrown b1
  have Q1 := hide (fun dd os => Calls.regrown_of (CAB.out (grow (redrawn w1 dd) os)))
  have Q2 := hide (fun dd os => Calls.regrown_of (CBA.out (grow (redrawn w1 dd) os)))
  refine wp_region_quiet_below (by kernel_rfl) (by kernel_rfl) ?_
  repeat (go_big_quiet_step ((go_at_call 18; first | (with_reducible exact Q1.out _ _) | (with_reducible exact Q2.out _ _))))
  refine wpQuiet_nil ?_
  intro _ hw'
  obtain ⟨⟨dq, osq⟩, hw''⟩ := hw'
  subst hw''
  have hgw := below_regrown w1 dq osq
  clear sa0 sa1 sb0 sb1 Q1 Q2 a0 a1 b0 b1
  generalize grow (redrawn w1 dq) osq = wz at *
  replace G1 := hide (Grow.trans' G1.out hgw)
  replace A1 := hide (A1.out.later hgw)
  replace B1 := hide (B1.out.later hgw)
  replace C1 := hide (C1.out.later hgw)
  clear hgw
  clear w1
  rename World => w1
  obtain ⟨a0, a1⟩ := A1.out
  obtain ⟨b0, b1⟩ := B1.out
  obtain ⟨c0, c1⟩ := C1.out
  dsimp only at a0 a1 b0 b1 c0 c1
  go_wp2_with fail
  refine (CAB.out _).mono ?_
  rintro _ w2 ⟨rfl, hb⟩
  have G2 := hide (Grow.trans' G1.out hb)
  have A2 := hide (A1.out.later hb)
  have B2 := hide (B1.out.later hb)
  have C2 := hide (C1.out.later hb)
  clear hb a0 a1 b0 b1 c0 c1 A1 B1 C1 G1
  obtain ⟨a0, a1⟩ := A2.out
  obtain ⟨b0, b1⟩ := B2.out
  obtain ⟨c0, c1⟩ := C2.out
  dsimp only at a0 a1 b0 b1 c0 c1
  go_wp2_with fail
  refine (CBC.out _).mono ?_
  rintro _ w3 ⟨rfl, hb⟩
  have G3 := hide (Grow.trans' G2.out hb)
  have A3 := hide (A2.out.later hb)
  have C3 := hide (C2.out.later hb)
  clear hb a0 a1 b0 b1 c0 c1 A2 B2 C2 G2
  obtain ⟨a0, a1⟩ := A3.out
  obtain ⟨c0, c1⟩ := C3.out
  dsimp only at a0 a1 c0 c1
  go_wp2_with fail
  refine (CO.out _).mono ?_
  rintro _ w5 ⟨rfl, hb⟩
  have G5 := hide (Grow.trans' G3.out hb)
  clear hb
  go_wp2_with fail
  go_ret
  exact ⟨rfl, G5.out⟩
set_option maxHeartbeats 4000000 in
theorem total_e (a b c : Lc) (w : World) (hab : ordL a b = 0) (hba : ordL b a = 0) (he : eqL a b = true) (zb : Int) (hbc : ordL b c = zb) (hb1 : ¬ 0 < zb) (zc : Int) (hac : ordL a c = zc) (hc1 : zc ≤ 0) :
    Calls Try.prog 8 #[.agg #[.int .i64 a.n, .int .i64 a.p], .agg #[.int .i64 b.n, .int .i64 b.p], .agg #[.int .i64 c.n, .int .i64 c.p]] w fun r w' => r = .returned (.bool true) ∧ Grow w w' := by
  have hz1 : (w.alloc (.cells #[.int .i64 a.n, .int .i64 a.p] 25)).heap.size = w.heap.size + 1 := by simp
  have hz2 : ((w.alloc (.cells #[.int .i64 a.n, .int .i64 a.p] 25)).alloc (.cells #[.int .i64 b.n, .int .i64 b.p] 25)).heap.size = w.heap.size + 2 := by simp
  have GG : Hid (Grow w (((w.alloc (.cells #[.int .i64 a.n, .int .i64 a.p] 25)).alloc (.cells #[.int .i64 b.n, .int .i64 b.p] 25)).alloc (.cells #[.int .i64 c.n, .int .i64 c.p] 25))) := hide (Grow.trans' (Grow.trans' (Grow.alloc' _ _) (Grow.alloc' _ _)) (Grow.alloc' _ _))
  have KA : Hid (BoxL (((w.alloc (.cells #[.int .i64 a.n, .int .i64 a.p] 25)).alloc (.cells #[.int .i64 b.n, .int .i64 b.p] 25)).alloc (.cells #[.int .i64 c.n, .int .i64 c.p] 25)) w.heap.size a) := hide (((BoxL.new w a).later (Grow.alloc' _ _)).later (Grow.alloc' _ _))
  have KB : Hid (BoxL (((w.alloc (.cells #[.int .i64 a.n, .int .i64 a.p] 25)).alloc (.cells #[.int .i64 b.n, .int .i64 b.p] 25)).alloc (.cells #[.int .i64 c.n, .int .i64 c.p] 25)) (w.heap.size + 1) b) := hide (by rw [← hz1]; exact (BoxL.new _ b).later (Grow.alloc' _ _))
  have KC : Hid (BoxL (((w.alloc (.cells #[.int .i64 a.n, .int .i64 a.p] 25)).alloc (.cells #[.int .i64 b.n, .int .i64 b.p] 25)).alloc (.cells #[.int .i64 c.n, .int .i64 c.p] 25)) (w.heap.size + 2) c) := hide (by rw [← hz2]; exact BoxL.new _ c)
  have CAB := hide (fun w => ord_at a b hab w)
  have CBA := hide (fun w => ord_at b a hba w)
  have CBC := hide (fun w => ord_at b c hbc w)
  have CAC := hide (fun w => ord_at a c hac w)
  have CO := hide (fun w => ord_at ⟨a.n, -1⟩ ⟨a.n, 0⟩ (ordL_out a.n) w)
  clear hz1 hz2 hab hba hbc hac
  obtain ⟨an, ap⟩ := a
  obtain ⟨bn, bp⟩ := b
  obtain ⟨cn, cp⟩ := c
  dsimp only at GG KA KB KC CAB CBA CBC CAC CO ⊢
  go_enter Try.func8, Try.ntmps8
  go_wp2_with fail
  generalize ((w.alloc (.cells #[.int .i64 an, .int .i64 ap] 25)).alloc (.cells #[.int .i64 bn, .int .i64 bp] 25)).alloc (.cells #[.int .i64 cn, .int .i64 cp] 25) = w0 at *
  generalize w.heap.size = P at *
  refine (shown_any _).mono ?_
  rintro _ w1 ⟨rfl, hb⟩
  have G1 := hide (Grow.trans' GG.out hb)
  have A1 := hide (KA.out.later hb)
  have B1 := hide (KB.out.later hb)
  have C1 := hide (KC.out.later hb)
  clear hb KA KB KC GG
  go_wp2_with fail
  obtain ⟨a0, a1⟩ := A1.out
  obtain ⟨b0, b1⟩ := B1.out
  dsimp only at a0 a1 b0 b1
  have sa0 := cell_regrown a0
  have sa1 := cell_regrown a1
  have sb0 := cell_regrown b0
  have sb1 := cell_regrown b1
  have Q1 := hide (fun dd os => Calls.regrown_of (CAB.out (grow (redrawn w1 dd) os)))
  have Q2 := hide (fun dd os => Calls.regrown_of (CBA.out (grow (redrawn w1 dd) os)))
  refine wp_region_quiet_below (by kernel_rfl) (by kernel_rfl) ?_
  repeat (go_big_quiet_step ((go_at_call 18; first | (with_reducible exact Q1.out _ _) | (with_reducible exact Q2.out _ _))))
  refine wpQuiet_nil ?_
  intro _ hw'
  obtain ⟨⟨dq, osq⟩, hw''⟩ := hw'
  subst hw''
  have hgw := below_regrown w1 dq osq
  clear sa0 sa1 sb0 sb1 Q1 Q2 a0 a1 b0 b1
  generalize grow (redrawn w1 dq) osq = wz at *
  replace G1 := hide (Grow.trans' G1.out hgw)
  replace A1 := hide (A1.out.later hgw)
  replace B1 := hide (B1.out.later hgw)
  replace C1 := hide (C1.out.later hgw)
  clear hgw
  clear w1
  rename World => w1
  go_wp2_with fail
  obtain ⟨a0, a1⟩ := A1.out
  obtain ⟨b0, b1⟩ := B1.out
  dsimp only at a0 a1 b0 b1
  have sa0 := cell_regrown a0
  have sa1 := cell_regrown a1
  have sb0 := cell_regrown b0
  have sb1 := cell_regrown b1
  have Q1 := hide (fun dd os => Calls.regrown_of (CAB.out (grow (redrawn w1 dd) os)))
  have Q2 := hide (fun dd os => Calls.regrown_of (CBA.out (grow (redrawn w1 dd) os)))
  refine wp_region_quiet_below (by kernel_rfl) (by kernel_rfl) ?_
  repeat (go_big_quiet_step ((go_at_call 18; first | (with_reducible exact Q1.out _ _) | (with_reducible exact Q2.out _ _))))
  refine wpQuiet_nil ?_
  intro _ hw'
  obtain ⟨⟨dq, osq⟩, hw''⟩ := hw'
  subst hw''
  have hgw := below_regrown w1 dq osq
  clear sa0 sa1 sb0 sb1 Q1 Q2 a0 a1 b0 b1
  generalize grow (redrawn w1 dq) osq = wz at *
  replace G1 := hide (Grow.trans' G1.out hgw)
  replace A1 := hide (A1.out.later hgw)
  replace B1 := hide (B1.out.later hgw)
  replace C1 := hide (C1.out.later hgw)
  clear hgw
  clear w1
  rename World => w1
  obtain ⟨a0, a1⟩ := A1.out
  obtain ⟨b0, b1⟩ := B1.out
  obtain ⟨c0, c1⟩ := C1.out
  dsimp only at a0 a1 b0 b1 c0 c1
  go_wp2_with fail
  refine (CAB.out _).mono ?_
  rintro _ w2 ⟨rfl, hb⟩
  have G2 := hide (Grow.trans' G1.out hb)
  have A2 := hide (A1.out.later hb)
  have B2 := hide (B1.out.later hb)
  have C2 := hide (C1.out.later hb)
  clear hb a0 a1 b0 b1 c0 c1 A1 B1 C1 G1
  obtain ⟨a0, a1⟩ := A2.out
  obtain ⟨b0, b1⟩ := B2.out
  obtain ⟨c0, c1⟩ := C2.out
  dsimp only at a0 a1 b0 b1 c0 c1
  go_wp2_with fail
  refine (CBC.out _).mono ?_
  rintro _ w3 ⟨rfl, hb⟩
  have G3 := hide (Grow.trans' G2.out hb)
  have A3 := hide (A2.out.later hb)
  have C3 := hide (C2.out.later hb)
  clear hb a0 a1 b0 b1 c0 c1 A2 B2 C2 G2
  obtain ⟨a0, a1⟩ := A3.out
  obtain ⟨c0, c1⟩ := C3.out
  dsimp only at a0 a1 c0 c1
  go_wp2_with fail
  refine (CAC.out _).mono ?_
  rintro _ w4 ⟨rfl, hb⟩
  have G4 := hide (Grow.trans' G3.out hb)
  have A4 := hide (A3.out.later hb)
  clear hb a0 a1 c0 c1 A3 C3 G3
  obtain ⟨a0, a1⟩ := A4.out
  dsimp only at a0 a1
  go_wp2_with fail
  refine (CO.out _).mono ?_
  rintro _ w5 ⟨rfl, hb⟩
  have G5 := hide (Grow.trans' G4.out hb)
  clear hb
  go_wp2_with fail
  go_ret
  exact ⟨rfl, G5.out⟩
theorem GraphTotal_any (a b c : Lc) (w : World) :
    Calls Try.prog 8 #[.agg #[.int .i64 a.n, .int .i64 a.p], .agg #[.int .i64 b.n, .int .i64 b.p], .agg #[.int .i64 c.n, .int .i64 c.p]] w fun r w' => r = .returned (.bool true) ∧ Grow w w' := by
  have ht := ordL_turn b a
  have hE : eqL a b = true ↔ ordL a b = 0 := (eqL_iff a b).trans (ordL_zero a b).symm
  rcases ordL_cases a b with h | h | h
  · have he : eqL a b = false := by
      cases h2 : eqL a b
      · rfl
      · have := hE.1 h2; omega
    by_cases h1 : 0 < ordL b c
    · exact total_b a b c w h (by rw [ht, h]; rfl) he _ rfl h1
    · exact total_c a b c w h (by rw [ht, h]; rfl) he _ rfl h1 _ rfl (ordL_chain a b c (by omega) h1)
  · have he : eqL a b = true := hE.2 h
    by_cases h1 : 0 < ordL b c
    · exact total_d a b c w h (by rw [ht, h]; rfl) he _ rfl h1
    · exact total_e a b c w h (by rw [ht, h]; rfl) he _ rfl h1 _ rfl (ordL_chain a b c (by omega) h1)
  · have he : eqL a b = false := by
      cases h2 : eqL a b
      · rfl
      · have := hE.1 h2; omega
    exact total_a a b c w h (by rw [ht, h]) he

set_option maxRecDepth 100000 in
theorem GraphTotal_lifted (os : Os) (started : os.Started) (H : Type) (enc : TypeId × Value → H) :
    ReturnsInHanded {} Try.checked os 8 .any (Rows.graphTotalSpec.pre6 enc Try.prog Try.f8 Rows.graphTotalRow.domain false) (Rows.graphTotalSpec.post enc Try.prog Try.f8 false true false false) := by
  refine returnsInHanded_of_change (C := Try.checked) own started (by kernel_rfl) Try.func8
    (ChangeSpec.witness6 (enc := enc) (C := Try.checked) false ⟨#[], #[.agg #[.int .i64 0, .int .i64 0], .agg #[.int .i64 0, .int .i64 0], .agg #[.int .i64 0, .int .i64 0]], []⟩ 8 (by kernel_rfl) (by kernel_rfl) (by kernel_rfl) (by kernel_rfl)) ?_
  intro W base args ds gs before hval0 hW hcnd _
  have hval : ∀ (j : Nat) t v, Try.f8.params[j]? = some t → args[j]? = some v → Value.okWide Try.prog W .any base t v := hval0
  have hW' := hW
  obtain ⟨p, q, hA0, hV, rfl, hfz, hnd⟩ := hW
  have hA : DataW.TrodAll enc Try.prog W 0 (fun _ => true) true Try.f8.params.toList args.toList ds p := hA0
  rw [Try.params8] at hA hval
  obtain ⟨v0, vs0, d0, ds0, p0, q0, hargs, rfl, rfl, h0, r0⟩ := trodAll_cons hA
  obtain ⟨v1, vs1, d1, ds1, p1, q1, rfl, rfl, rfl, h1, r1⟩ := trodAll_cons r0
  obtain ⟨v2, vs2, d2, ds2, p2, q2, rfl, rfl, rfl, h2, r2⟩ := trodAll_cons r1
  obtain ⟨rfl, rfl, rfl⟩ := trodAll_nil r2
  obtain rfl : args = #[v0, v1, v2] := by cases args; simp_all
  obtain ⟨rfl, rfl⟩ := trodVars_none hV
  have k0 := h0
  have lt0 : ∀ x ∈ p0, x.block < W.heap.size := by obtain ⟨m, hm⟩ := k0; exact DataW.trod_lt m _ _ _ hm
  obtain ⟨t0, rfl, w0⟩ := open_lc (hval 0 25 v0 rfl rfl) h0
  have k1 := h1
  have lt1 : ∀ x ∈ p1, x.block < W.heap.size := by obtain ⟨m, hm⟩ := k1; exact DataW.trod_lt m _ _ _ hm
  obtain ⟨t1, rfl, w1⟩ := open_lc (hval 1 25 v1 rfl rfl) h1
  have k2 := h2
  have lt2 : ∀ x ∈ p2, x.block < W.heap.size := by obtain ⟨m, hm⟩ := k2; exact DataW.trod_lt m _ _ _ hm
  obtain ⟨t2, rfl, w2⟩ := open_lc (hval 2 25 v2 rfl rfl) h2
  clear hA0 hval0
  refine (GraphTotal_any t0 t1 t2 W).mono fun e W' ⟨he, bel⟩ => ?_
  subst he
  exact ⟨_, rfl, _, _, _, [], _, [], hW', trodAll_mk1 (shut_bool Try.underlying4 _), (trodAll_cons_mk (Below.trod laidOut (by kernel_rfl) (of_decide_eq_true (by kernel_rfl)) k0 bel lt0) (trodAll_cons_mk (Below.trod laidOut (by kernel_rfl) (of_decide_eq_true (by kernel_rfl)) k1 bel lt1) (trodAll_cons_mk (Below.trod laidOut (by kernel_rfl) (of_decide_eq_true (by kernel_rfl)) k2 bel lt2) trodAll_mk0))), rfl, bel.frame _, fun h => by cases h⟩

/-- The given statement. -/
theorem GraphTotal_holds : Rows.GraphTotalSaid :=
  OpenClaim.holds_of_wide 8 Try.f8 rfl rfl rfl rfl rfl rfl rfl ⟨rfl, rfl, rfl, rfl, rfl⟩ rfl rfl rfl rfl rfl (by kernel_rfl) Try.func8 (by kernel_rfl)
    (of_decide_eq_true (by kernel_rfl)) (by unfold Func.isWrapper; first | (rw [if_pos (by decide +kernel)]; kernel_rfl) | (rw [if_neg (by decide +kernel)]; exact ⟨rfl, rfl⟩))
    (fun os started H enc _ => GraphTotal_lifted os started H enc)


end Go.Proofs.Ytjpaclcpebpcjaa
