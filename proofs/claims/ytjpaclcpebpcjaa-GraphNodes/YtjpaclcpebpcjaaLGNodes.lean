/-
  GraphNodes: for every node and every two places: how many inputs the node has, whether it has an output, the depth at its inputs and what it does to times (these two for depths of 1000 at most, either way), and the order of the places are what the document's own functions say; the call returns true and leaves its arguments as they were. No conditions.
-/
import Derived.Test.YtjpaclcpebpcjaaHHd
import Derived.Test.YtjpaclcpebpcjaaHInn
import Derived.Lib.QuietBelow
namespace Go.Proofs.Ytjpaclcpebpcjaa
set_option maxRecDepth 100000
open Go.ChangeShapes Go.WideShapes Go.ChangeAt Go.RowKit Go.Deep Go.Sort
set_option linter.unusedVariables false
set_option linter.unusedSimpArgs false
attribute [local go_sem ↓] eqLc eqSm

set_option maxHeartbeats 8000000 in
theorem nodes_a (n : Nd) (x y : Lc) (w : World) (h1 : ¬ -1000 ≤ n.d) :
    Calls Try.prog 3 #[.agg #[.int .i64 n.k, .int .i64 n.a, .int .i64 n.b, .int .i64 n.d], .agg #[.int .i64 x.n, .int .i64 x.p], .agg #[.int .i64 y.n, .int .i64 y.p]] w fun r w' => r = .returned (.bool true) ∧ Grow w w' := by
  have hz1 : (w.alloc (.cells #[.int .i64 n.k, .int .i64 n.a, .int .i64 n.b, .int .i64 n.d] 23)).heap.size = w.heap.size + 1 := by simp
  have hz2 : ((w.alloc (.cells #[.int .i64 n.k, .int .i64 n.a, .int .i64 n.b, .int .i64 n.d] 23)).alloc (.cells #[.int .i64 x.n, .int .i64 x.p] 25)).heap.size = w.heap.size + 2 := by simp
  have GG : Hid (Grow w (((w.alloc (.cells #[.int .i64 n.k, .int .i64 n.a, .int .i64 n.b, .int .i64 n.d] 23)).alloc (.cells #[.int .i64 x.n, .int .i64 x.p] 25)).alloc (.cells #[.int .i64 y.n, .int .i64 y.p] 25))) := hide (Grow.trans' (Grow.trans' (Grow.alloc' _ _) (Grow.alloc' _ _)) (Grow.alloc' _ _))
  have KN : Hid (BoxN (((w.alloc (.cells #[.int .i64 n.k, .int .i64 n.a, .int .i64 n.b, .int .i64 n.d] 23)).alloc (.cells #[.int .i64 x.n, .int .i64 x.p] 25)).alloc (.cells #[.int .i64 y.n, .int .i64 y.p] 25)) w.heap.size n) := hide (((BoxN.new w n).later (Grow.alloc' _ _)).later (Grow.alloc' _ _))
  have KX : Hid (BoxL (((w.alloc (.cells #[.int .i64 n.k, .int .i64 n.a, .int .i64 n.b, .int .i64 n.d] 23)).alloc (.cells #[.int .i64 x.n, .int .i64 x.p] 25)).alloc (.cells #[.int .i64 y.n, .int .i64 y.p] 25)) (w.heap.size + 1) x) := hide (by rw [← hz1]; exact (BoxL.new _ x).later (Grow.alloc' _ _))
  have KY : Hid (BoxL (((w.alloc (.cells #[.int .i64 n.k, .int .i64 n.a, .int .i64 n.b, .int .i64 n.d] 23)).alloc (.cells #[.int .i64 x.n, .int .i64 x.p] 25)).alloc (.cells #[.int .i64 y.n, .int .i64 y.p] 25)) (w.heap.size + 2) y) := hide (by rw [← hz2]; exact BoxL.new _ y)
  obtain ⟨z, hz⟩ : ∃ z, insP n.k = z := ⟨_, rfl⟩
  obtain ⟨q, hq⟩ : ∃ q, hasP n.k = q := ⟨_, rfl⟩
  obtain ⟨i, hi⟩ : ∃ i, inDP n = i := ⟨_, rfl⟩
  obtain ⟨s, hs⟩ : ∃ s, innP n = s := ⟨_, rfl⟩
  obtain ⟨o, ho⟩ : ∃ o, ordL x y = o := ⟨_, rfl⟩
  have C1 := hide (fun w => (ins_at n.k hz w).mono fun e w' ⟨h, k⟩ => (⟨h, by rw [k]; exact Grow.rfl' _⟩ : e = _ ∧ Grow w w'))
  have D1 := hide (fun w => (rins_at n.k hz w).mono fun e w' ⟨h, k⟩ => (⟨h, by rw [k]; exact Grow.rfl' _⟩ : e = _ ∧ Grow w w'))
  have C2 := hide (fun w => (has_at n.k hq w).mono fun e w' ⟨h, k⟩ => (⟨h, by rw [k]; exact Grow.rfl' _⟩ : e = _ ∧ Grow w w'))
  have D2 := hide (fun w => (rhas_at n.k hq w).mono fun e w' ⟨h, k⟩ => (⟨h, by rw [k]; exact Grow.rfl' _⟩ : e = _ ∧ Grow w w'))
  have C3 := hide (fun w => inD_at n.k n.a n.b n.d hi w)
  have D3 := hide (fun w => rinD_at n.k n.a n.b n.d hi w)
  have C4 := hide (fun w => inn_any n.k n.a n.b n.d w)
  have D4 := hide (fun w => rinn_any n.k n.a n.b n.d w)
  have he : innP ⟨n.k, n.a, n.b, n.d⟩ = s := hs
  rw [he] at C4 D4
  have C5 := hide (fun w => ord_at x y ho w)
  have D5 := hide (fun w => rord_at x y ho w)
  have hes := eqS_self s
  clear hz1 hz2 hz hq hi hs ho he
  obtain ⟨nk, na, nb, nd⟩ := n
  obtain ⟨xn, xp⟩ := x
  obtain ⟨yn, yp⟩ := y
  dsimp only at GG KN KX KY C1 D1 C2 D2 C3 D3 C4 D4 C5 D5 h1  ⊢
  go_enter Try.func3, Try.ntmps3
  go_wp2_with fail
  generalize ((w.alloc (.cells #[.int .i64 nk, .int .i64 na, .int .i64 nb, .int .i64 nd] 23)).alloc (.cells #[.int .i64 xn, .int .i64 xp] 25)).alloc (.cells #[.int .i64 yn, .int .i64 yp] 25) = w0 at *
  generalize w.heap.size = P at *
  refine (shown_any _).mono ?_
  rintro _ w1 ⟨rfl, hb⟩
  have G1 := hide (Grow.trans' GG.out hb)
  obtain ⟨n0, n1, n2, n3⟩ := KN.out.later hb
  obtain ⟨x0, x1⟩ := KX.out.later hb
  obtain ⟨y0, y1⟩ := KY.out.later hb
  dsimp only at n0 n1 n2 n3 x0 x1 y0 y1
  clear hb KN KX KY GG
  go_wp2_with fail
  have sn0 := cell_regrown n0
  have sn1 := cell_regrown n1
  have sn2 := cell_regrown n2
  have sn3 := cell_regrown n3
  have sx0 := cell_regrown x0
  have sx1 := cell_regrown x1
  have sy0 := cell_regrown y0
  have sy1 := cell_regrown y1
  have Q1 := hide (fun dd os => Calls.regrown_of (C1.out (grow (redrawn w1 dd) os)))
  have Q2 := hide (fun dd os => Calls.regrown_of (C2.out (grow (redrawn w1 dd) os)))
  have Q3 := hide (fun dd os => Calls.regrown_of (C3.out (grow (redrawn w1 dd) os)))
  have Q4 := hide (fun dd os => Calls.regrown_of (C4.out (grow (redrawn w1 dd) os)))
  have Q5 := hide (fun dd os => Calls.regrown_of (C5.out (grow (redrawn w1 dd) os)))
  have R1 := hide (fun dd os => Calls.regrown_of (D1.out (grow (redrawn w1 dd) os)))
  have R2 := hide (fun dd os => Calls.regrown_of (D2.out (grow (redrawn w1 dd) os)))
  have R3 := hide (fun dd os => Calls.regrown_of (D3.out (grow (redrawn w1 dd) os)))
  have R4 := hide (fun dd os => Calls.regrown_of (D4.out (grow (redrawn w1 dd) os)))
  have R5 := hide (fun dd os => Calls.regrown_of (D5.out (grow (redrawn w1 dd) os)))
  refine wp_region_quiet_below (by kernel_rfl) (by kernel_rfl) ?_
  repeat (go_big_quiet_step (first | (go_at_call 10; exact Q1.out _ _) | (go_at_call 11; exact R1.out _ _) | (go_at_call 12; exact Q2.out _ _) | (go_at_call 13; exact R2.out _ _) | (go_at_call 14; exact Q3.out _ _) | (go_at_call 15; exact R3.out _ _) | (go_at_call 16; exact Q4.out _ _) | (go_at_call 17; exact R4.out _ _) | (go_at_call 18; exact Q5.out _ _) | (go_at_call 19; exact R5.out _ _)))
  refine wpQuiet_nil ?_
  intro _ hw'
  obtain ⟨⟨dq, osq⟩, hw''⟩ := hw'
  subst hw''
  have G2 := hide (Grow.trans' G1.out (below_regrown w1 dq osq))
  clear sn0 sn1 sn2 sn3 sx0 sx1 sy0 sy1 n0 n1 n2 n3 x0 x1 y0 y1
  go_wp2_with fail
  go_ret
  exact ⟨rfl, G2.out⟩
set_option maxHeartbeats 8000000 in
theorem nodes_b (n : Nd) (x y : Lc) (w : World) (h1 : -1000 ≤ n.d) (h2 : ¬ n.d ≤ 1000) :
    Calls Try.prog 3 #[.agg #[.int .i64 n.k, .int .i64 n.a, .int .i64 n.b, .int .i64 n.d], .agg #[.int .i64 x.n, .int .i64 x.p], .agg #[.int .i64 y.n, .int .i64 y.p]] w fun r w' => r = .returned (.bool true) ∧ Grow w w' := by
  have hz1 : (w.alloc (.cells #[.int .i64 n.k, .int .i64 n.a, .int .i64 n.b, .int .i64 n.d] 23)).heap.size = w.heap.size + 1 := by simp
  have hz2 : ((w.alloc (.cells #[.int .i64 n.k, .int .i64 n.a, .int .i64 n.b, .int .i64 n.d] 23)).alloc (.cells #[.int .i64 x.n, .int .i64 x.p] 25)).heap.size = w.heap.size + 2 := by simp
  have GG : Hid (Grow w (((w.alloc (.cells #[.int .i64 n.k, .int .i64 n.a, .int .i64 n.b, .int .i64 n.d] 23)).alloc (.cells #[.int .i64 x.n, .int .i64 x.p] 25)).alloc (.cells #[.int .i64 y.n, .int .i64 y.p] 25))) := hide (Grow.trans' (Grow.trans' (Grow.alloc' _ _) (Grow.alloc' _ _)) (Grow.alloc' _ _))
  have KN : Hid (BoxN (((w.alloc (.cells #[.int .i64 n.k, .int .i64 n.a, .int .i64 n.b, .int .i64 n.d] 23)).alloc (.cells #[.int .i64 x.n, .int .i64 x.p] 25)).alloc (.cells #[.int .i64 y.n, .int .i64 y.p] 25)) w.heap.size n) := hide (((BoxN.new w n).later (Grow.alloc' _ _)).later (Grow.alloc' _ _))
  have KX : Hid (BoxL (((w.alloc (.cells #[.int .i64 n.k, .int .i64 n.a, .int .i64 n.b, .int .i64 n.d] 23)).alloc (.cells #[.int .i64 x.n, .int .i64 x.p] 25)).alloc (.cells #[.int .i64 y.n, .int .i64 y.p] 25)) (w.heap.size + 1) x) := hide (by rw [← hz1]; exact (BoxL.new _ x).later (Grow.alloc' _ _))
  have KY : Hid (BoxL (((w.alloc (.cells #[.int .i64 n.k, .int .i64 n.a, .int .i64 n.b, .int .i64 n.d] 23)).alloc (.cells #[.int .i64 x.n, .int .i64 x.p] 25)).alloc (.cells #[.int .i64 y.n, .int .i64 y.p] 25)) (w.heap.size + 2) y) := hide (by rw [← hz2]; exact BoxL.new _ y)
  obtain ⟨z, hz⟩ : ∃ z, insP n.k = z := ⟨_, rfl⟩
  obtain ⟨q, hq⟩ : ∃ q, hasP n.k = q := ⟨_, rfl⟩
  obtain ⟨i, hi⟩ : ∃ i, inDP n = i := ⟨_, rfl⟩
  obtain ⟨s, hs⟩ : ∃ s, innP n = s := ⟨_, rfl⟩
  obtain ⟨o, ho⟩ : ∃ o, ordL x y = o := ⟨_, rfl⟩
  have C1 := hide (fun w => (ins_at n.k hz w).mono fun e w' ⟨h, k⟩ => (⟨h, by rw [k]; exact Grow.rfl' _⟩ : e = _ ∧ Grow w w'))
  have D1 := hide (fun w => (rins_at n.k hz w).mono fun e w' ⟨h, k⟩ => (⟨h, by rw [k]; exact Grow.rfl' _⟩ : e = _ ∧ Grow w w'))
  have C2 := hide (fun w => (has_at n.k hq w).mono fun e w' ⟨h, k⟩ => (⟨h, by rw [k]; exact Grow.rfl' _⟩ : e = _ ∧ Grow w w'))
  have D2 := hide (fun w => (rhas_at n.k hq w).mono fun e w' ⟨h, k⟩ => (⟨h, by rw [k]; exact Grow.rfl' _⟩ : e = _ ∧ Grow w w'))
  have C3 := hide (fun w => inD_at n.k n.a n.b n.d hi w)
  have D3 := hide (fun w => rinD_at n.k n.a n.b n.d hi w)
  have C4 := hide (fun w => inn_any n.k n.a n.b n.d w)
  have D4 := hide (fun w => rinn_any n.k n.a n.b n.d w)
  have he : innP ⟨n.k, n.a, n.b, n.d⟩ = s := hs
  rw [he] at C4 D4
  have C5 := hide (fun w => ord_at x y ho w)
  have D5 := hide (fun w => rord_at x y ho w)
  have hes := eqS_self s
  clear hz1 hz2 hz hq hi hs ho he
  obtain ⟨nk, na, nb, nd⟩ := n
  obtain ⟨xn, xp⟩ := x
  obtain ⟨yn, yp⟩ := y
  dsimp only at GG KN KX KY C1 D1 C2 D2 C3 D3 C4 D4 C5 D5 h1 h2 ⊢
  have h3 : decide (nd ≤ 1000) = false := by simpa using h2
  have h4 : 1000 < nd := by omega
  go_enter Try.func3, Try.ntmps3
  go_wp2_with fail
  generalize ((w.alloc (.cells #[.int .i64 nk, .int .i64 na, .int .i64 nb, .int .i64 nd] 23)).alloc (.cells #[.int .i64 xn, .int .i64 xp] 25)).alloc (.cells #[.int .i64 yn, .int .i64 yp] 25) = w0 at *
  generalize w.heap.size = P at *
  refine (shown_any _).mono ?_
  rintro _ w1 ⟨rfl, hb⟩
  have G1 := hide (Grow.trans' GG.out hb)
  obtain ⟨n0, n1, n2, n3⟩ := KN.out.later hb
  obtain ⟨x0, x1⟩ := KX.out.later hb
  obtain ⟨y0, y1⟩ := KY.out.later hb
  dsimp only at n0 n1 n2 n3 x0 x1 y0 y1
  clear hb KN KX KY GG
  go_wp2_with fail
  have sn0 := cell_regrown n0
  have sn1 := cell_regrown n1
  have sn2 := cell_regrown n2
  have sn3 := cell_regrown n3
  have sx0 := cell_regrown x0
  have sx1 := cell_regrown x1
  have sy0 := cell_regrown y0
  have sy1 := cell_regrown y1
  have Q1 := hide (fun dd os => Calls.regrown_of (C1.out (grow (redrawn w1 dd) os)))
  have Q2 := hide (fun dd os => Calls.regrown_of (C2.out (grow (redrawn w1 dd) os)))
  have Q3 := hide (fun dd os => Calls.regrown_of (C3.out (grow (redrawn w1 dd) os)))
  have Q4 := hide (fun dd os => Calls.regrown_of (C4.out (grow (redrawn w1 dd) os)))
  have Q5 := hide (fun dd os => Calls.regrown_of (C5.out (grow (redrawn w1 dd) os)))
  have R1 := hide (fun dd os => Calls.regrown_of (D1.out (grow (redrawn w1 dd) os)))
  have R2 := hide (fun dd os => Calls.regrown_of (D2.out (grow (redrawn w1 dd) os)))
  have R3 := hide (fun dd os => Calls.regrown_of (D3.out (grow (redrawn w1 dd) os)))
  have R4 := hide (fun dd os => Calls.regrown_of (D4.out (grow (redrawn w1 dd) os)))
  have R5 := hide (fun dd os => Calls.regrown_of (D5.out (grow (redrawn w1 dd) os)))
  refine wp_region_quiet_below (by kernel_rfl) (by kernel_rfl) ?_
  repeat (go_big_quiet_step (first | (go_at_call 10; exact Q1.out _ _) | (go_at_call 11; exact R1.out _ _) | (go_at_call 12; exact Q2.out _ _) | (go_at_call 13; exact R2.out _ _) | (go_at_call 14; exact Q3.out _ _) | (go_at_call 15; exact R3.out _ _) | (go_at_call 16; exact Q4.out _ _) | (go_at_call 17; exact R4.out _ _) | (go_at_call 18; exact Q5.out _ _) | (go_at_call 19; exact R5.out _ _)))
  refine wpQuiet_nil ?_
  intro _ hw'
  obtain ⟨⟨dq, osq⟩, hw''⟩ := hw'
  subst hw''
  have G2 := hide (Grow.trans' G1.out (below_regrown w1 dq osq))
  clear sn0 sn1 sn2 sn3 sx0 sx1 sy0 sy1 n0 n1 n2 n3 x0 x1 y0 y1
  go_wp2_with fail
  go_ret
  exact ⟨rfl, G2.out⟩
set_option maxHeartbeats 8000000 in
theorem nodes_c (n : Nd) (x y : Lc) (w : World) (h1 : -1000 ≤ n.d) (h2 : n.d ≤ 1000) :
    Calls Try.prog 3 #[.agg #[.int .i64 n.k, .int .i64 n.a, .int .i64 n.b, .int .i64 n.d], .agg #[.int .i64 x.n, .int .i64 x.p], .agg #[.int .i64 y.n, .int .i64 y.p]] w fun r w' => r = .returned (.bool true) ∧ Grow w w' := by
  have hz1 : (w.alloc (.cells #[.int .i64 n.k, .int .i64 n.a, .int .i64 n.b, .int .i64 n.d] 23)).heap.size = w.heap.size + 1 := by simp
  have hz2 : ((w.alloc (.cells #[.int .i64 n.k, .int .i64 n.a, .int .i64 n.b, .int .i64 n.d] 23)).alloc (.cells #[.int .i64 x.n, .int .i64 x.p] 25)).heap.size = w.heap.size + 2 := by simp
  have GG : Hid (Grow w (((w.alloc (.cells #[.int .i64 n.k, .int .i64 n.a, .int .i64 n.b, .int .i64 n.d] 23)).alloc (.cells #[.int .i64 x.n, .int .i64 x.p] 25)).alloc (.cells #[.int .i64 y.n, .int .i64 y.p] 25))) := hide (Grow.trans' (Grow.trans' (Grow.alloc' _ _) (Grow.alloc' _ _)) (Grow.alloc' _ _))
  have KN : Hid (BoxN (((w.alloc (.cells #[.int .i64 n.k, .int .i64 n.a, .int .i64 n.b, .int .i64 n.d] 23)).alloc (.cells #[.int .i64 x.n, .int .i64 x.p] 25)).alloc (.cells #[.int .i64 y.n, .int .i64 y.p] 25)) w.heap.size n) := hide (((BoxN.new w n).later (Grow.alloc' _ _)).later (Grow.alloc' _ _))
  have KX : Hid (BoxL (((w.alloc (.cells #[.int .i64 n.k, .int .i64 n.a, .int .i64 n.b, .int .i64 n.d] 23)).alloc (.cells #[.int .i64 x.n, .int .i64 x.p] 25)).alloc (.cells #[.int .i64 y.n, .int .i64 y.p] 25)) (w.heap.size + 1) x) := hide (by rw [← hz1]; exact (BoxL.new _ x).later (Grow.alloc' _ _))
  have KY : Hid (BoxL (((w.alloc (.cells #[.int .i64 n.k, .int .i64 n.a, .int .i64 n.b, .int .i64 n.d] 23)).alloc (.cells #[.int .i64 x.n, .int .i64 x.p] 25)).alloc (.cells #[.int .i64 y.n, .int .i64 y.p] 25)) (w.heap.size + 2) y) := hide (by rw [← hz2]; exact BoxL.new _ y)
  obtain ⟨z, hz⟩ : ∃ z, insP n.k = z := ⟨_, rfl⟩
  obtain ⟨q, hq⟩ : ∃ q, hasP n.k = q := ⟨_, rfl⟩
  obtain ⟨i, hi⟩ : ∃ i, inDP n = i := ⟨_, rfl⟩
  obtain ⟨s, hs⟩ : ∃ s, innP n = s := ⟨_, rfl⟩
  obtain ⟨o, ho⟩ : ∃ o, ordL x y = o := ⟨_, rfl⟩
  have C1 := hide (fun w => (ins_at n.k hz w).mono fun e w' ⟨h, k⟩ => (⟨h, by rw [k]; exact Grow.rfl' _⟩ : e = _ ∧ Grow w w'))
  have D1 := hide (fun w => (rins_at n.k hz w).mono fun e w' ⟨h, k⟩ => (⟨h, by rw [k]; exact Grow.rfl' _⟩ : e = _ ∧ Grow w w'))
  have C2 := hide (fun w => (has_at n.k hq w).mono fun e w' ⟨h, k⟩ => (⟨h, by rw [k]; exact Grow.rfl' _⟩ : e = _ ∧ Grow w w'))
  have D2 := hide (fun w => (rhas_at n.k hq w).mono fun e w' ⟨h, k⟩ => (⟨h, by rw [k]; exact Grow.rfl' _⟩ : e = _ ∧ Grow w w'))
  have C3 := hide (fun w => inD_at n.k n.a n.b n.d hi w)
  have D3 := hide (fun w => rinD_at n.k n.a n.b n.d hi w)
  have C4 := hide (fun w => inn_any n.k n.a n.b n.d w)
  have D4 := hide (fun w => rinn_any n.k n.a n.b n.d w)
  have he : innP ⟨n.k, n.a, n.b, n.d⟩ = s := hs
  rw [he] at C4 D4
  have C5 := hide (fun w => ord_at x y ho w)
  have D5 := hide (fun w => rord_at x y ho w)
  have hes := eqS_self s
  clear hz1 hz2 hz hq hi hs ho he
  obtain ⟨nk, na, nb, nd⟩ := n
  obtain ⟨xn, xp⟩ := x
  obtain ⟨yn, yp⟩ := y
  dsimp only at GG KN KX KY C1 D1 C2 D2 C3 D3 C4 D4 C5 D5 h1 h2 ⊢
  go_enter Try.func3, Try.ntmps3
  go_wp2_with fail
  generalize ((w.alloc (.cells #[.int .i64 nk, .int .i64 na, .int .i64 nb, .int .i64 nd] 23)).alloc (.cells #[.int .i64 xn, .int .i64 xp] 25)).alloc (.cells #[.int .i64 yn, .int .i64 yp] 25) = w0 at *
  generalize w.heap.size = P at *
  refine (shown_any _).mono ?_
  rintro _ w1 ⟨rfl, hb⟩
  have G1 := hide (Grow.trans' GG.out hb)
  obtain ⟨n0, n1, n2, n3⟩ := KN.out.later hb
  obtain ⟨x0, x1⟩ := KX.out.later hb
  obtain ⟨y0, y1⟩ := KY.out.later hb
  dsimp only at n0 n1 n2 n3 x0 x1 y0 y1
  clear hb KN KX KY GG
  go_wp2_with fail
  have sn0 := cell_regrown n0
  have sn1 := cell_regrown n1
  have sn2 := cell_regrown n2
  have sn3 := cell_regrown n3
  have sx0 := cell_regrown x0
  have sx1 := cell_regrown x1
  have sy0 := cell_regrown y0
  have sy1 := cell_regrown y1
  have Q1 := hide (fun dd os => Calls.regrown_of (C1.out (grow (redrawn w1 dd) os)))
  have Q2 := hide (fun dd os => Calls.regrown_of (C2.out (grow (redrawn w1 dd) os)))
  have Q3 := hide (fun dd os => Calls.regrown_of (C3.out (grow (redrawn w1 dd) os)))
  have Q4 := hide (fun dd os => Calls.regrown_of (C4.out (grow (redrawn w1 dd) os)))
  have Q5 := hide (fun dd os => Calls.regrown_of (C5.out (grow (redrawn w1 dd) os)))
  have R1 := hide (fun dd os => Calls.regrown_of (D1.out (grow (redrawn w1 dd) os)))
  have R2 := hide (fun dd os => Calls.regrown_of (D2.out (grow (redrawn w1 dd) os)))
  have R3 := hide (fun dd os => Calls.regrown_of (D3.out (grow (redrawn w1 dd) os)))
  have R4 := hide (fun dd os => Calls.regrown_of (D4.out (grow (redrawn w1 dd) os)))
  have R5 := hide (fun dd os => Calls.regrown_of (D5.out (grow (redrawn w1 dd) os)))
  refine wp_region_quiet_below (by kernel_rfl) (by kernel_rfl) ?_
  repeat (go_big_quiet_step (first | (go_at_call 10; exact Q1.out _ _) | (go_at_call 11; exact R1.out _ _) | (go_at_call 12; exact Q2.out _ _) | (go_at_call 13; exact R2.out _ _) | (go_at_call 14; exact Q3.out _ _) | (go_at_call 15; exact R3.out _ _) | (go_at_call 16; exact Q4.out _ _) | (go_at_call 17; exact R4.out _ _) | (go_at_call 18; exact Q5.out _ _) | (go_at_call 19; exact R5.out _ _)))
  refine wpQuiet_nil ?_
  intro _ hw'
  obtain ⟨⟨dq, osq⟩, hw''⟩ := hw'
  subst hw''
  have G2 := hide (Grow.trans' G1.out (below_regrown w1 dq osq))
  clear sn0 sn1 sn2 sn3 sx0 sx1 sy0 sy1 n0 n1 n2 n3 x0 x1 y0 y1
  go_wp2_with fail
  go_ret
  exact ⟨rfl, G2.out⟩
theorem GraphNodes_any (n : Nd) (x y : Lc) (w : World) :
    Calls Try.prog 3 #[.agg #[.int .i64 n.k, .int .i64 n.a, .int .i64 n.b, .int .i64 n.d], .agg #[.int .i64 x.n, .int .i64 x.p], .agg #[.int .i64 y.n, .int .i64 y.p]] w fun r w' => r = .returned (.bool true) ∧ Grow w w' := by
  by_cases h1 : -1000 ≤ n.d
  · by_cases h2 : n.d ≤ 1000
    · exact nodes_c n x y w h1 h2
    · exact nodes_b n x y w h1 h2
  · exact nodes_a n x y w h1

set_option maxRecDepth 100000 in
theorem GraphNodes_lifted (os : Os) (started : os.Started) (H : Type) (enc : TypeId × Value → H) :
    ReturnsInHanded {} Try.checked os 3 .any (Rows.graphNodesSpec.pre6 enc Try.prog Try.f3 Rows.graphNodesRow.domain false) (Rows.graphNodesSpec.post enc Try.prog Try.f3 false true false false) := by
  refine returnsInHanded_of_change (C := Try.checked) own started (by kernel_rfl) Try.func3
    (ChangeSpec.witness6 (enc := enc) (C := Try.checked) false ⟨#[], #[.agg #[.int .i64 0, .int .i64 0, .int .i64 0, .int .i64 0], .agg #[.int .i64 0, .int .i64 0], .agg #[.int .i64 0, .int .i64 0]], []⟩ 8 (by kernel_rfl) (by kernel_rfl) (by kernel_rfl) (by kernel_rfl)) ?_
  intro W base args ds gs before hval0 hW hcnd _
  have hval : ∀ (j : Nat) t v, Try.f3.params[j]? = some t → args[j]? = some v → Value.okWide Try.prog W .any base t v := hval0
  have hW' := hW
  obtain ⟨p, q, hA0, hV, rfl, hfz, hnd⟩ := hW
  have hA : DataW.TrodAll enc Try.prog W 0 (fun _ => true) true Try.f3.params.toList args.toList ds p := hA0
  rw [Try.params3] at hA hval
  obtain ⟨v0, vs0, d0, ds0, p0, q0, hargs, rfl, rfl, h0, r0⟩ := trodAll_cons hA
  obtain ⟨v1, vs1, d1, ds1, p1, q1, rfl, rfl, rfl, h1, r1⟩ := trodAll_cons r0
  obtain ⟨v2, vs2, d2, ds2, p2, q2, rfl, rfl, rfl, h2, r2⟩ := trodAll_cons r1
  obtain ⟨rfl, rfl, rfl⟩ := trodAll_nil r2
  obtain rfl : args = #[v0, v1, v2] := by cases args; simp_all
  obtain ⟨rfl, rfl⟩ := trodVars_none hV
  have k0 := h0
  have lt0 : ∀ x ∈ p0, x.block < W.heap.size := by obtain ⟨m, hm⟩ := k0; exact DataW.trod_lt m _ _ _ hm
  obtain ⟨t0, rfl, w0⟩ := open_nd (hval 0 23 v0 rfl rfl) h0
  have k1 := h1
  have lt1 : ∀ x ∈ p1, x.block < W.heap.size := by obtain ⟨m, hm⟩ := k1; exact DataW.trod_lt m _ _ _ hm
  obtain ⟨t1, rfl, w1⟩ := open_lc (hval 1 25 v1 rfl rfl) h1
  have k2 := h2
  have lt2 : ∀ x ∈ p2, x.block < W.heap.size := by obtain ⟨m, hm⟩ := k2; exact DataW.trod_lt m _ _ _ hm
  obtain ⟨t2, rfl, w2⟩ := open_lc (hval 2 25 v2 rfl rfl) h2
  clear hA0 hval0
  refine (GraphNodes_any t0 t1 t2 W).mono fun e W' ⟨he, bel⟩ => ?_
  subst he
  exact ⟨_, rfl, _, _, _, [], _, [], hW', trodAll_mk1 (shut_bool Try.underlying4 _), (trodAll_cons_mk (Below.trod laidOut (by kernel_rfl) (of_decide_eq_true (by kernel_rfl)) k0 bel lt0) (trodAll_cons_mk (Below.trod laidOut (by kernel_rfl) (of_decide_eq_true (by kernel_rfl)) k1 bel lt1) (trodAll_cons_mk (Below.trod laidOut (by kernel_rfl) (of_decide_eq_true (by kernel_rfl)) k2 bel lt2) trodAll_mk0))), rfl, bel.frame _, fun h => by cases h⟩

/-- The given statement. -/
theorem GraphNodes_holds : Rows.GraphNodesSaid :=
  OpenClaim.holds_of_wide 3 Try.f3 rfl rfl rfl rfl rfl rfl rfl ⟨rfl, rfl, rfl, rfl, rfl⟩ rfl rfl rfl rfl rfl (by kernel_rfl) Try.func3 (by kernel_rfl)
    (of_decide_eq_true (by kernel_rfl)) (by unfold Func.isWrapper; first | (rw [if_pos (by decide +kernel)]; kernel_rfl) | (rw [if_neg (by decide +kernel)]; exact ⟨rfl, rfl⟩))
    (fun os started H enc _ => GraphNodes_lifted os started H enc)


end Go.Proofs.Ytjpaclcpebpcjaa
