/-
  BagLaws: for every three rows of records (the first 150 of each): in whatever order they are joined the same comes of it, as many as there are; what was joined and taken away leaves the rest; nothing taken away leaves all; taken from what it is in, nothing is left; the call returns true and leaves its arguments as they were. No conditions.
-/
import Derived.Test.YtkmgbhehhdjmlaaGLw
namespace Go.Proofs.Ytkmgbhehhdjmlaa
set_option maxRecDepth 100000
open Go.ChangeShapes Go.WideShapes Go.ChangeAt Go.RowKit Go.Deep Go.Sort
set_option linter.unusedVariables false

set_option maxHeartbeats 4000000 in
theorem BagLaws_any (s s' s'' : Option Addr) (n m l cap cap' cap'' : Nat) (d e f : List Rc) (w : World) (ha : IsRcs w s n cap d ∧ ∀ r ∈ d, RcWf r) (hb : IsRcs w s' m cap' e ∧ ∀ r ∈ e, RcWf r) (hc : IsRcs w s'' l cap'' f ∧ ∀ r ∈ f, RcWf r) :
    Calls Try.prog 5 #[.slice s n cap, .slice s' m cap', .slice s'' l cap''] w fun e w' => e = .returned (.bool true) ∧ Grow w w' := by
  have HA := hide ha.1
  have HB := hide hb.1
  have HC := hide hc.1
  have G0 := hide (Grow.rfl' w)
  have WFA := hide ha.2
  have WFB := hide hb.2
  have WFC := hide hc.2
  clear ha hb hc
  go_enter Try.func5, Try.ntmps5
  have C1 := hide (shown_any w)
  go_wp2_with fail
  refine (C1.out).mono ?_
  rintro e w1 ⟨rfl, hb⟩
  have G1 := hide (Grow.trans' G0.out hb)
  have HA_1 := hide (HA.out.later hb)
  have HB_1 := hide (HB.out.later hb)
  have HC_1 := hide (HC.out.later hb)
  clear hb G0 C1 HA HB HC
  have CC := hide (few_wf s n cap _ w1 HA_1.out WFA.out)
  go_wp2_with fail
  refine (CC.out).mono ?_
  rintro e w1 ⟨sA, nA, DA, rfl, rfl, hI, hnA, hwf⟩
  rename World => w1
  clear WFA
  have WFA := hide hwf
  clear hwf
  clear HA_1
  have IA_1 := hide hI
  clear CC hI
  have CC := hide (few_wf s' m cap' _ w1 HB_1.out WFB.out)
  go_wp2_with fail
  refine (CC.out).mono ?_
  rintro e w1 ⟨sB, nB, DB, rfl, rfl, hI, hnB, hwf⟩
  rename World => w1
  clear WFB
  have WFB := hide hwf
  clear hwf
  clear HB_1
  have IB_1 := hide hI
  clear CC hI
  have CC := hide (few_wf s'' l cap'' _ w1 HC_1.out WFC.out)
  go_wp2_with fail
  refine (CC.out).mono ?_
  rintro e w1 ⟨sC, nC, DC, rfl, rfl, hI, hnC, hwf⟩
  rename World => w1
  clear WFC
  have WFC := hide hwf
  clear hwf
  clear HC_1
  have IC_1 := hide hI
  clear CC hI
  have C2 := hide (join3_at sA sB sC nA nB nC cap cap' cap'' DA DB DC w1 IA_1.out IB_1.out IC_1.out (by omega) (by omega) (by omega))
  go_wp2_with fail
  refine (C2.out).mono ?_
  rintro e w2 ⟨sX, nX, cX, rfl, hb, hI, hnX⟩
  have hbX : nX ≤ 450 := by omega
  have HnX := hide hnX
  clear hnX
  have G2 := hide (Grow.trans' G1.out hb)
  have IA_2 := hide (IA_1.out.later hb)
  have IB_2 := hide (IB_1.out.later hb)
  have IC_2 := hide (IC_1.out.later hb)
  have IX_2 := hide hI
  clear hb G1 C2 IA_1 IB_1 IC_1 hI
  have C3 := hide (join2_at sC sB nC nB cap'' cap' DC DB w2 IC_2.out IB_2.out (by omega) (by omega))
  go_wp2_with fail
  refine (C3.out).mono ?_
  rintro e w3 ⟨sU, nU, cU, rfl, hb, hI, hnU⟩
  have hbU : nU ≤ 300 := by omega
  clear hnU
  have G3 := hide (Grow.trans' G2.out hb)
  have IA_3 := hide (IA_2.out.later hb)
  have IB_3 := hide (IB_2.out.later hb)
  have IC_3 := hide (IC_2.out.later hb)
  have IX_3 := hide (IX_2.out.later hb)
  have IU_3 := hide hI
  clear hb G2 C3 IA_2 IB_2 IC_2 IX_2 hI
  have C4 := hide (join2_at sU sA nU nA cU cap (srt (DC ++ DB)) DA w3 IU_3.out IA_3.out (by omega) (by omega))
  go_wp2_with fail
  refine (C4.out).mono ?_
  rintro e w4 ⟨sY, nY, cY, rfl, hb, hI, hnY⟩
  clear hnY
  have G4 := hide (Grow.trans' G3.out hb)
  have IA_4 := hide (IA_3.out.later hb)
  have IB_4 := hide (IB_3.out.later hb)
  have IC_4 := hide (IC_3.out.later hb)
  have IX_4 := hide (IX_3.out.later hb)
  have IY_4 := hide hI
  clear hb G3 C4 IA_3 IB_3 IC_3 IX_3 IU_3 hI
  have WFX : Hid (∀ r ∈ srt (DA ++ DB ++ DC), RcWf r) := hide (wf_srt (wf_app (wf_app WFA.out WFB.out) WFC.out))
  obtain ⟨X, hX⟩ : ∃ X, X = srt (DA ++ DB ++ DC) := ⟨_, rfl⟩
  have HX := hide hX
  rw [← hX] at IX_4 WFX
  clear hX
  have C5 := hide (same_at sX sY nX nY cX cY X _ true (by simp only [true_iff]; rw [HX.out, srt_eq_count]; intro x; simp only [srt_count, List.count_append]; omega) w4 (by omega) IX_4.out IY_4.out)
  go_wp2_with fail
  refine (C5.out).mono ?_
  rintro e w5 ⟨rfl, hb⟩
  have hlen : (nX : Int) = (nA : Int) + (nB : Int) + (nC : Int) := by have := HnX.out; omega
  have G5 := hide (Grow.trans' G4.out hb)
  have IA_5 := hide (IA_4.out.later hb)
  have IB_5 := hide (IB_4.out.later hb)
  have IC_5 := hide (IC_4.out.later hb)
  have IX_5 := hide (IX_4.out.later hb)
  clear hb G4 C5 IA_4 IB_4 IC_4 IX_4 IY_4
  have C6 := hide (minusN_at sX sB nX nB cX cap' X DB w5 (by omega) (by omega) WFX.out WFB.out IX_5.out IB_5.out)
  go_wp2_with fail
  refine (C6.out).mono ?_
  rintro e w6 ⟨sM, nM, cM, rfl, hb, hI, hnM⟩
  clear hlen
  have G6 := hide (Grow.trans' G5.out hb)
  have IA_6 := hide (IA_5.out.later hb)
  have IB_6 := hide (IB_5.out.later hb)
  have IC_6 := hide (IC_5.out.later hb)
  have IX_6 := hide (IX_5.out.later hb)
  have IM_6 := hide hI
  clear hb G5 C6 IA_5 IB_5 IC_5 IX_5 hI
  have C7 := hide (join2_at sA sC nA nC cap cap'' DA DC w6 IA_6.out IC_6.out (by omega) (by omega))
  go_wp2_with fail
  refine (C7.out).mono ?_
  rintro e w7 ⟨sV, nV, cV, rfl, hb, hI, hnV⟩
  clear hnV
  have G7 := hide (Grow.trans' G6.out hb)
  have IA_7 := hide (IA_6.out.later hb)
  have IB_7 := hide (IB_6.out.later hb)
  have IC_7 := hide (IC_6.out.later hb)
  have IX_7 := hide (IX_6.out.later hb)
  have IM_7 := hide (IM_6.out.later hb)
  have IV_7 := hide hI
  clear hb G6 C7 IA_6 IB_6 IC_6 IX_6 IM_6 hI
  have C8 := hide (same_at sM sV nM nV cM cV _ _ true (by simp only [true_iff]; rw [HX.out, srt_eq_count]; intro x; simp only [mns_count, srt_count, List.count_append]; omega) w7 (by omega) IM_7.out IV_7.out)
  go_wp2_with fail
  refine (C8.out).mono ?_
  rintro e w8 ⟨rfl, hb⟩
  have G8 := hide (Grow.trans' G7.out hb)
  have IA_8 := hide (IA_7.out.later hb)
  have IB_8 := hide (IB_7.out.later hb)
  have IC_8 := hide (IC_7.out.later hb)
  have IX_8 := hide (IX_7.out.later hb)
  clear hb G7 C8 IA_7 IB_7 IC_7 IX_7 IM_7 IV_7
  have C9 := hide (minusN_at sX none nX 0 cX 0 X [] w8 (by omega) (by omega) WFX.out (by simp) IX_8.out (IsRcs.nil w8))
  go_wp2_with fail
  refine (C9.out).mono ?_
  rintro e w9 ⟨sO, nO, cO, rfl, hb, hI, hnO⟩
  have G9 := hide (Grow.trans' G8.out hb)
  have IA_9 := hide (IA_8.out.later hb)
  have IB_9 := hide (IB_8.out.later hb)
  have IC_9 := hide (IC_8.out.later hb)
  have IX_9 := hide (IX_8.out.later hb)
  have IO_9 := hide hI
  clear hb G8 C9 IA_8 IB_8 IC_8 IX_8 hI
  have C10 := hide (same_at sO sX nO nX cO cX _ _ true (by simp only [true_iff]; rw [srt_eq_count]; intro x; simp only [mns_count]; simp) w9 (by omega) IO_9.out IX_9.out)
  go_wp2_with fail
  refine (C10.out).mono ?_
  rintro e w10 ⟨rfl, hb⟩
  have G10 := hide (Grow.trans' G9.out hb)
  have IA_10 := hide (IA_9.out.later hb)
  have IB_10 := hide (IB_9.out.later hb)
  have IC_10 := hide (IC_9.out.later hb)
  have IX_10 := hide (IX_9.out.later hb)
  clear hb G9 C10 IA_9 IB_9 IC_9 IX_9 IO_9
  have C11 := hide (minusN_at sA sX nA nX cap cX DA X w10 (by omega) (by omega) WFA.out WFX.out IA_10.out IX_10.out)
  go_wp2_with fail
  refine (C11.out).mono ?_
  rintro e w11 ⟨sR, nR, cR, rfl, hb, hI, hnR⟩
  have hR0 : mns DA X = [] := by
    rw [List.eq_nil_iff_forall_not_mem]
    intro x hx
    have h1 := List.count_pos_iff.2 hx
    rw [mns_count, HX.out, srt_count, List.count_append, List.count_append] at h1
    omega
  have hR1 : nR = 0 := by have := hI.1; rw [hR0] at this; exact this.symm
  subst hR1
  clear hR0
  have G11 := hide (Grow.trans' G10.out hb)
  have IA_11 := hide (IA_10.out.later hb)
  have IB_11 := hide (IB_10.out.later hb)
  have IC_11 := hide (IC_10.out.later hb)
  have IX_11 := hide (IX_10.out.later hb)
  have IR_11 := hide hI
  clear hb G10 C11 IA_10 IB_10 IC_10 IX_10 hI
  have C12 := hide (join0_at w11)
  go_wp2_with fail
  refine (C12.out).mono ?_
  rintro e w12 ⟨sZ, cZ, rfl, hb⟩
  have G12 := hide (Grow.trans' G11.out hb)
  have IA_12 := hide (IA_11.out.later hb)
  have IB_12 := hide (IB_11.out.later hb)
  have IC_12 := hide (IC_11.out.later hb)
  have IX_12 := hide (IX_11.out.later hb)
  have IR_12 := hide (IR_11.out.later hb)
  clear hb G11 C12 IA_11 IB_11 IC_11 IX_11 IR_11
  go_wp2_with fail
  go_ret
  exact ⟨rfl, G12.out⟩

set_option maxRecDepth 100000 in
theorem BagLaws_lifted (os : Os) (started : os.Started) (H : Type) (enc : TypeId × Value → H) :
    ReturnsInHanded {} Try.checked os 5 .any (Rows.bagLawsSpec.pre6 enc Try.prog Try.f5 Rows.bagLawsRow.domain false) (Rows.bagLawsSpec.post enc Try.prog Try.f5 false true false false) := by
  refine returnsInHanded_of_change (C := Try.checked) own started (by kernel_rfl) Try.func5
    (ChangeSpec.witness6 (enc := enc) (C := Try.checked) false ⟨#[], #[.slice none 0 0, .slice none 0 0, .slice none 0 0], []⟩ 8 (by kernel_rfl) (by kernel_rfl) (by kernel_rfl) (by kernel_rfl)) ?_
  intro W base args ds gs before hval0 hW hcnd _
  have hval : ∀ (j : Nat) t v, Try.f5.params[j]? = some t → args[j]? = some v → Value.okWide Try.prog W .any base t v := hval0
  have hW' := hW
  obtain ⟨p, q, hA0, hV, rfl, hfz, hnd⟩ := hW
  have hA : DataW.TrodAll enc Try.prog W 0 (fun _ => true) true Try.f5.params.toList args.toList ds p := hA0
  rw [Try.params5] at hA hval
  obtain ⟨v0, vs0, d0, ds0, p0, q0, hargs, rfl, rfl, h0, r0⟩ := trodAll_cons hA
  obtain ⟨v1, vs1, d1, ds1, p1, q1, rfl, rfl, rfl, h1, r1⟩ := trodAll_cons r0
  obtain ⟨v2, vs2, d2, ds2, p2, q2, rfl, rfl, rfl, h2, r2⟩ := trodAll_cons r1
  obtain ⟨rfl, rfl, rfl⟩ := trodAll_nil r2
  obtain rfl : args = #[v0, v1, v2] := by cases args; simp_all
  obtain ⟨rfl, rfl⟩ := trodVars_none hV
  have k0 := h0
  have lt0 : ∀ x ∈ p0, x.block < W.heap.size := by obtain ⟨m, hm⟩ := k0; exact DataW.trod_lt m _ _ _ hm
  obtain ⟨s0, len0, cap0, rfl⟩ := okWide_slice Try.underlying22 (hval 0 22 v0 rfl rfl)
  obtain ⟨z0, w0⟩ := rows_rcs h0
  have k1 := h1
  have lt1 : ∀ x ∈ p1, x.block < W.heap.size := by obtain ⟨m, hm⟩ := k1; exact DataW.trod_lt m _ _ _ hm
  obtain ⟨s1, len1, cap1, rfl⟩ := okWide_slice Try.underlying22 (hval 1 22 v1 rfl rfl)
  obtain ⟨z1, w1⟩ := rows_rcs h1
  have k2 := h2
  have lt2 : ∀ x ∈ p2, x.block < W.heap.size := by obtain ⟨m, hm⟩ := k2; exact DataW.trod_lt m _ _ _ hm
  obtain ⟨s2, len2, cap2, rfl⟩ := okWide_slice Try.underlying22 (hval 2 22 v2 rfl rfl)
  obtain ⟨z2, w2⟩ := rows_rcs h2
  clear hA0 hval0
  refine (BagLaws_any s0 s1 s2 len0 len1 len2 cap0 cap1 cap2 z0 z1 z2 W w0 w1 w2).mono fun e W' ⟨he, bel⟩ => ?_
  subst he
  exact ⟨_, rfl, _, _, _, [], _, [], hW', trodAll_mk1 (shut_bool Try.underlying4 _), (trodAll_cons_mk (Below.trod laidOut (by kernel_rfl) (of_decide_eq_true (by kernel_rfl)) k0 bel lt0) (trodAll_cons_mk (Below.trod laidOut (by kernel_rfl) (of_decide_eq_true (by kernel_rfl)) k1 bel lt1) (trodAll_cons_mk (Below.trod laidOut (by kernel_rfl) (of_decide_eq_true (by kernel_rfl)) k2 bel lt2) trodAll_mk0))), rfl, bel.frame _, fun h => by cases h⟩

/-- The given statement. -/
theorem BagLaws_holds : Rows.BagLawsSaid :=
  OpenClaim.holds_of_wide 5 Try.f5 rfl rfl rfl rfl rfl rfl rfl ⟨rfl, rfl, rfl, rfl, rfl⟩ rfl rfl rfl rfl rfl (by kernel_rfl) Try.func5 (by kernel_rfl)
    (of_decide_eq_true (by kernel_rfl)) (by unfold Func.isWrapper; first | (rw [if_pos (by decide +kernel)]; kernel_rfl) | (rw [if_neg (by decide +kernel)]; exact ⟨rfl, rfl⟩))
    (fun os started H enc _ => BagLaws_lifted os started H enc)


end Go.Proofs.Ytkmgbhehhdjmlaa
