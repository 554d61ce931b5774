/-
  BagTwo: for every two rows of records (the first 150 of each): joined, taken from one another, compared, and the keys told, as the document reckons it; the call returns true and leaves its arguments as they were. No conditions.
-/
import Derived.Test.YtkmgbhehhdjmlaaGLw
import Derived.Test.YtkmgbhehhdjmlaaGRm
import Derived.Test.YtkmgbhehhdjmlaaGRk
import Derived.Test.YtkmgbhehhdjmlaaGKy
namespace Go.Proofs.Ytkmgbhehhdjmlaa
set_option maxRecDepth 100000
open Go.ChangeShapes Go.WideShapes Go.ChangeAt Go.RowKit Go.Deep Go.Sort
set_option linter.unusedVariables false

set_option maxHeartbeats 4000000 in
theorem BagTwo_any (s s' : Option Addr) (n m cap cap' : Nat) (d e : List Rc) (w : World) (hd : IsRcs w s n cap d ∧ ∀ r ∈ d, RcWf r) (he : IsRcs w s' m cap' e ∧ ∀ r ∈ e, RcWf r) :
    Calls Try.prog 4 #[.slice s n cap, .slice s' m cap'] w fun e w' => e = .returned (.bool true) ∧ Grow w w' := by
  have HA := hide hd.1
  have HB := hide he.1
  have G0 := hide (Grow.rfl' w)
  have WFA := hide hd.2
  have WFB := hide he.2
  clear hd he
  go_enter Try.func4, Try.ntmps4
  have C1 := hide (shown_any w)
  go_wp2_with fail
  refine (C1.out).mono ?_
  rintro e w1 ⟨rfl, hb⟩
  have G1 := hide (Grow.trans' G0.out hb)
  have HA_1 := hide (HA.out.later hb)
  have HB_1 := hide (HB.out.later hb)
  clear hb G0 C1 HA HB
  have CC := hide (few_wf s n cap _ w1 HA_1.out WFA.out)
  go_wp2_with fail
  refine (CC.out).mono ?_
  rintro e w1 ⟨sA, nA, DA, rfl, rfl, hI, hnA, hwf⟩
  rename World => w1
  clear WFA
  have WFA := hide hwf
  clear hwf
  clear HA_1
  have IALEN := hide hI.1
  have IA_1 := hide hI
  clear CC hI
  have CC := hide (few_wf s' m cap' _ w1 HB_1.out WFB.out)
  go_wp2_with fail
  refine (CC.out).mono ?_
  rintro e w1 ⟨sB, nB, DB, rfl, rfl, hI, hnB, hwf⟩
  rename World => w1
  clear WFB
  have WFB := hide hwf
  clear hwf
  clear HB_1
  have IB_1 := hide hI
  clear CC hI
  have C2 := hide (join2_at sA sB nA nB cap cap' DA DB w1 IA_1.out IB_1.out (by omega) (by omega))
  go_wp2_with fail
  refine (C2.out).mono ?_
  rintro e w2 ⟨sJ, nJ, cJ, rfl, hb, hI, hnJ⟩
  have HnJ := hide hnJ
  clear hnJ
  have G2 := hide (Grow.trans' G1.out hb)
  have IA_2 := hide (IA_1.out.later hb)
  have IB_2 := hide (IB_1.out.later hb)
  have IJ_2 := hide hI
  clear hb G1 C2 IA_1 IB_1 hI
  have C3 := hide (refJoin_at sA sB nA nB cap cap' DA DB w2 (by omega) (by omega) IA_2.out IB_2.out)
  go_wp2_with fail
  refine (C3.out).mono ?_
  rintro e w3 ⟨sK, cK, rfl, hb, hI⟩
  obtain ⟨nK, hnK⟩ : ∃ x, x = nA + nB := ⟨_, rfl⟩
  rw [← hnK] at hI
  rw [← hnK]
  have HnK := hide hnK
  clear hnK
  have G3 := hide (Grow.trans' G2.out hb)
  have IA_3 := hide (IA_2.out.later hb)
  have IB_3 := hide (IB_2.out.later hb)
  have IJ_3 := hide (IJ_2.out.later hb)
  have IK_3 := hide hI
  clear hb G2 C3 IA_2 IB_2 IJ_2 hI
  have C4 := hide (rowR_any sJ sK cJ cK nJ nK _ _ true (by simp) w3 (by have := HnJ.out; omega) IJ_3.out IK_3.out)
  go_wp2_with fail
  refine (C4.out).mono ?_
  rintro e w4 ⟨rfl, hb⟩
  have G4 := hide (Grow.trans' G3.out hb)
  have IA_4 := hide (IA_3.out.later hb)
  have IB_4 := hide (IB_3.out.later hb)
  clear hb G3 C4 IA_3 IB_3 IJ_3 IK_3
  have C5 := hide (minusN_at sA sB nA nB cap cap' DA DB w4 (by omega) (by omega) WFA.out WFB.out IA_4.out IB_4.out)
  go_wp2_with fail
  refine (C5.out).mono ?_
  rintro e w5 ⟨sM, nM, cM, rfl, hb, hI, hnM⟩
  have G5 := hide (Grow.trans' G4.out hb)
  have IA_5 := hide (IA_4.out.later hb)
  have IB_5 := hide (IB_4.out.later hb)
  have IM_5 := hide hI
  clear hb G4 C5 IA_4 IB_4 hI
  have C6 := hide (refMinus_at sA sB nA nB cap cap' DA DB w5 (by omega) (by omega) IA_5.out IB_5.out)
  go_wp2_with fail
  refine (C6.out).mono ?_
  rintro e w6 ⟨sN, nN, cN, rfl, hb, hI⟩
  have G6 := hide (Grow.trans' G5.out hb)
  have IA_6 := hide (IA_5.out.later hb)
  have IB_6 := hide (IB_5.out.later hb)
  have IM_6 := hide (IM_5.out.later hb)
  have IN_6 := hide hI
  clear hb G5 C6 IA_5 IB_5 IM_5 hI
  have C7 := hide (rowR_any sM sN cM cN nM nN _ _ true (by simp) w6 (by omega) IM_6.out IN_6.out)
  go_wp2_with fail
  refine (C7.out).mono ?_
  rintro e w7 ⟨rfl, hb⟩
  have G7 := hide (Grow.trans' G6.out hb)
  have IA_7 := hide (IA_6.out.later hb)
  have IB_7 := hide (IB_6.out.later hb)
  clear hb G6 C7 IA_6 IB_6 IM_6 IN_6
  have C8 := hide (keys_at sA nA cap DA w7 (by omega) IA_7.out)
  go_wp2_with fail
  refine (C8.out).mono ?_
  rintro e w8 ⟨sP, nP, cP, rfl, hb, hI⟩
  have hnP : nP ≤ 150 := by have h1 := hI.len; have h2 := keysR_len DA; rw [IALEN.out] at h2; omega
  have G8 := hide (Grow.trans' G7.out hb)
  have IA_8 := hide (IA_7.out.later hb)
  have IB_8 := hide (IB_7.out.later hb)
  have IP_8 := hide hI
  clear hb G7 C8 IA_7 IB_7 hI
  have C9 := hide (refKeys_at sA nA cap DA w8 (by omega) IA_8.out)
  go_wp2_with fail
  refine (C9.out).mono ?_
  rintro e w9 ⟨sQ, nQ, cQ, rfl, hb, hI⟩
  have G9 := hide (Grow.trans' G8.out hb)
  have IA_9 := hide (IA_8.out.later hb)
  have IB_9 := hide (IB_8.out.later hb)
  have IP_9 := hide (IP_8.out.later hb)
  have IQ_9 := hide hI
  clear hb G8 C9 IA_8 IB_8 IP_8 hI
  have C10 := hide (numsR_any sP sQ cP cQ nP nQ _ _ true (by simp) w9 (by omega) IP_9.out IQ_9.out)
  go_wp2_with fail
  refine (C10.out).mono ?_
  rintro e w10 ⟨rfl, hb⟩
  have G10 := hide (Grow.trans' G9.out hb)
  have IA_10 := hide (IA_9.out.later hb)
  have IB_10 := hide (IB_9.out.later hb)
  clear hb G9 C10 IA_9 IB_9 IP_9 IQ_9
  obtain ⟨p, hp⟩ : ∃ p, p = decide (srt DA = srt DB) := ⟨_, rfl⟩
  have HP : Hid (p = true ↔ srt DA = srt DB) := hide (by rw [hp]; simp)
  clear hp
  have C11 := hide (refSame_at sA sB nA nB cap cap' DA DB p HP.out w10 (by omega) (by omega) IA_10.out IB_10.out)
  go_wp2_with fail
  refine (C11.out).mono ?_
  rintro e w11 ⟨rfl, hb⟩
  have G11 := hide (Grow.trans' G10.out hb)
  have IA_11 := hide (IA_10.out.later hb)
  have IB_11 := hide (IB_10.out.later hb)
  clear hb G10 C11 IA_10 IB_10
  have C12 := hide (same_at sA sB nA nB cap cap' DA DB p HP.out w11 (by omega) IA_11.out IB_11.out)
  go_wp2_with fail
  refine (C12.out).mono ?_
  rintro e w12 ⟨rfl, hb⟩
  have G12 := hide (Grow.trans' G11.out hb)
  have IA_12 := hide (IA_11.out.later hb)
  have IB_12 := hide (IB_11.out.later hb)
  clear hb G11 C12 IA_11 IB_11
  go_wp2_with fail
  go_ret
  exact ⟨rfl, G12.out⟩

set_option maxRecDepth 100000 in
theorem BagTwo_lifted (os : Os) (started : os.Started) (H : Type) (enc : TypeId × Value → H) :
    ReturnsInHanded {} Try.checked os 4 .any (Rows.bagTwoSpec.pre6 enc Try.prog Try.f4 Rows.bagTwoRow.domain false) (Rows.bagTwoSpec.post enc Try.prog Try.f4 false true false false) := by
  refine returnsInHanded_of_change (C := Try.checked) own started (by kernel_rfl) Try.func4
    (ChangeSpec.witness6 (enc := enc) (C := Try.checked) false ⟨#[], #[.slice none 0 0, .slice none 0 0], []⟩ 8 (by kernel_rfl) (by kernel_rfl) (by kernel_rfl) (by kernel_rfl)) ?_
  intro W base args ds gs before hval0 hW hcnd _
  have hval : ∀ (j : Nat) t v, Try.f4.params[j]? = some t → args[j]? = some v → Value.okWide Try.prog W .any base t v := hval0
  have hW' := hW
  obtain ⟨p, q, hA0, hV, rfl, hfz, hnd⟩ := hW
  have hA : DataW.TrodAll enc Try.prog W 0 (fun _ => true) true Try.f4.params.toList args.toList ds p := hA0
  rw [Try.params4] at hA hval
  obtain ⟨v0, vs0, d0, ds0, p0, q0, hargs, rfl, rfl, h0, r0⟩ := trodAll_cons hA
  obtain ⟨v1, vs1, d1, ds1, p1, q1, rfl, rfl, rfl, h1, r1⟩ := trodAll_cons r0
  obtain ⟨rfl, rfl, rfl⟩ := trodAll_nil r1
  obtain rfl : args = #[v0, v1] := by cases args; simp_all
  obtain ⟨rfl, rfl⟩ := trodVars_none hV
  have k0 := h0
  have lt0 : ∀ x ∈ p0, x.block < W.heap.size := by obtain ⟨m, hm⟩ := k0; exact DataW.trod_lt m _ _ _ hm
  obtain ⟨s0, len0, cap0, rfl⟩ := okWide_slice Try.underlying22 (hval 0 22 v0 rfl rfl)
  obtain ⟨z0, w0⟩ := rows_rcs h0
  have k1 := h1
  have lt1 : ∀ x ∈ p1, x.block < W.heap.size := by obtain ⟨m, hm⟩ := k1; exact DataW.trod_lt m _ _ _ hm
  obtain ⟨s1, len1, cap1, rfl⟩ := okWide_slice Try.underlying22 (hval 1 22 v1 rfl rfl)
  obtain ⟨z1, w1⟩ := rows_rcs h1
  clear hA0 hval0
  refine (BagTwo_any s0 s1 len0 len1 cap0 cap1 z0 z1 W w0 w1).mono fun e W' ⟨he, bel⟩ => ?_
  subst he
  exact ⟨_, rfl, _, _, _, [], _, [], hW', trodAll_mk1 (shut_bool Try.underlying4 _), (trodAll_cons_mk (Below.trod laidOut (by kernel_rfl) (of_decide_eq_true (by kernel_rfl)) k0 bel lt0) (trodAll_cons_mk (Below.trod laidOut (by kernel_rfl) (of_decide_eq_true (by kernel_rfl)) k1 bel lt1) trodAll_mk0)), rfl, bel.frame _, fun h => by cases h⟩

/-- The given statement. -/
theorem BagTwo_holds : Rows.BagTwoSaid :=
  OpenClaim.holds_of_wide 4 Try.f4 rfl rfl rfl rfl rfl rfl rfl ⟨rfl, rfl, rfl, rfl, rfl⟩ rfl rfl rfl rfl rfl (by kernel_rfl) Try.func4 (by kernel_rfl)
    (of_decide_eq_true (by kernel_rfl)) (by unfold Func.isWrapper; first | (rw [if_pos (by decide +kernel)]; kernel_rfl) | (rw [if_neg (by decide +kernel)]; exact ⟨rfl, rfl⟩))
    (fun os started H enc _ => BagTwo_lifted os started H enc)


end Go.Proofs.Ytkmgbhehhdjmlaa
