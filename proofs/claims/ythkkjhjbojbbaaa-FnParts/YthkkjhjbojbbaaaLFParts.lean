/-
  FnParts: for every two rows of records (the first hundred of each, those that may be, with values of 30 bits): how many there are, the sum, the greatest and the least, key by key, of both rows come of those of each row; the call returns true and leaves its arguments as they were. No conditions.
-/
import Derived.Test.YthkkjhjbojbbaaaFHd
import Derived.Test.YthkkjhjbojbbaaaFLow
import Derived.Test.YthkkjhjbojbbaaaGEq
namespace Go.Proofs.Ythkkjhjbojbbaaa
set_option maxRecDepth 100000
open Go.ChangeShapes Go.WideShapes Go.ChangeAt Go.RowKit Go.Deep Go.Sort
set_option linter.unusedVariables false
set_option linter.unusedSimpArgs false

set_option maxHeartbeats 4000000 in
theorem FnParts_any (s s' : Option Addr) (n m cap cap' : Nat) (d e : List Rc) (w : World) (hd : IsRcs w s n cap d ∧ ∀ r ∈ d, RcWf r) (he : IsRcs w s' m cap' e ∧ ∀ r ∈ e, RcWf r) :
    Calls Try.prog 6 #[.slice s n cap, .slice s' m cap'] w fun e w' => e = .returned (.bool true) ∧ Grow w w' := by
  have HD := hide hd.1
  have HE := hide he.1
  clear hd he
  go_enter Try.func6, Try.ntmps6
  go_wp2_with fail
  refine (shown_any _).mono ?_
  rintro e w1 ⟨rfl, hb⟩
  have G1 := hide hb
  have HE1 := hide (HE.out.later hb)
  have C1 := hide (few_at s n cap d w1 (HD.out.later hb))
  clear hb HD HE
  go_wp2_with fail
  refine (C1.out).mono ?_
  rintro _ w2 ⟨s1, n1, c1, rfl, hb, hI, hn1⟩
  have G2 := hide (Grow.trans' G1.out hb)
  have HE2 := hide (HE1.out.later hb)
  have C2 := hide (low_at s1 n1 c1 (fewR d) w2 (by omega) hI)
  clear hb hI C1 G1 HE1
  go_wp2_with fail
  refine (C2.out).mono ?_
  rintro _ w3 ⟨sA, cA, rfl, hb, hI⟩
  have G3 := hide (Grow.trans' G2.out hb)
  obtain ⟨A, hA⟩ : ∃ A, A = lowR (fewR d) := ⟨_, rfl⟩
  rw [← hA] at hI
  have A3 := hide hI
  have HAL := hide (show Low A by rw [hA]; exact lowR_low _)
  have HAM := hide (show ∀ r ∈ A, mayR r = true by rw [hA]; exact lowR_may (fewR_may d))
  have C3 := hide (few_at s' m cap' e w3 (HE2.out.later hb))
  clear hb hI hA C2 G2 HE2
  go_wp2_with fail
  refine (C3.out).mono ?_
  rintro _ w4 ⟨s2, n2, c2, rfl, hb, hI, hn2⟩
  have G4 := hide (Grow.trans' G3.out hb)
  have A4 := hide (A3.out.later hb)
  have C4 := hide (low_at s2 n2 c2 (fewR e) w4 (by omega) hI)
  clear hb hI C3 G3 A3
  go_wp2_with fail
  refine (C4.out).mono ?_
  rintro _ w5 ⟨sB, cB, rfl, hb, hI⟩
  have G5 := hide (Grow.trans' G4.out hb)
  have A5 := hide (A4.out.later hb)
  obtain ⟨B, hB⟩ : ∃ B, B = lowR (fewR e) := ⟨_, rfl⟩
  rw [← hB] at hI
  have B5 := hide hI
  have HBL := hide (show Low B by rw [hB]; exact lowR_low _)
  have HBM := hide (show ∀ r ∈ B, mayR r = true by rw [hB]; exact lowR_may (fewR_may e))
  clear hb hI hB C4 G4 A4
  go_wp2_with (at_builtin; refine wpList_apd_rc rfl _ _ rfl w5.heap.size (some ⟨w5.heap.size, 0, none⟩) 0 0 [] A rfl (.of (OwnR.lit0 w5 _ (Nat.le_refl _)) rfl) sA n1 cA rfl (A5.out.later (Grow.alloc' _ _)) (by omega) (by simp) ?_)
  intro s6 c6 w6 h6 gb
  have B56 := hide (show Grow w5 w6 from gb.grow (Grow.alloc' _ _) (Nat.le_refl _))
  have O6 : Hid (OwnRV w6 w5.heap.size s6 n1 c6 A) := hide (by simpa using h6)
  clear h6 gb
  go_wp2_with (at_builtin; refine wpList_apd_rc rfl _ _ rfl w5.heap.size s6 n1 c6 A B rfl O6.out sB n2 cB rfl (B5.out.later B56.out) (by omega) B56.out.size ?_)
  intro s7 c7 w7 h7 gb
  have B57 := hide (show Grow w5 w7 from gb.grow B56.out (Nat.le_refl _))
  obtain ⟨N, hN⟩ : ∃ N, N = n1 + n2 := ⟨_, rfl⟩
  rw [← hN] at h7
  have I7 := hide h7.is
  have hNb : N ≤ 200 := by omega
  have G7 := hide (Grow.trans' G5.out B57.out)
  have A7 := hide (A5.out.later B57.out)
  have B7 := hide (B5.out.later B57.out)
  rw [← hN]
  clear h7 gb O6 B56 G5 A5 B5 B57 hN
  go_wp2_with fail
  go_loopw [9] (fun i wr => ∃ k : Nat, 1 ≤ k ∧ k ≤ 5 ∧ i = .int .i64 k ∧ Grow w7 wr) (fun i _ => 5 - (intOf i).toNat)
  case atStart => exact ⟨1, by omega, by omega, rfl, Grow.rfl' _⟩
  case round =>
    obtain ⟨k, hk1, hk5, rfl, hg⟩ := hrel
    have HG := hide hg
    by_cases hlt : k ≤ 4
    · have hk : mayRedB (k : Int) = true := by simp [mayRedB]; omega
      have HPT := hide (red_parts (k : Int) hk A B (by rw [A7.out.1]; omega) (by rw [B7.out.1]; omega) HAL.out HBL.out)
      have hi1 : (k : Int) ≤ 4 := by omega
      have C8 := hide (red_at (k : Int) s7 N c7 (A ++ B) wr (by omega) (fun r hr => (List.mem_append.1 hr).elim (HAM.out r) (HBM.out r)) (I7.out.later hg))
      clear hk hg
      go_wp2_with fail
      refine (C8.out).mono ?_
      rintro _ w8 ⟨sX, nX, cX, rfl, hb, hI⟩
      have G8 := hide (Grow.trans' HG.out hb)
      have X8 := hide hI
      have hnX : nX ≤ 200 := by
        have h1 := redR_le (k : Int) (A ++ B)
        rw [hI.1, List.length_append, A7.out.1, B7.out.1] at h1
        omega
      have C9 := hide (red_at (k : Int) sA n1 cA A (w8.alloc (.cells #[] 23)) (by omega) HAM.out ((A7.out.later G8.out).later (Grow.alloc' _ _)))
      clear hb hI C8 HG
      go_wp2_with fail
      refine (C9.out).mono ?_
      rintro _ w9 ⟨s9, n9, c9, rfl, hb, hI⟩
      have E9 : Hid (OwnRV w9 w8.heap.size (some ⟨w8.heap.size, 0, none⟩) 0 0 []) := hide (.of ((OwnR.lit0 w8 _ (Nat.le_refl _)).later hb) rfl)
      have B89 := hide (show Grow w8 w9 from Grow.trans' (Grow.alloc' _ _) hb)
      have I9 := hide hI
      have hn9 : n9 ≤ 100 := by
        have h1 := redR_le (k : Int) A
        rw [hI.1, A7.out.1] at h1
        omega
      clear hb hI C9
      go_wp2_with (at_builtin; refine wpList_apd_rc rfl _ _ rfl w8.heap.size (some ⟨w8.heap.size, 0, none⟩) 0 0 [] (redR (k : Int) A) rfl E9.out s9 n9 c9 rfl I9.out (by omega) B89.out.size ?_)
      intro sa ca wa ha gb
      have B8a := hide (show Grow w8 wa from gb.grow B89.out (Nat.le_refl _))
      have Oa : Hid (OwnRV wa w8.heap.size sa n9 ca (redR (k : Int) A)) := hide (by simpa using ha)
      have Ca := hide (red_at (k : Int) sB n2 cB B wa (by omega) HBM.out ((B7.out.later G8.out).later B8a.out))
      clear ha gb E9 B89 I9
      go_wp2_with fail
      refine (Ca.out).mono ?_
      rintro _ wb ⟨sb, nb, cb, rfl, hb, hI⟩
      have B8b := hide (Grow.trans' B8a.out hb)
      have Ob := hide (Oa.out.later hb)
      have Ib := hide hI
      have hnb : nb ≤ 100 := by
        have h1 := redR_le (k : Int) B
        rw [hI.1, B7.out.1] at h1
        omega
      clear hb hI Ca Oa B8a
      go_wp2_with (at_builtin; refine wpList_apd_rc rfl _ _ rfl w8.heap.size sa n9 ca (redR (k : Int) A) (redR (k : Int) B) rfl Ob.out sb nb cb rfl Ib.out (by omega) B8b.out.size ?_)
      intro sc cc wc hc gb
      have B8c := hide (show Grow w8 wc from gb.grow B8b.out (Nat.le_refl _))
      obtain ⟨M, hM⟩ : ∃ M, M = n9 + nb := ⟨_, rfl⟩
      rw [← hM] at hc
      have Ic := hide hc.is
      have hMb : M ≤ 200 := by omega
      rw [← hM]
      have HPM := hide (show ∀ r ∈ redR (k : Int) A ++ redR (k : Int) B, mayR r = true from fun r hr => (List.mem_append.1 hr).elim
        (redR_may (k : Int) (by rw [A7.out.1]; omega) HAM.out r) (redR_may (k : Int) (by rw [B7.out.1]; omega) HBM.out r))
      have Xc := hide (X8.out.later B8c.out)
      have Gc := hide (Grow.trans' G8.out B8c.out)
      clear hc gb Ob Ib B8b hM X8 G8
      by_cases hk1' : k = 1
      · have hk1i : (k : Int) = 1 := by omega
        have Cc := hide (red_at 2 sc M cc (redR (k : Int) A ++ redR (k : Int) B) wc (by omega) HPM.out Ic.out)
        rw [show redR 2 (redR (k : Int) A ++ redR (k : Int) B) = redR (k : Int) (A ++ B) by rw [← HPT.out, againI, if_pos hk1i]] at Cc
        have hke : ((k : Int) == 1) = true := by simpa using hk1i
        obtain ⟨q, hq⟩ : ∃ q : Int, q = (k : Int) := ⟨_, rfl⟩
        have HK := hide hk1'
        clear hk1i hk1'
        go_wp2_with fail
        refine (Cc.out).mono ?_
        rintro _ wd ⟨sd, nd, cd, rfl, hb, hI⟩
        have Cd := hide (rowR_any sX sd cX cd nX nd _ _ true (by simp) wd (by omega) (Xc.out.later hb) hI)
        have Gd := hide (Grow.trans' Gc.out hb)
        clear hb hI Cc
        go_wp2_with fail
        refine (Cd.out).mono ?_
        rintro _ wf ⟨rfl, hb⟩
        have Gf := hide (Grow.trans' Gd.out hb)
        clear hb Cd
        go_wp2_with fail
        go_roundw
        case rel => exact ⟨k + 1, by omega, by omega, by go_num, Gf.out⟩
        case measure => simp [intOf]; omega
      · have hk1i : ¬ (k : Int) = 1 := by omega
        have Cc := hide (red_at (k : Int) sc M cc (redR (k : Int) A ++ redR (k : Int) B) wc (by omega) HPM.out Ic.out)
        rw [show redR (k : Int) (redR (k : Int) A ++ redR (k : Int) B) = redR (k : Int) (A ++ B) by have := HPT.out; rw [againI, if_neg hk1i] at this; exact this] at Cc
        have hke : ((k : Int) == 1) = false := by simpa using hk1i
        clear hk1'
        go_wp2_with fail
        refine (Cc.out).mono ?_
        rintro _ wd ⟨sd, nd, cd, rfl, hb, hI⟩
        have Cd := hide (rowR_any sX sd cX cd nX nd _ _ true (by simp) wd (by omega) (Xc.out.later hb) hI)
        have Gd := hide (Grow.trans' Gc.out hb)
        clear hb hI Cc
        go_wp2_with fail
        refine (Cd.out).mono ?_
        rintro _ wf ⟨rfl, hb⟩
        have Gf := hide (Grow.trans' Gd.out hb)
        clear hb Cd
        go_wp2_with fail
        go_roundw
        case rel => exact ⟨k + 1, by omega, by omega, by go_num, Gf.out⟩
        case measure => simp [intOf]; omega
    · have hi1 : ¬ (k : Int) ≤ 4 := by omega
      clear hg
      go_wp2_with fail
      go_ret
      exact ⟨rfl, Grow.trans' G7.out HG.out⟩

set_option maxRecDepth 100000 in
theorem FnParts_lifted (os : Os) (started : os.Started) (H : Type) (enc : TypeId × Value → H) :
    ReturnsInHanded {} Try.checked os 6 .any (Rows.fnPartsSpec.pre6 enc Try.prog Try.f6 Rows.fnPartsRow.domain false) (Rows.fnPartsSpec.post enc Try.prog Try.f6 false true false false) := by
  refine returnsInHanded_of_change (C := Try.checked) own started (by kernel_rfl) Try.func6
    (ChangeSpec.witness6 (enc := enc) (C := Try.checked) false ⟨#[], #[.slice none 0 0, .slice none 0 0], []⟩ 8 (by kernel_rfl) (by kernel_rfl) (by kernel_rfl) (by kernel_rfl)) ?_
  intro W base args ds gs before hval0 hW hcnd _
  have hval : ∀ (j : Nat) t v, Try.f6.params[j]? = some t → args[j]? = some v → Value.okWide Try.prog W .any base t v := hval0
  have hW' := hW
  obtain ⟨p, q, hA0, hV, rfl, hfz, hnd⟩ := hW
  have hA : DataW.TrodAll enc Try.prog W 0 (fun _ => true) true Try.f6.params.toList args.toList ds p := hA0
  rw [Try.params6] at hA hval
  obtain ⟨v0, vs0, d0, ds0, p0, q0, hargs, rfl, rfl, h0, r0⟩ := trodAll_cons hA
  obtain ⟨v1, vs1, d1, ds1, p1, q1, rfl, rfl, rfl, h1, r1⟩ := trodAll_cons r0
  obtain ⟨rfl, rfl, rfl⟩ := trodAll_nil r1
  obtain rfl : args = #[v0, v1] := by cases args; simp_all
  obtain ⟨rfl, rfl⟩ := trodVars_none hV
  have k0 := h0
  have lt0 : ∀ x ∈ p0, x.block < W.heap.size := by obtain ⟨m, hm⟩ := k0; exact DataW.trod_lt m _ _ _ hm
  obtain ⟨s0, len0, cap0, rfl⟩ := okWide_slice Try.underlying30 (hval 0 30 v0 rfl rfl)
  obtain ⟨z0, w0⟩ := rows_rcs h0
  have k1 := h1
  have lt1 : ∀ x ∈ p1, x.block < W.heap.size := by obtain ⟨m, hm⟩ := k1; exact DataW.trod_lt m _ _ _ hm
  obtain ⟨s1, len1, cap1, rfl⟩ := okWide_slice Try.underlying30 (hval 1 30 v1 rfl rfl)
  obtain ⟨z1, w1⟩ := rows_rcs h1
  clear hA0 hval0
  refine (FnParts_any s0 s1 len0 len1 cap0 cap1 z0 z1 W w0 w1).mono fun e W' ⟨he, bel⟩ => ?_
  subst he
  exact ⟨_, rfl, _, _, _, [], _, [], hW', trodAll_mk1 (shut_bool Try.underlying4 _), (trodAll_cons_mk (Below.trod laidOut (by kernel_rfl) (of_decide_eq_true (by kernel_rfl)) k0 bel lt0) (trodAll_cons_mk (Below.trod laidOut (by kernel_rfl) (of_decide_eq_true (by kernel_rfl)) k1 bel lt1) trodAll_mk0)), rfl, bel.frame _, fun h => by cases h⟩

/-- The given statement. -/
theorem FnParts_holds : Rows.FnPartsSaid :=
  OpenClaim.holds_of_wide 6 Try.f6 rfl rfl rfl rfl rfl rfl rfl ⟨rfl, rfl, rfl, rfl, rfl⟩ rfl rfl rfl rfl rfl (by kernel_rfl) Try.func6 (by kernel_rfl)
    (of_decide_eq_true (by kernel_rfl)) (by unfold Func.isWrapper; first | (rw [if_pos (by decide +kernel)]; kernel_rfl) | (rw [if_neg (by decide +kernel)]; exact ⟨rfl, rfl⟩))
    (fun os started H enc _ => FnParts_lifted os started H enc)


end Go.Proofs.Ythkkjhjbojbbaaa
