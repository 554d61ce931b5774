/-
  FnGroups: for every aggregate and every row of records (of the first hundred those that may be, and of them the first 80): what a key's records come to is what they come to alone; the call returns true and leaves its arguments as they were. No conditions.
-/
import Derived.Test.YthkkjhjbojbbaabFHd
import Derived.Test.YthkkjhjbojbbaabFPl2
namespace Go.Proofs.Ythkkjhjbojbbaab
set_option maxRecDepth 100000
open Go.ChangeShapes Go.WideShapes Go.ChangeAt Go.RowKit Go.Deep Go.Sort
attribute [local go_sem ↓] eqRc
set_option linter.unusedVariables false
set_option linter.unusedSimpArgs false

theorem eqR_self (t : Rc) : eqR t t = true := (eqR_iff t t).2 rfl
theorem some_step (D : List Rc) (c : Int) (k : Nat) (hk : k < D.length) : (D.take (k + 1)).filter (ofKey c) = (D.take k).filter (ofKey c) ++ (if (D[k]).k = c then [D[k]] else []) := by
  rw [← List.take_append_getElem hk, List.filter_append]
  by_cases h : (D[k]).k = c <;> simp [h, ofKey]
theorem some_len (D : List Rc) (c : Int) (k : Nat) : ((D.take k).filter (ofKey c)).length ≤ k := by
  have := List.length_filter_le (ofKey c) (D.take k)
  rw [List.length_take] at this
  omega
set_option maxHeartbeats 8000000 in
theorem FnGroups_any (a : Int) (s : Option Addr) (n cap : Nat) (d : List Rc) (w : World) (hd : IsRcs w s n cap d ∧ ∀ r ∈ d, RcWf r) :
    Calls Try.prog 4 #[.int .i64 a, .slice s n cap] w fun e w' => e = .returned (.bool true) ∧ Grow w w' := by
  have HD := hide hd.1
  clear hd
  go_enter Try.func4, Try.ntmps4
  go_wp2_with fail
  refine (shown_any _).mono ?_
  rintro e w1 ⟨rfl, hb⟩
  have G1 := hide hb
  have C1 := hide (few_at s n cap d w1 (HD.out.later hb))
  clear hb HD
  go_wp2_with fail
  refine (C1.out).mono ?_
  rintro _ w2 ⟨s1, n1, c1, rfl, hb, hI, hn1⟩
  have G2 := hide (Grow.trans' G1.out hb)
  have HLM := hide (fewR_may d)
  obtain ⟨L, hL⟩ : ∃ L, L = fewR d := ⟨_, rfl⟩
  rw [← hL] at hI HLM
  clear hb C1 G1 hL
  by_cases h80 : 80 < n1
  · have hlen : 80 < L.length := by rw [hI.1]; exact h80
    have hne : ¬ L = [] := fun h => by rw [h] at hlen; simp at hlen
    have I2 : Hid (IsRcs w2 s1 80 c1 (L.take 80)) := hide (hI.take' 80 (by omega))
    obtain ⟨b, o, hs1, _⟩ := hI.2.2.resolve_left hne
    subst hs1
    have hc80 : (80 : Int) ≤ (c1 : Int) := by have := hI.2.1; omega
    have hi80 : (80 : Int) < (n1 : Int) := by omega
    clear hne hlen
    have HDM : Hid (∀ r ∈ (L.take 80), mayR r = true) := hide (fun r hr => HLM.out r (by first | exact hr | exact List.mem_of_mem_take hr))
    have HDL := hide I2.out.1
    obtain ⟨D, hD⟩ : ∃ D, D = (L.take 80) := ⟨_, rfl⟩
    rw [← hD] at I2 HDM HDL
    have C2 := hide (red_at a (some ⟨b, o, none⟩) 80 c1 D w2 (by omega) HDM.out I2.out)
    clear hI hD
    go_wp2_with fail
    refine (C2.out).mono ?_
    rintro _ w3 ⟨sp, np, cp, rfl, hb, hI⟩
    have G3 := hide (Grow.trans' G2.out hb)
    have D3 := hide (I2.out.later hb)
    have P3 := hide hI
    have hnp : np ≤ 100 := by
      have h1 := redR_le a D
      rw [hI.1, HDL.out] at h1
      omega
    clear hb hI C2 I2 G2
    go_wp2_with fail
    go_loopw [8] (fun i wr => ∃ k : Nat, k ≤ np ∧ i = .int .i64 k ∧ Grow w3 wr) (fun i _ => np - (intOf i).toNat)
    case atStart => exact ⟨0, Nat.zero_le _, rfl, Grow.rfl' _⟩
    case round =>
      obtain ⟨k, hk, rfl, hg⟩ := hrel
      have HG := hide hg
      by_cases hlt : k < np
      · have hkp : k < (redR a D).length := by rw [P3.out.1]; exact hlt
        have hne : ¬ redR a D = [] := fun h => by rw [h] at hkp; simp at hkp
        obtain ⟨bp, op, hsp, hrp⟩ := P3.out.2.2.resolve_left hne
        subst hsp
        have HRP := hide hrp
        have HAL := hide (red_alone a D k hkp)
        obtain ⟨x, hx⟩ : ∃ x, x = (redR a D)[k] := ⟨_, rfl⟩
        rw [← hx] at HAL
        have HX := hide hx
        have hi1 : (0 : Int) ≤ (k : Int) := by omega
        have hi2 : (k : Int) < (np : Int) := by omega
        clear hne hrp hx hg
        rename World => wo
        have E0 : Hid (OwnRV (wo.alloc (.cells #[] 26)) wo.heap.size (some ⟨wo.heap.size, 0, none⟩) 0 0 []) := hide (.of (OwnR.lit0 wo _ (Nat.le_refl _)) rfl)
        have GE : Hid (Grow wo (wo.alloc (.cells #[] 26))) := hide (Grow.alloc' _ _)
        go_wp2_with fail
        go_loopw [9, 10] (fun v i wr => ∃ (j : Nat) (sl : Option Addr) (ml cl : Nat), j ≤ 80 ∧ v = .slice sl ml cl ∧ i = .int .i64 j ∧ Grow wo wr ∧ OwnRV wr wo.heap.size sl ml cl ((D.take j).filter (ofKey x.k))) (fun _ i _ => 80 - (intOf i).toNat)
        case atStart => exact ⟨0, _, 0, 0, Nat.zero_le _, rfl, rfl, GE.out, E0.out⟩
        case round =>
          obtain ⟨j, sl, ml, cl, hj, rfl, rfl, hq, hO⟩ := hrel
          have HQ := hide hq
          have HO := hide hO
          have hml : ml ≤ j := by rw [← hO.1]; exact some_len D x.k j
          have hsz := hq.size
          clear hO
          by_cases hlj : j < 80
          · have hjD : j < D.length := by rw [HDL.out]; exact hlj
            have hne : ¬ D = [] := fun h => by rw [h] at hjD; simp at hjD
            obtain ⟨bd, od, hsd, hrd⟩ := D3.out.2.2.resolve_left hne
            obtain ⟨rfl, rfl⟩ : b = bd ∧ o = od := by cases hsd; exact ⟨rfl, rfl⟩
            have HRD := hide (hrd.later HG.out)
            obtain ⟨p0, p1⟩ := (HRD.out.later hq).at j hjD
            obtain ⟨q0, q1⟩ := ((HRP.out.later HG.out).later hq).at k hkp
            have HST := hide (some_step D x.k j hjD)
            obtain ⟨y, hy⟩ : ∃ y, y = D[j] := ⟨_, rfl⟩
            rw [← hy] at p0 p1 HST
            rw [← HX.out] at q0 q1
            have HY := hide hy
            have hj1 : (0 : Int) ≤ (j : Int) := by omega
            have hj2 : (j : Int) < (80 : Int) := by omega
            clear hne hrd hy hq
            by_cases hyx : y.k = x.k
            · rw [if_pos hyx] at HST
              have he : (y.k == x.k) = true := by simpa using hyx
              clear hyx
              go_wp2
              go_quiet (fail)
              have HQ2 := hide (Grow.trans' HQ.out (below_drewN (Below.refl _ _) nq))
              have O2 := hide (HO.out.later (below_drewN (Below.refl _ _) nq))
              clear p0 p1 q0 q1 HQ HO he hsz
              generalize wr.drewN nq = wz at *
              obtain ⟨p0, p1⟩ := (HRD.out.later HQ2.out).at j hjD
              rw [← HY.out] at p0 p1
              have hsz := HQ2.out.size
              go_wp2_with (at_builtin; refine wpList_apd_rc rfl _ _ rfl wo.heap.size sl ml cl ((D.take j).filter (ofKey x.k)) [y] rfl (O2.out.later (Grow.alloc' _ _)) (some ⟨wz.heap.size, 0, none⟩) 1 1 rfl ⟨rfl, Nat.le_refl _, .inr ⟨_, _, rfl, RowR_one wz y⟩⟩ (by omega) (by simp; omega) ?_)
              intro s4 c4 w4 h4 gb
              have G4 := hide (gb.grow (Grow.trans' HQ2.out (Grow.alloc' _ _)) (Nat.le_refl _))
              have O4 : Hid (OwnRV w4 wo.heap.size s4 (ml + 1) c4 ((D.take (j + 1)).filter (ofKey x.k))) := hide (by rw [HST.out]; exact h4)
              clear h4 gb p0 p1 O2 HQ2 HST
              go_wp2_with fail
              go_roundw
              case rel => exact ⟨j + 1, s4, ml + 1, c4, by omega, rfl, by go_num, G4.out, O4.out⟩
              case measure => simp [intOf]; omega
            · rw [if_neg hyx, List.append_nil] at HST
              have he : (y.k == x.k) = false := by simpa using hyx
              clear hyx
              go_wp2
              go_quiet (fail)
              have HQ2 := hide (Grow.trans' HQ.out (below_drewN (Below.refl _ _) nq))
              have O2 := hide (HO.out.later (below_drewN (Below.refl _ _) nq))
              clear p0 p1 q0 q1 HQ HO he hsz
              generalize wr.drewN nq = wz at *
              go_wp2_with fail
              go_roundw
              case rel => exact ⟨j + 1, sl, ml, cl, by omega, rfl, by go_num, HQ2.out, by rw [HST.out]; exact O2.out⟩
              case measure => simp [intOf]; omega
          · have hjn : ¬ (j : Int) < (80 : Int) := by omega
            have HT : Hid (D.take j = D) := hide (List.take_of_length_le (by rw [HDL.out]; omega))
            rw [HT.out] at HO
            have C4 := hide (red_at a sl ml cl (D.filter (ofKey x.k)) wr (by omega) (fun r hr => HDM.out r (List.mem_filter.1 hr).1) HO.out.is)
            rw [HAL.out] at C4
            clear hq HO
            go_wp2_with fail
            refine (C4.out).mono ?_
            rintro _ w4 ⟨s4, n4, c4, rfl, hb, hI⟩
            have hn4 : n4 = 1 := hI.1.symm
            subst hn4
            obtain ⟨b4, o4, hs4, hr4⟩ := hI.2.2.resolve_left (by simp)
            subst hs4
            have G4 := hide (Grow.trans' HQ.out hb)
            obtain ⟨p0, p1⟩ := hr4.at 0 (by simp)
            obtain ⟨q0, q1⟩ := ((HRP.out.later HG.out).later G4.out).at k hkp
            rw [← HX.out] at q0 q1
            simp only [Nat.zero_mul, Nat.add_zero, List.getElem_cons_zero] at p0 p1
            have es := eqR_self x
            clear hb hI hr4 C4 HQ
            go_wp2
            go_quiet (fail)
            have G5 := hide (Grow.trans' HG.out (Grow.trans' G4.out (below_drewN (Below.refl _ _) nq)))
            clear p0 p1 q0 q1 G4
            generalize w4.drewN nq = wz at *
            go_wp2_with fail
            go_roundw
            case rel => exact ⟨k + 1, by omega, by go_num, G5.out⟩
            case measure => simp [intOf]; omega
      · have hi2 : ¬ (k : Int) < (np : Int) := by omega
        clear hg
        go_wp2_with fail
        go_ret
        exact ⟨rfl, Grow.trans' G3.out HG.out⟩
  · have I2 := hide hI
    have hi80 : ¬ (80 : Int) < (n1 : Int) := by omega
    have HDM : Hid (∀ r ∈ L, mayR r = true) := hide (fun r hr => HLM.out r (by first | exact hr | exact List.mem_of_mem_take hr))
    have HDL := hide I2.out.1
    obtain ⟨D, hD⟩ : ∃ D, D = L := ⟨_, rfl⟩
    rw [← hD] at I2 HDM HDL
    have C2 := hide (red_at a s1 n1 c1 D w2 (by omega) HDM.out I2.out)
    clear hI hD
    go_wp2_with fail
    refine (C2.out).mono ?_
    rintro _ w3 ⟨sp, np, cp, rfl, hb, hI⟩
    have G3 := hide (Grow.trans' G2.out hb)
    have D3 := hide (I2.out.later hb)
    have P3 := hide hI
    have hnp : np ≤ 100 := by
      have h1 := redR_le a D
      rw [hI.1, HDL.out] at h1
      omega
    clear hb hI C2 I2 G2
    go_wp2_with fail
    go_loopw [8] (fun i wr => ∃ k : Nat, k ≤ np ∧ i = .int .i64 k ∧ Grow w3 wr) (fun i _ => np - (intOf i).toNat)
    case atStart => exact ⟨0, Nat.zero_le _, rfl, Grow.rfl' _⟩
    case round =>
      obtain ⟨k, hk, rfl, hg⟩ := hrel
      have HG := hide hg
      by_cases hlt : k < np
      · have hkp : k < (redR a D).length := by rw [P3.out.1]; exact hlt
        have hne : ¬ redR a D = [] := fun h => by rw [h] at hkp; simp at hkp
        obtain ⟨bp, op, hsp, hrp⟩ := P3.out.2.2.resolve_left hne
        subst hsp
        have HRP := hide hrp
        have HAL := hide (red_alone a D k hkp)
        obtain ⟨x, hx⟩ : ∃ x, x = (redR a D)[k] := ⟨_, rfl⟩
        rw [← hx] at HAL
        have HX := hide hx
        have hi1 : (0 : Int) ≤ (k : Int) := by omega
        have hi2 : (k : Int) < (np : Int) := by omega
        clear hne hrp hx hg
        rename World => wo
        have E0 : Hid (OwnRV (wo.alloc (.cells #[] 26)) wo.heap.size (some ⟨wo.heap.size, 0, none⟩) 0 0 []) := hide (.of (OwnR.lit0 wo _ (Nat.le_refl _)) rfl)
        have GE : Hid (Grow wo (wo.alloc (.cells #[] 26))) := hide (Grow.alloc' _ _)
        go_wp2_with fail
        go_loopw [9, 10] (fun v i wr => ∃ (j : Nat) (sl : Option Addr) (ml cl : Nat), j ≤ n1 ∧ v = .slice sl ml cl ∧ i = .int .i64 j ∧ Grow wo wr ∧ OwnRV wr wo.heap.size sl ml cl ((D.take j).filter (ofKey x.k))) (fun _ i _ => n1 - (intOf i).toNat)
        case atStart => exact ⟨0, _, 0, 0, Nat.zero_le _, rfl, rfl, GE.out, E0.out⟩
        case round =>
          obtain ⟨j, sl, ml, cl, hj, rfl, rfl, hq, hO⟩ := hrel
          have HQ := hide hq
          have HO := hide hO
          have hml : ml ≤ j := by rw [← hO.1]; exact some_len D x.k j
          have hsz := hq.size
          clear hO
          by_cases hlj : j < n1
          · have hjD : j < D.length := by rw [HDL.out]; exact hlj
            have hne : ¬ D = [] := fun h => by rw [h] at hjD; simp at hjD
            obtain ⟨bd, od, hsd, hrd⟩ := D3.out.2.2.resolve_left hne
            subst hsd
            have HRD := hide (hrd.later HG.out)
            obtain ⟨p0, p1⟩ := (HRD.out.later hq).at j hjD
            obtain ⟨q0, q1⟩ := ((HRP.out.later HG.out).later hq).at k hkp
            have HST := hide (some_step D x.k j hjD)
            obtain ⟨y, hy⟩ : ∃ y, y = D[j] := ⟨_, rfl⟩
            rw [← hy] at p0 p1 HST
            rw [← HX.out] at q0 q1
            have HY := hide hy
            have hj1 : (0 : Int) ≤ (j : Int) := by omega
            have hj2 : (j : Int) < (n1 : Int) := by omega
            clear hne hrd hy hq
            by_cases hyx : y.k = x.k
            · rw [if_pos hyx] at HST
              have he : (y.k == x.k) = true := by simpa using hyx
              clear hyx
              go_wp2
              go_quiet (fail)
              have HQ2 := hide (Grow.trans' HQ.out (below_drewN (Below.refl _ _) nq))
              have O2 := hide (HO.out.later (below_drewN (Below.refl _ _) nq))
              clear p0 p1 q0 q1 HQ HO he hsz
              generalize wr.drewN nq = wz at *
              obtain ⟨p0, p1⟩ := (HRD.out.later HQ2.out).at j hjD
              rw [← HY.out] at p0 p1
              have hsz := HQ2.out.size
              go_wp2_with (at_builtin; refine wpList_apd_rc rfl _ _ rfl wo.heap.size sl ml cl ((D.take j).filter (ofKey x.k)) [y] rfl (O2.out.later (Grow.alloc' _ _)) (some ⟨wz.heap.size, 0, none⟩) 1 1 rfl ⟨rfl, Nat.le_refl _, .inr ⟨_, _, rfl, RowR_one wz y⟩⟩ (by omega) (by simp; omega) ?_)
              intro s4 c4 w4 h4 gb
              have G4 := hide (gb.grow (Grow.trans' HQ2.out (Grow.alloc' _ _)) (Nat.le_refl _))
              have O4 : Hid (OwnRV w4 wo.heap.size s4 (ml + 1) c4 ((D.take (j + 1)).filter (ofKey x.k))) := hide (by rw [HST.out]; exact h4)
              clear h4 gb p0 p1 O2 HQ2 HST
              go_wp2_with fail
              go_roundw
              case rel => exact ⟨j + 1, s4, ml + 1, c4, by omega, rfl, by go_num, G4.out, O4.out⟩
              case measure => simp [intOf]; omega
            · rw [if_neg hyx, List.append_nil] at HST
              have he : (y.k == x.k) = false := by simpa using hyx
              clear hyx
              go_wp2
              go_quiet (fail)
              have HQ2 := hide (Grow.trans' HQ.out (below_drewN (Below.refl _ _) nq))
              have O2 := hide (HO.out.later (below_drewN (Below.refl _ _) nq))
              clear p0 p1 q0 q1 HQ HO he hsz
              generalize wr.drewN nq = wz at *
              go_wp2_with fail
              go_roundw
              case rel => exact ⟨j + 1, sl, ml, cl, by omega, rfl, by go_num, HQ2.out, by rw [HST.out]; exact O2.out⟩
              case measure => simp [intOf]; omega
          · have hjn : ¬ (j : Int) < (n1 : Int) := by omega
            have HT : Hid (D.take j = D) := hide (List.take_of_length_le (by rw [HDL.out]; omega))
            rw [HT.out] at HO
            have C4 := hide (red_at a sl ml cl (D.filter (ofKey x.k)) wr (by omega) (fun r hr => HDM.out r (List.mem_filter.1 hr).1) HO.out.is)
            rw [HAL.out] at C4
            clear hq HO
            go_wp2_with fail
            refine (C4.out).mono ?_
            rintro _ w4 ⟨s4, n4, c4, rfl, hb, hI⟩
            have hn4 : n4 = 1 := hI.1.symm
            subst hn4
            obtain ⟨b4, o4, hs4, hr4⟩ := hI.2.2.resolve_left (by simp)
            subst hs4
            have G4 := hide (Grow.trans' HQ.out hb)
            obtain ⟨p0, p1⟩ := hr4.at 0 (by simp)
            obtain ⟨q0, q1⟩ := ((HRP.out.later HG.out).later G4.out).at k hkp
            rw [← HX.out] at q0 q1
            simp only [Nat.zero_mul, Nat.add_zero, List.getElem_cons_zero] at p0 p1
            have es := eqR_self x
            clear hb hI hr4 C4 HQ
            go_wp2
            go_quiet (fail)
            have G5 := hide (Grow.trans' HG.out (Grow.trans' G4.out (below_drewN (Below.refl _ _) nq)))
            clear p0 p1 q0 q1 G4
            generalize w4.drewN nq = wz at *
            go_wp2_with fail
            go_roundw
            case rel => exact ⟨k + 1, by omega, by go_num, G5.out⟩
            case measure => simp [intOf]; omega
      · have hi2 : ¬ (k : Int) < (np : Int) := by omega
        clear hg
        go_wp2_with fail
        go_ret
        exact ⟨rfl, Grow.trans' G3.out HG.out⟩

set_option maxRecDepth 100000 in
theorem FnGroups_lifted (os : Os) (started : os.Started) (H : Type) (enc : TypeId × Value → H) :
    ReturnsInHanded {} Try.checked os 4 .any (Rows.fnGroupsSpec.pre6 enc Try.prog Try.f4 Rows.fnGroupsRow.domain false) (Rows.fnGroupsSpec.post enc Try.prog Try.f4 false true false false) := by
  refine returnsInHanded_of_change (C := Try.checked) own started (by kernel_rfl) Try.func4
    (ChangeSpec.witness6 (enc := enc) (C := Try.checked) false ⟨#[], #[.int .i64 0, .slice none 0 0], []⟩ 8 (by kernel_rfl) (by kernel_rfl) (by kernel_rfl) (by kernel_rfl)) ?_
  intro W base args ds gs before hval0 hW hcnd _
  have hval : ∀ (j : Nat) t v, Try.f4.params[j]? = some t → args[j]? = some v → Value.okWide Try.prog W .any base t v := hval0
  have hW' := hW
  obtain ⟨p, q, hA0, hV, rfl, hfz, hnd⟩ := hW
  have hA : DataW.TrodAll enc Try.prog W 0 (fun _ => true) true Try.f4.params.toList args.toList ds p := hA0
  rw [Try.params4] at hA hval
  obtain ⟨v0, vs0, d0, ds0, p0, q0, hargs, rfl, rfl, h0, r0⟩ := trodAll_cons hA
  obtain ⟨v1, vs1, d1, ds1, p1, q1, rfl, rfl, rfl, h1, r1⟩ := trodAll_cons r0
  obtain ⟨rfl, rfl, rfl⟩ := trodAll_nil r1
  obtain rfl : args = #[v0, v1] := by cases args; simp_all
  obtain ⟨rfl, rfl⟩ := trodVars_none hV
  obtain ⟨a0, rfl, rfl, rfl, w0⟩ := open_int Try.underlying3 (hval 0 3 v0 rfl rfl) h0
  have k1 := h1
  have lt1 : ∀ x ∈ p1, x.block < W.heap.size := by obtain ⟨m, hm⟩ := k1; exact DataW.trod_lt m _ _ _ hm
  obtain ⟨s1, len1, cap1, rfl⟩ := okWide_slice Try.underlying24 (hval 1 24 v1 rfl rfl)
  obtain ⟨z1, w1⟩ := rows_rcs h1
  clear hA0 hval0
  refine (FnGroups_any a0 s1 len1 cap1 z1 W w1).mono fun e W' ⟨he, bel⟩ => ?_
  subst he
  exact ⟨_, rfl, _, _, _, [], _, [], hW', trodAll_mk1 (shut_bool Try.underlying4 _), (trodAll_cons_mk (shut_int Try.underlying3 w0) (trodAll_cons_mk (Below.trod laidOut (by kernel_rfl) (of_decide_eq_true (by kernel_rfl)) k1 bel lt1) trodAll_mk0)), rfl, bel.frame _, fun h => by cases h⟩

/-- The given statement. -/
theorem FnGroups_holds : Rows.FnGroupsSaid :=
  OpenClaim.holds_of_wide 4 Try.f4 rfl rfl rfl rfl rfl rfl rfl ⟨rfl, rfl, rfl, rfl, rfl⟩ rfl rfl rfl rfl rfl (by kernel_rfl) Try.func4 (by kernel_rfl)
    (of_decide_eq_true (by kernel_rfl)) (by unfold Func.isWrapper; first | (rw [if_pos (by decide +kernel)]; kernel_rfl) | (rw [if_neg (by decide +kernel)]; exact ⟨rfl, rfl⟩))
    (fun os started H enc _ => FnGroups_lifted os started H enc)


end Go.Proofs.Ythkkjhjbojbbaab
