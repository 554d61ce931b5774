/-
  FnOnes: for every row of numbers (the first 60, of 40 bits): of records with unlike keys each stands for itself: the sum, the greatest and the least are their own values, and there is one of each; the call returns true and leaves its arguments as they were. No conditions.
-/
import Derived.Test.YthkkjhjbojbbaabFHd
import Derived.Test.YthkkjhjbojbbaabFPl2
import Derived.Test.YthkkjhjbojbbaabFRow
namespace Go.Proofs.Ythkkjhjbojbbaab
set_option maxRecDepth 100000
open Go.ChangeShapes Go.WideShapes Go.ChangeAt Go.RowKit Go.Deep Go.Sort
attribute [local go_sem ↓] eqRc
set_option linter.unusedVariables false
set_option linter.unusedSimpArgs false

def onesR (l : Nat → Int) (k : Nat) : List Rc := (List.range k).map fun (i : Nat) => ⟨(i : Int), Int.tmod (l i) 1099511627776⟩
theorem onesR_len (l : Nat → Int) (k : Nat) : (onesR l k).length = k := by simp [onesR]
theorem onesR_get (l : Nat → Int) (k i : Nat) (h : i < (onesR l k).length) : (onesR l k)[i] = ⟨(i : Int), Int.tmod (l i) 1099511627776⟩ := by simp [onesR]
theorem onesR_step (l : Nat → Int) (k : Nat) : onesR l (k + 1) = onesR l k ++ [⟨(k : Int), Int.tmod (l k) 1099511627776⟩] := by simp [onesR, List.range_succ]
theorem ones_rise (l : Nat → Int) (k : Nat) : ((onesR l k).map (·.k)).Pairwise fun a b => a < b := by
  unfold onesR
  rw [List.map_map, List.pairwise_map]
  refine (List.pairwise_lt_range (n := k)).imp fun {i j} h => ?_
  show (i : Int) < (j : Int)
  omega
theorem ones_may (l : Nat → Int) (k : Nat) (hk : k ≤ 60) : ∀ r ∈ onesR l k, mayR r = true := by
  intro r hr
  unfold onesR at hr
  obtain ⟨i, hi, rfl⟩ := List.mem_map.1 hr
  have hi' := List.mem_range.1 hi
  have := tmod_in (x := l i) (b := 1099511627776) (by omega)
  rw [mayR_iff]
  dsimp only
  omega
/-- What comes of them. -/
def oneX (a : Int) (r : Rc) : Rc := ⟨r.k, if a = 1 then 1 else r.v⟩
theorem ones_red {a : Int} (ha : mayRedB a = true) (l : Nat → Int) (k : Nat) (hk : k ≤ 60) : redR a (onesR l k) = (onesR l k).map (oneX a) := red_ones ha _ (ones_rise l k) (ones_may l k hk)
set_option maxHeartbeats 8000000 in
theorem FnOnes_any (s : Option Addr) (n cap : Nat) (l : Nat → Int) (w : World) (hd : IsInts w s n cap l) :
    Calls Try.prog 3 #[.slice s n cap] w fun e w' => e = .returned (.bool true) ∧ Grow w w' := by
  have HD := hide hd.2
  obtain ⟨N, hN⟩ : ∃ N, N = min n 60 := ⟨_, rfl⟩
  have hN1 : N ≤ n := by omega
  have hN2 : N ≤ 60 := by omega
  have hN3 : N = n ∨ N = 60 := by omega
  clear hd hN
  go_enter Try.func3, Try.ntmps3
  go_wp2_with fail
  refine (shown_any _).mono ?_
  rintro e w1 ⟨rfl, hb⟩
  have G1 := hide hb
  clear hb
  have G0 : Hid (Grow w1 (w1.alloc (.cells #[] 26))) := hide (Grow.alloc' _ _)
  have O0 : Hid (OwnRV (w1.alloc (.cells #[] 26)) w1.heap.size (some ⟨w1.heap.size, 0, none⟩) 0 0 []) := hide (.of (OwnR.lit0 w1 _ (Nat.le_refl _)) rfl)
  go_wp2_with fail
  go_loopw [4, 5] (fun v i wr => ∃ (k : Nat) (sl : Option Addr) (cl : Nat), k ≤ N ∧ v = .slice sl k cl ∧ i = .int .i64 k ∧ Grow w1 wr ∧ OwnRV wr w1.heap.size sl k cl (onesR l k)) (fun _ i _ => N - (intOf i).toNat)
  case atStart => exact ⟨0, _, 0, Nat.zero_le _, rfl, rfl, G0.out, O0.out⟩
  case round =>
    obtain ⟨k, sl, cl, hk, rfl, rfl, hg, hO⟩ := hrel
    have HG := hide hg
    have HO := hide hO
    have hsz := hg.size
    clear hO
    by_cases hlt : k < N
    · obtain ⟨b, o, hs1, hr1⟩ := HD.out.resolve_left (by omega)
      subst hs1
      have p0 := cell_later (Grow.trans' G1.out hg) (hr1 k (by omega))
      have HST := hide (onesR_step l k)
      obtain ⟨x, hx⟩ : ∃ x, x = l k := ⟨_, rfl⟩
      rw [← hx] at p0 HST
      obtain ⟨z, hz⟩ : ∃ z, Int.tmod x 1099511627776 = z := ⟨_, rfl⟩
      rw [hz] at HST
      have hi1 : (0 : Int) ≤ (k : Int) := by omega
      have hi2 : (k : Int) < (n : Int) := by omega
      have hi3 : (k : Int) < 60 := by omega
      clear hr1 hx hg
      rename World => wr
      go_wp2_with (at_builtin; refine wpList_apd_rc rfl _ _ rfl w1.heap.size sl k cl (onesR l k) [⟨(k : Int), z⟩] rfl (HO.out.later (Grow.alloc' _ _)) (some ⟨wr.heap.size, 0, none⟩) 1 1 rfl ⟨rfl, Nat.le_refl _, .inr ⟨_, _, rfl, RowR_one wr ⟨(k : Int), z⟩⟩⟩ (by omega) (by simp; omega) ?_)
      intro s3 c3 w3 h3 gb
      have G3 := hide (gb.grow (Grow.trans' HG.out (Grow.alloc' _ _)) (Nat.le_refl _))
      have O3 : Hid (OwnRV w3 w1.heap.size s3 (k + 1) c3 (onesR l (k + 1))) := hide (by rw [HST.out]; exact h3)
      clear h3 gb p0 HO HG HST hz
      go_wp2_with fail
      go_roundw
      case rel => exact ⟨k + 1, s3, c3, by omega, rfl, by go_num, G3.out, O3.out⟩
      case measure => simp [intOf]; omega
    · have hkN : k = N := by omega
      have hout : (¬ (k : Int) < (n : Int)) ∨ ((k : Int) < (n : Int) ∧ ¬ (k : Int) < 60) := by omega
      have I2 := hide HO.out.is
      have hkb : k ≤ 60 := by omega
      have G2 := hide (Grow.trans' G1.out HG.out)
      clear hg HO HG hsz hkN hlt hk
      rename World => w2
      rcases hout with hi2 | ⟨hi2, hi3⟩
      · go_wp2_with fail
        go_loopw [6] (fun i wr => ∃ q : Nat, 1 ≤ q ∧ q ≤ 5 ∧ i = .int .i64 q ∧ Grow w2 wr) (fun i _ => 5 - (intOf i).toNat)
        case atStart => exact ⟨1, by omega, by omega, rfl, Grow.rfl' _⟩
        case round =>
          obtain ⟨q, hq1, hq5, rfl, hg⟩ := hrel
          have HG := hide hg
          by_cases hlq : q ≤ 4
          · have ha : mayRedB (q : Int) = true := by simp [mayRedB]; omega
            have HRE := hide (ones_red ha l k hkb)
            have hi4 : (q : Int) ≤ 4 := by omega
            have C4 := hide (red_at (q : Int) sl k cl (onesR l k) wr (by omega) (ones_may l k hkb) (I2.out.later hg))
            rw [HRE.out] at C4
            clear ha hg
            go_wp2_with fail
            refine (C4.out).mono ?_
            rintro _ w4 ⟨s4, n4, c4, rfl, hb, hI⟩
            have hn4 : k = n4 := by rw [← hI.1, List.length_map, onesR_len]
            subst hn4
            have G4 := hide (Grow.trans' HG.out hb)
            have X4 := hide hI
            have R4 := hide (I2.out.later G4.out)
            clear hb hI C4 HG
            go_wp2_with fail
            go_loopw [8] (fun i wr => ∃ j : Nat, j ≤ k ∧ i = .int .i64 j ∧ Grow w4 wr) (fun i _ => k - (intOf i).toNat)
            case atStart => exact ⟨0, Nat.zero_le _, rfl, Grow.rfl' _⟩
            case round =>
              obtain ⟨j, hj, rfl, hg⟩ := hrel
              have HG := hide hg
              by_cases hlj : j < k
              · have hjR : j < (onesR l k).length := by rw [onesR_len]; exact hlj
                have hjX : j < ((onesR l k).map (oneX (q : Int))).length := by rw [List.length_map]; exact hjR
                have hne : ¬ onesR l k = [] := fun h => by rw [h] at hjR; simp at hjR
                have hne' : ¬ (onesR l k).map (oneX (q : Int)) = [] := fun h => by rw [h] at hjX; simp at hjX
                obtain ⟨bx, ox, hsx, hrx⟩ := X4.out.2.2.resolve_left hne'
                obtain ⟨br, or', hsr, hrr⟩ := R4.out.2.2.resolve_left hne
                subst hsx hsr
                obtain ⟨x0, x1⟩ := (hrx.later hg).at j hjX
                obtain ⟨r0, r1⟩ := (hrr.later hg).at j hjR
                rw [List.getElem_map, onesR_get] at x0 x1
                rw [onesR_get] at r0 r1
                dsimp only [oneX] at x0 x1 r0 r1
                obtain ⟨z, hz⟩ : ∃ z, Int.tmod (l j) 1099511627776 = z := ⟨_, rfl⟩
                rw [hz] at x1 r1
                have hj1 : (0 : Int) ≤ (j : Int) := by omega
                have hj2 : (j : Int) < (k : Int) := by omega
                clear hne hne' hrx hrr hz hg hjR hjX
                by_cases hqq : q = 1
                · have hqi : (q : Int) = 1 := by omega
                  rw [if_pos hqi] at x1
                  have he : ((q : Int) == 1) = true := by simpa using hqi
                  have hd1 : decide (1 < (q : Int)) = false := by simp; omega
                  have hd2 : decide (1 < q) = false := by simp; omega
                  have he2 : (q == 1) = true := by simpa using hqq
                  have hqo : ¬ 1 < q := by omega
                  have HQQ := hide hqq
                  clear hqi hqq
                  go_wp2
                  go_quiet (fail)
                  have G5 := hide (Grow.trans' HG.out (below_drewN (Below.refl _ _) nq))
                  clear x0 x1 r0 r1 HG
                  generalize wr.drewN nq = wz at *
                  go_wp2_with fail
                  go_roundw
                  case rel => exact ⟨j + 1, by omega, by go_num, G5.out⟩
                  case measure => simp [intOf]; omega
                · have hqi : ¬ (q : Int) = 1 := by omega
                  rw [if_neg hqi] at x1
                  have he : ((q : Int) == 1) = false := by simpa using hqi
                  have hd1 : decide (1 < (q : Int)) = true := by simp; omega
                  have hd2 : decide (1 < q) = true := by simp; omega
                  have he2 : (q == 1) = false := by simpa using hqq
                  have hqo : 1 < q := by omega
                  clear hqq
                  go_wp2
                  go_quiet (fail)
                  have G5 := hide (Grow.trans' HG.out (below_drewN (Below.refl _ _) nq))
                  clear x0 x1 r0 r1 HG
                  generalize wr.drewN nq = wz at *
                  go_wp2_with fail
                  go_roundw
                  case rel => exact ⟨j + 1, by omega, by go_num, G5.out⟩
                  case measure => simp [intOf]; omega
              · have hj2 : ¬ (j : Int) < (k : Int) := by omega
                clear hg
                go_wp2_with fail
                go_roundw
                case rel => exact ⟨q + 1, by omega, by omega, by go_num, Grow.trans' G4.out HG.out⟩
                case measure => simp [intOf]; omega
          · have hi4 : ¬ (q : Int) ≤ 4 := by omega
            clear hg
            go_wp2_with fail
            go_ret
            exact ⟨rfl, Grow.trans' G2.out HG.out⟩
      · go_wp2_with fail
        go_loopw [6] (fun i wr => ∃ q : Nat, 1 ≤ q ∧ q ≤ 5 ∧ i = .int .i64 q ∧ Grow w2 wr) (fun i _ => 5 - (intOf i).toNat)
        case atStart => exact ⟨1, by omega, by omega, rfl, Grow.rfl' _⟩
        case round =>
          obtain ⟨q, hq1, hq5, rfl, hg⟩ := hrel
          have HG := hide hg
          by_cases hlq : q ≤ 4
          · have ha : mayRedB (q : Int) = true := by simp [mayRedB]; omega
            have HRE := hide (ones_red ha l k hkb)
            have hi4 : (q : Int) ≤ 4 := by omega
            have C4 := hide (red_at (q : Int) sl k cl (onesR l k) wr (by omega) (ones_may l k hkb) (I2.out.later hg))
            rw [HRE.out] at C4
            clear ha hg
            go_wp2_with fail
            refine (C4.out).mono ?_
            rintro _ w4 ⟨s4, n4, c4, rfl, hb, hI⟩
            have hn4 : k = n4 := by rw [← hI.1, List.length_map, onesR_len]
            subst hn4
            have G4 := hide (Grow.trans' HG.out hb)
            have X4 := hide hI
            have R4 := hide (I2.out.later G4.out)
            clear hb hI C4 HG
            go_wp2_with fail
            go_loopw [8] (fun i wr => ∃ j : Nat, j ≤ k ∧ i = .int .i64 j ∧ Grow w4 wr) (fun i _ => k - (intOf i).toNat)
            case atStart => exact ⟨0, Nat.zero_le _, rfl, Grow.rfl' _⟩
            case round =>
              obtain ⟨j, hj, rfl, hg⟩ := hrel
              have HG := hide hg
              by_cases hlj : j < k
              · have hjR : j < (onesR l k).length := by rw [onesR_len]; exact hlj
                have hjX : j < ((onesR l k).map (oneX (q : Int))).length := by rw [List.length_map]; exact hjR
                have hne : ¬ onesR l k = [] := fun h => by rw [h] at hjR; simp at hjR
                have hne' : ¬ (onesR l k).map (oneX (q : Int)) = [] := fun h => by rw [h] at hjX; simp at hjX
                obtain ⟨bx, ox, hsx, hrx⟩ := X4.out.2.2.resolve_left hne'
                obtain ⟨br, or', hsr, hrr⟩ := R4.out.2.2.resolve_left hne
                subst hsx hsr
                obtain ⟨x0, x1⟩ := (hrx.later hg).at j hjX
                obtain ⟨r0, r1⟩ := (hrr.later hg).at j hjR
                rw [List.getElem_map, onesR_get] at x0 x1
                rw [onesR_get] at r0 r1
                dsimp only [oneX] at x0 x1 r0 r1
                obtain ⟨z, hz⟩ : ∃ z, Int.tmod (l j) 1099511627776 = z := ⟨_, rfl⟩
                rw [hz] at x1 r1
                have hj1 : (0 : Int) ≤ (j : Int) := by omega
                have hj2 : (j : Int) < (k : Int) := by omega
                clear hne hne' hrx hrr hz hg hjR hjX
                by_cases hqq : q = 1
                · have hqi : (q : Int) = 1 := by omega
                  rw [if_pos hqi] at x1
                  have he : ((q : Int) == 1) = true := by simpa using hqi
                  have hd1 : decide (1 < (q : Int)) = false := by simp; omega
                  have hd2 : decide (1 < q) = false := by simp; omega
                  have he2 : (q == 1) = true := by simpa using hqq
                  have hqo : ¬ 1 < q := by omega
                  have HQQ := hide hqq
                  clear hqi hqq
                  go_wp2
                  go_quiet (fail)
                  have G5 := hide (Grow.trans' HG.out (below_drewN (Below.refl _ _) nq))
                  clear x0 x1 r0 r1 HG
                  generalize wr.drewN nq = wz at *
                  go_wp2_with fail
                  go_roundw
                  case rel => exact ⟨j + 1, by omega, by go_num, G5.out⟩
                  case measure => simp [intOf]; omega
                · have hqi : ¬ (q : Int) = 1 := by omega
                  rw [if_neg hqi] at x1
                  have he : ((q : Int) == 1) = false := by simpa using hqi
                  have hd1 : decide (1 < (q : Int)) = true := by simp; omega
                  have hd2 : decide (1 < q) = true := by simp; omega
                  have he2 : (q == 1) = false := by simpa using hqq
                  have hqo : 1 < q := by omega
                  clear hqq
                  go_wp2
                  go_quiet (fail)
                  have G5 := hide (Grow.trans' HG.out (below_drewN (Below.refl _ _) nq))
                  clear x0 x1 r0 r1 HG
                  generalize wr.drewN nq = wz at *
                  go_wp2_with fail
                  go_roundw
                  case rel => exact ⟨j + 1, by omega, by go_num, G5.out⟩
                  case measure => simp [intOf]; omega
              · have hj2 : ¬ (j : Int) < (k : Int) := by omega
                clear hg
                go_wp2_with fail
                go_roundw
                case rel => exact ⟨q + 1, by omega, by omega, by go_num, Grow.trans' G4.out HG.out⟩
                case measure => simp [intOf]; omega
          · have hi4 : ¬ (q : Int) ≤ 4 := by omega
            clear hg
            go_wp2_with fail
            go_ret
            exact ⟨rfl, Grow.trans' G2.out HG.out⟩

set_option maxRecDepth 100000 in
theorem FnOnes_lifted (os : Os) (started : os.Started) (H : Type) (enc : TypeId × Value → H) :
    ReturnsInHanded {} Try.checked os 3 .any (Rows.fnOnesSpec.pre6 enc Try.prog Try.f3 Rows.fnOnesRow.domain false) (Rows.fnOnesSpec.post enc Try.prog Try.f3 false true false false) := by
  refine returnsInHanded_of_change (C := Try.checked) own started (by kernel_rfl) Try.func3
    (ChangeSpec.witness6 (enc := enc) (C := Try.checked) false ⟨#[], #[.slice none 0 0], []⟩ 8 (by kernel_rfl) (by kernel_rfl) (by kernel_rfl) (by kernel_rfl)) ?_
  intro W base args ds gs before hval0 hW hcnd _
  have hval : ∀ (j : Nat) t v, Try.f3.params[j]? = some t → args[j]? = some v → Value.okWide Try.prog W .any base t v := hval0
  have hW' := hW
  obtain ⟨p, q, hA0, hV, rfl, hfz, hnd⟩ := hW
  have hA : DataW.TrodAll enc Try.prog W 0 (fun _ => true) true Try.f3.params.toList args.toList ds p := hA0
  rw [Try.params3] at hA hval
  obtain ⟨v0, vs0, d0, ds0, p0, q0, hargs, rfl, rfl, h0, r0⟩ := trodAll_cons hA
  obtain ⟨rfl, rfl, rfl⟩ := trodAll_nil r0
  obtain rfl : args = #[v0] := by cases args; simp_all
  obtain ⟨rfl, rfl⟩ := trodVars_none hV
  have k0 := h0
  have lt0 : ∀ x ∈ p0, x.block < W.heap.size := by obtain ⟨m, hm⟩ := k0; exact DataW.trod_lt m _ _ _ hm
  obtain ⟨s0, len0, cap0, rfl⟩ := okWide_slice Try.underlying22 (hval 0 22 v0 rfl rfl)
  obtain ⟨z0, w0⟩ := rows_ints h0
  clear hA0 hval0
  refine (FnOnes_any s0 len0 cap0 z0 W w0).mono fun e W' ⟨he, bel⟩ => ?_
  subst he
  exact ⟨_, rfl, _, _, _, [], _, [], hW', trodAll_mk1 (shut_bool Try.underlying4 _), (trodAll_cons_mk (Below.trod laidOut (by kernel_rfl) (of_decide_eq_true (by kernel_rfl)) k0 bel lt0) trodAll_mk0), rfl, bel.frame _, fun h => by cases h⟩

/-- The given statement. -/
theorem FnOnes_holds : Rows.FnOnesSaid :=
  OpenClaim.holds_of_wide 3 Try.f3 rfl rfl rfl rfl rfl rfl rfl ⟨rfl, rfl, rfl, rfl, rfl⟩ rfl rfl rfl rfl rfl (by kernel_rfl) Try.func3 (by kernel_rfl)
    (of_decide_eq_true (by kernel_rfl)) (by unfold Func.isWrapper; first | (rw [if_pos (by decide +kernel)]; kernel_rfl) | (rw [if_neg (by decide +kernel)]; exact ⟨rfl, rfl⟩))
    (fun os started H enc _ => FnOnes_lifted os started H enc)


end Go.Proofs.Ythkkjhjbojbbaab
