/-
  FnHolds: for every two numbers, every row of records (the first hundred, those that may be) and every number of ways: what comes of records that may be may be; in whatever order (the reverse one) they stand Reduce tells the same, and of just their keys; a key's route is one of the ways; the call returns true and leaves its arguments as they were. No conditions.
-/
import Derived.Test.YthkkjhjbojbbaaaFHd
import Derived.Test.YthkkjhjbojbbaaaFRow
import Derived.Test.YthkkjhjbojbbaaaGRk
namespace Go.Proofs.Ythkkjhjbojbbaaa
set_option maxRecDepth 100000
open Go.ChangeShapes Go.WideShapes Go.ChangeAt Go.RowKit Go.Deep Go.Sort
attribute [local go_sem ↓] run_maxI
set_option linter.unusedVariables false
set_option linter.unusedSimpArgs false

theorem route_g (k m : Int) (hB : m ≤ 9223372036854775807) {z : Int} (hz : routeI k m = z) (w : World) :
    Calls Try.prog 25 #[.int .i64 k, .int .i64 m] w fun e w' => e = .returned (.int .i64 z) ∧ Grow w w' := (route_at k m hB hz w).mono fun e w' ⟨h, k⟩ => ⟨h, by rw [k]; exact Grow.rfl' _⟩
theorem wf_le {k : Int} (h : (Lit.int .i64 k).wf = true) : k ≤ 9223372036854775807 := by
  unfold Lit.wf at h
  simp at h
  exact h.2
theorem back_step (L : List Rc) (k : Nat) (hk : k < L.length) : (L.drop k).reverse = (L.drop (k + 1)).reverse ++ [L[k]] := by
  rw [List.drop_eq_getElem_cons hk, List.reverse_cons]
/-- The row that came in, and the number of ways, in their box. -/
def BoxW (w : World) (b : Nat) (s : Option Addr) (n cap : Nat) (m : Int) : Prop := w.cell? ⟨b, 0, none⟩ = some (.slice s n cap) ∧ w.cell? ⟨b, 1, none⟩ = some (.int .i64 m)
theorem BoxW.later {w w' : World} {b : Nat} {s : Option Addr} {n cap : Nat} {m : Int} (hg : Grow w w') (h : BoxW w b s n cap m) : BoxW w' b s n cap m := ⟨cell_later hg h.1, cell_later hg h.2⟩
set_option maxHeartbeats 8000000 in
theorem FnHolds_any (a b : Int) (s : Option Addr) (n cap : Nat) (d : List Rc) (m : Int) (w : World) (hB : m ≤ 9223372036854775807) (hd : IsRcs w s n cap d) :
    Calls Try.prog 5 #[.int .i64 a, .int .i64 b, .agg #[.slice s n cap, .int .i64 m]] w fun e w' => e = .returned (.bool true) ∧ Grow w w' := by
  have G0 : Hid (Grow w (w.alloc (.cells #[.slice s n cap, .int .i64 m] 38))) := hide (Grow.alloc' _ _)
  have K0 : Hid (BoxW (w.alloc (.cells #[.slice s n cap, .int .i64 m] 38)) w.heap.size s n cap m) := hide (by simp [BoxW, go_sem])
  have HD := hide (hd.later G0.out)
  clear hd
  go_enter Try.func5, Try.ntmps5
  go_wp2_with fail
  generalize w.alloc (.cells #[.slice s n cap, .int .i64 m] 38) = w0 at *
  generalize w.heap.size = P at *
  refine (shown_any _).mono ?_
  rintro e w1 ⟨rfl, hb⟩
  have G1 := hide (Grow.trans' G0.out hb)
  have K1 := hide (K0.out.later hb)
  have C1 := hide (few_at s n cap d w1 (HD.out.later hb))
  obtain ⟨p0, p1⟩ := K1.out
  clear hb G0 K0 HD
  go_wp2_with fail
  refine (C1.out).mono ?_
  rintro _ w2 ⟨s1, n1, c1, rfl, hb, hI, hn1⟩
  have G2 := hide (Grow.trans' G1.out hb)
  have K2 := hide (K1.out.later hb)
  obtain ⟨L, hL⟩ : ∃ L, L = fewR d := ⟨_, rfl⟩
  rw [← hL] at hI
  have I2 := hide hI
  have HLM := hide (show ∀ r ∈ L, mayR r = true by rw [hL]; exact fewR_may d)
  have HLL := hide hI.1
  clear hb hI hL C1 G1 K1 p0 p1
  have E0 : Hid (OwnRV (w2.alloc (.cells #[] 23)) w2.heap.size (some ⟨w2.heap.size, 0, none⟩) 0 0 []) := hide (.of (OwnR.lit0 w2 _ (Nat.le_refl _)) rfl)
  have GE : Hid (Grow w2 (w2.alloc (.cells #[] 23))) := hide (Grow.alloc' _ _)
  have hw1 : IntKind.i64.wrap ((n1 : Int) - 1) = (n1 : Int) - 1 := IntWalk.i64_in _ ⟨by omega, by omega⟩
  go_wp2_with fail
  clear hw1
  go_loopw [9, 10] (fun v i wr => ∃ (j : Nat) (sl : Option Addr) (ml cl : Nat), j ≤ n1 ∧ ml + j = n1 ∧ v = .slice sl ml cl ∧ i = .int .i64 ((j : Int) - 1) ∧ Grow w2 wr ∧ OwnRV wr w2.heap.size sl ml cl (L.drop j).reverse) (fun _ i _ => (intOf i + 1).toNat)
  case atStart => exact ⟨n1, _, 0, 0, Nat.le_refl _, by omega, rfl, rfl, GE.out, by rw [List.drop_of_length_le (by rw [HLL.out]; exact Nat.le_refl _)]; exact E0.out⟩
  case round =>
    obtain ⟨j, sl, ml, cl, hj, hmj, rfl, rfl, hg, hO⟩ := hrel
    have HG := hide hg
    have HO := hide hO
    have HMJ := hide hmj
    have hmb : ml ≤ 100 := by omega
    have hsz := hg.size
    clear hO hmj
    by_cases hlt : 0 < j
    · obtain ⟨k, rfl⟩ : ∃ k, j = k + 1 := ⟨j - 1, by omega⟩
      have hki : ((k + 1 : Nat) : Int) - 1 = (k : Int) := by omega
      rw [hki]
      have hkL : k < L.length := by rw [HLL.out]; omega
      have hne : ¬ L = [] := fun h => by rw [h] at hkL; simp at hkL
      obtain ⟨bb, o, hs1, hr1⟩ := I2.out.2.2.resolve_left hne
      subst hs1
      have HR := hide hr1
      obtain ⟨p0, p1⟩ := (hr1.later hg).at k hkL
      have HST := hide (back_step L k hkL)
      have hmx := HLM.out L[k] (List.getElem_mem _)
      obtain ⟨x, hx⟩ : ∃ x, x = L[k] := ⟨_, rfl⟩
      rw [← hx] at p0 p1 HST hmx
      have HX := hide hx
      have HMX := hide hmx
      have hi1 : (0 : Int) ≤ (k : Int) := by omega
      have hi2 : (k : Int) < (n1 : Int) := by omega
      have hkb : k ≤ 100 := by omega
      have hwk : IntKind.i64.wrap ((k : Int) - 1) = (k : Int) - 1 := IntWalk.i64_in _ ⟨by omega, by omega⟩
      clear hne hr1 hx hg hmx hki hlt
      rename World => wr
      go_wp2_with (at_builtin; refine wpList_apd_rc rfl _ _ rfl w2.heap.size sl ml cl ((L.drop (k + 1)).reverse) [x] rfl (HO.out.later (Grow.alloc' _ _)) (some ⟨wr.heap.size, 0, none⟩) 1 1 rfl ⟨rfl, Nat.le_refl _, .inr ⟨_, _, rfl, RowR_one wr x⟩⟩ (by omega) (by simp; omega) ?_)
      intro s3 c3 w3 h3 gb
      have G3 := hide (gb.grow (Grow.trans' HG.out (Grow.alloc' _ _)) (Nat.le_refl _))
      have O3 : Hid (OwnRV w3 w2.heap.size s3 (ml + 1) c3 (L.drop k).reverse) := hide (by rw [HST.out]; exact h3)
      clear h3 gb p0 p1 HO HG HST hsz
      obtain ⟨p0, p1⟩ := (HR.out.later G3.out).at k hkL
      rw [← HX.out] at p0 p1
      obtain ⟨y, hy⟩ : ∃ y, y = mapR a b x := ⟨_, rfl⟩
      have HYM := hide (show mayR y = true by rw [hy]; exact mapR_may a b x HMX.out)
      have C4 := hide (map_is a b x HMX.out hy.symm w3)
      clear hy
      go_wp2_with fail
      refine (C4.out).mono ?_
      rintro _ w4 ⟨rfl, hb⟩
      have KM : Hid (Box (w4.alloc (.cells #[.int .i64 y.k, .int .i64 y.v] 23)) w4.heap.size y) := hide (Box.new w4 y)
      have G4 : Hid (Grow w2 (w4.alloc (.cells #[.int .i64 y.k, .int .i64 y.v] 23))) := hide (Grow.trans' (Grow.trans' G3.out hb) (Grow.alloc' _ _))
      have O4 := hide ((O3.out.later hb).later (Grow.alloc' w4 (.cells #[.int .i64 y.k, .int .i64 y.v] 23)))
      clear hb C4 O3 G3 p0 p1
      obtain ⟨q0, q1⟩ := KM.out
      have C5 := hide (refMay_any y (w4.alloc (.cells #[.int .i64 y.k, .int .i64 y.v] 23)))
      rw [HYM.out] at C5
      go_wp2_with fail
      refine (C5.out).mono ?_
      rintro _ w5 ⟨rfl, hb⟩
      have G5 := hide (Grow.trans' G4.out hb)
      have O5 := hide (O4.out.later hb)
      have KW := hide (K2.out.later G5.out)
      have R5 := hide (HR.out.later G5.out)
      clear hb q0 q1 C5 KM G4 O4
      obtain ⟨z, hz⟩ : ∃ z, routeI x.k m = z := ⟨_, rfl⟩
      have hzi := routeI_in x.k m
      rw [hz] at hzi
      have Q1 := hide (fun dd os => Calls.regrown_of (route_g x.k m hB hz (grow (redrawn w5 dd) os)))
      clear hz
      obtain ⟨x0, x1⟩ := R5.out.at k hkL
      rw [← HX.out] at x0 x1
      obtain ⟨y0, y1⟩ := KW.out
      have sx0 := cell_regrown x0; have sx1 := cell_regrown x1; have sy0 := cell_regrown y0; have sy1 := cell_regrown y1
      go_wp2_with fail
      refine wp_region_quiet_below (by kernel_rfl) (by kernel_rfl) ?_
      repeat (go_big_quiet_step (first | (go_at_call 25; exact Q1.out _ _)))
      refine wpQuiet_nil ?_
      intro _ hw'
      obtain ⟨⟨dq, osq⟩, hw''⟩ := hw'
      subst hw''
      have B6 := hide (below_regrown w5 dq osq)
      have G6 := hide (Grow.trans' G5.out B6.out)
      have O6 := hide (O5.out.later B6.out)
      have KW6 := hide (KW.out.later B6.out)
      have R6 := hide (R5.out.later B6.out)
      clear sx0 sx1 sy0 sy1 x0 x1 y0 y1 Q1 B6 G5 O5 KW R5
      generalize grow (redrawn w5 dq) osq = w6 at *
      obtain ⟨x0, x1⟩ := R6.out.at k hkL
      rw [← HX.out] at x0 x1
      obtain ⟨y0, y1⟩ := KW6.out
      obtain ⟨M1, hM1⟩ : ∃ M1, M1 = maxI 1 m := ⟨_, rfl⟩
      rw [← hM1] at hzi
      have hz0 : ¬ z < 0 := by omega
      have hz1 : ¬ M1 ≤ z := by omega
      have hb3 : b < -1000 ∨ (-1000 ≤ b ∧ 1000 < b) ∨ (-1000 ≤ b ∧ b ≤ 1000) := by omega
      clear hzi
      rcases hb3 with hb1 | ⟨hb1, hb2⟩ | ⟨hb1, hb2⟩
      · have C6 := hide (fil_any 4 b x (p := false) (by simp [filR, mayFilB]; try omega) w6)
        go_wp2_with fail
        refine (C6.out).mono ?_
        rintro _ w7 ⟨rfl, hb⟩
        have G7 := hide (Grow.trans' G6.out hb)
        have O7 := hide (O6.out.later hb)
        clear hb C6 x0 x1 y0 y1 G6 O6
        rw [← hM1]
        clear hM1
        go_wp2_with fail
        go_roundw
        case rel => exact ⟨k, s3, ml + 1, c3, by omega, by have := HMJ.out; omega, rfl, rfl, G7.out, O7.out⟩
        case measure => simp [intOf]
      · have C6 := hide (fil_any 4 b x (p := false) (by simp [filR, mayFilB]; try omega) w6)
        go_wp2_with fail
        refine (C6.out).mono ?_
        rintro _ w7 ⟨rfl, hb⟩
        have G7 := hide (Grow.trans' G6.out hb)
        have O7 := hide (O6.out.later hb)
        clear hb C6 x0 x1 y0 y1 G6 O6
        rw [← hM1]
        clear hM1
        go_wp2_with fail
        go_roundw
        case rel => exact ⟨k, s3, ml + 1, c3, by omega, by have := HMJ.out; omega, rfl, rfl, G7.out, O7.out⟩
        case measure => simp [intOf]
      · have C6 := hide (fil_any 4 b x (p := true) (by simp [filR, mayFilB]; try omega) w6)
        go_wp2_with fail
        refine (C6.out).mono ?_
        rintro _ w7 ⟨rfl, hb⟩
        have G7 := hide (Grow.trans' G6.out hb)
        have O7 := hide (O6.out.later hb)
        clear hb C6 x0 x1 y0 y1 G6 O6
        rw [← hM1]
        clear hM1
        go_wp2_with fail
        go_roundw
        case rel => exact ⟨k, s3, ml + 1, c3, by omega, by have := HMJ.out; omega, rfl, rfl, G7.out, O7.out⟩
        case measure => simp [intOf]
    · have hj0 : j = 0 := by omega
      subst hj0
      rw [List.drop_zero] at HO
      have I3 := hide HO.out.is
      have HPR := hide (redR_perm a (List.reverse_perm L))
      have C3 := hide (red_at a s1 n1 c1 L wr (by omega) HLM.out (I2.out.later hg))
      clear hg HO
      go_wp2_with fail
      refine (C3.out).mono ?_
      rintro _ w3 ⟨sp, np, cp, rfl, hb, hI⟩
      have G3 := hide (Grow.trans' HG.out hb)
      have P3 := hide hI
      have C4 := hide (red_at a sl ml cl L.reverse w3 (by omega) (fun r hr => HLM.out r (List.mem_reverse.1 hr)) (I3.out.later hb))
      have hnp : np ≤ 100 := by
        have h1 := redR_le a L
        rw [hI.1, HLL.out] at h1
        omega
      rw [HPR.out] at C4
      clear hb hI C3 HG I3 HPR
      go_wp2_with fail
      refine (C4.out).mono ?_
      rintro _ w4 ⟨sq, nq, cq, rfl, hb, hI⟩
      have G4 := hide (Grow.trans' G3.out hb)
      have P4 := hide (P3.out.later hb)
      have C5 := hide (rowR_any sp sq cp cq np nq (redR a L) (redR a L) true (by simp) w4 (by omega) P4.out hI)
      clear hb hI C4 G3 P3
      go_wp2_with fail
      refine (C5.out).mono ?_
      rintro _ w5 ⟨rfl, hb⟩
      have G5 := hide (Grow.trans' G4.out hb)
      have P5 := hide (P4.out.later hb)
      have C6 := hide (refKeys_at s1 n1 c1 L w5 (by omega) (I2.out.later G5.out))
      clear hb C5 G4 P4
      go_wp2_with fail
      refine (C6.out).mono ?_
      rintro _ w6 ⟨sk, nk, ck, rfl, hb, hI⟩
      have G6 := hide (Grow.trans' G2.out (Grow.trans' G5.out hb))
      have P6 := hide (P5.out.later hb)
      have KY6 := hide hI
      have hnk : nk ≤ 100 := by
        have h1 := keysR_len L
        rw [hI.len, HLL.out] at h1
        omega
      clear hb hI C6 G5 P5
      have HKA : Hid (mayRedB a = true → np = nk ∧ ∀ i (h1 : i < (redR a L).length) (h2 : i < (keysR L).length), ((redR a L)[i]).k = (keysR L)[i]) := hide (fun ha => by
        have h1 := redR_keys ha L
        refine ⟨by rw [← P6.out.1, ← KY6.out.len, ← h1, List.length_map], fun i q1 q2 => ?_⟩
        have h2 : ((redR a L).map (·.k))[i]? = (keysR L)[i]? := by rw [h1]
        simp [q1, q2] at h2
        exact h2)
      have HKN : Hid (mayRedB a = false → np = 0) := hide (fun ha => by
        rw [← P6.out.1]
        unfold redR
        rw [ha]
        rfl)
      have HRM := hide (redR_may a (by rw [HLL.out]; omega) HLM.out)
      go_wp2_with fail
      go_loopw [18] (fun i wr => ∃ k : Nat, k ≤ np ∧ i = .int .i64 k ∧ Grow w6 wr) (fun i _ => np - (intOf i).toNat)
      case atStart => exact ⟨0, Nat.zero_le _, rfl, Grow.rfl' _⟩
      case round =>
        obtain ⟨k, hk, rfl, hg⟩ := hrel
        have HG := hide hg
        by_cases hlt2 : k < np
        · have ha : mayRedB a = true := by
            cases ha : mayRedB a
            · have := HKN.out ha; omega
            · rfl
          obtain ⟨hnn, hkk⟩ := HKA.out ha
          have hkp : k < (redR a L).length := by rw [P6.out.1]; exact hlt2
          have hkq : k < (keysR L).length := by rw [KY6.out.len]; omega
          have hne : ¬ redR a L = [] := fun h => by rw [h] at hkp; simp at hkp
          have hne' : ¬ keysR L = [] := fun h => by rw [h] at hkq; simp at hkq
          obtain ⟨bp, op, hsp, hrp⟩ := P6.out.2.2.resolve_left hne
          obtain ⟨bk, ok, hsk, hrk⟩ := KY6.out.row.resolve_left hne'
          subst hsp hsk
          have HRP := hide hrp
          have hck := hrk k hkq
          have HCK := hide hck
          obtain ⟨p0, p1⟩ := (hrp.later hg).at k hkp
          have hmx := HRM.out _ (List.getElem_mem hkp)
          have hkx := hkk k hkp hkq
          obtain ⟨x, hx⟩ : ∃ x, x = (redR a L)[k] := ⟨_, rfl⟩
          obtain ⟨c, hc⟩ : ∃ c, c = (keysR L)[k] := ⟨_, rfl⟩
          rw [← hx] at p0 p1 hmx hkx
          rw [← hc] at hkx HCK
          have HX := hide hx
          have hi1 : (0 : Int) ≤ (k : Int) := by omega
          have hi2 : (k : Int) < (np : Int) := by omega
          have hi3 : (k : Int) < (nk : Int) := by omega
          have C7 := hide (refMay_any x wr)
          rw [hmx] at C7
          have HKX := hide hkx
          clear hne hne' hrp hrk hck hx hc hg hmx hnn hkk hkx
          go_wp2_with fail
          refine (C7.out).mono ?_
          rintro _ w7 ⟨rfl, hb⟩
          have G7 := hide (Grow.trans' HG.out hb)
          clear hb C7 p0 p1 HG
          obtain ⟨x0, x1⟩ := (HRP.out.later G7.out).at k hkp
          rw [← HX.out] at x0 x1
          have y0 := cell_later G7.out HCK.out
          have d1 : decide ((nk : Int) ≤ (k : Int)) = false := by simp; omega
          have d2 : decide (nk ≤ k) = false := by simp; omega
          have d3 : (x.k != c) = false := by simp [HKX.out]
          go_wp2
          go_quiet (fail)
          have G8 := hide (Grow.trans' G7.out (below_drewN (Below.refl _ _) nq))
          clear x0 x1 y0 G7
          generalize w7.drewN nq = wz at *
          go_wp2_with fail
          go_roundw
          case rel => exact ⟨k + 1, by omega, by go_num, G8.out⟩
          case measure => simp [intOf]; omega
        · have hi2 : ¬ (k : Int) < (np : Int) := by omega
          clear hg
          cases ha : mayRedB a
          · have hna : a < 1 ∨ (1 ≤ a ∧ 4 < a) := by simp [mayRedB] at ha; omega
            have hnp0 : np = 0 := HKN.out ha
            by_cases hnk0 : nk = 0
            · have hen : ((np : Int) == (nk : Int)) = true := by simp; omega
              go_wp2_with fail
              go_ret
              exact ⟨rfl, Grow.trans' G6.out HG.out⟩
            · have hen : ((np : Int) == (nk : Int)) = false := by simp; omega
              rcases hna with h1 | ⟨h1, h2⟩
              · go_wp2_with fail
                go_ret
                exact ⟨rfl, Grow.trans' G6.out HG.out⟩
              · go_wp2_with fail
                go_ret
                exact ⟨rfl, Grow.trans' G6.out HG.out⟩
          · have hen : ((np : Int) == (nk : Int)) = true := by have := (HKA.out ha).1; simp; omega
            go_wp2_with fail
            go_ret
            exact ⟨rfl, Grow.trans' G6.out HG.out⟩

set_option maxRecDepth 100000 in
theorem FnHolds_lifted (os : Os) (started : os.Started) (H : Type) (enc : TypeId × Value → H) :
    ReturnsInHanded {} Try.checked os 5 .any (Rows.fnHoldsSpec.pre6 enc Try.prog Try.f5 Rows.fnHoldsRow.domain false) (Rows.fnHoldsSpec.post enc Try.prog Try.f5 false true false false) := by
  refine returnsInHanded_of_change (C := Try.checked) own started (by kernel_rfl) Try.func5
    (ChangeSpec.witness6 (enc := enc) (C := Try.checked) false ⟨#[], #[.int .i64 0, .int .i64 0, .agg #[.slice none 0 0, .int .i64 0]], []⟩ 8 (by kernel_rfl) (by kernel_rfl) (by kernel_rfl) (by kernel_rfl)) ?_
  intro W base args ds gs before hval0 hW hcnd _
  have hval : ∀ (j : Nat) t v, Try.f5.params[j]? = some t → args[j]? = some v → Value.okWide Try.prog W .any base t v := hval0
  have hW' := hW
  obtain ⟨p, q, hA0, hV, rfl, hfz, hnd⟩ := hW
  have hA : DataW.TrodAll enc Try.prog W 0 (fun _ => true) true Try.f5.params.toList args.toList ds p := hA0
  rw [Try.params5] at hA hval
  obtain ⟨v0, vs0, d0, ds0, p0, q0, hargs, rfl, rfl, h0, r0⟩ := trodAll_cons hA
  obtain ⟨v1, vs1, d1, ds1, p1, q1, rfl, rfl, rfl, h1, r1⟩ := trodAll_cons r0
  obtain ⟨v2, vs2, d2, ds2, p2, q2, rfl, rfl, rfl, h2, r2⟩ := trodAll_cons r1
  obtain ⟨rfl, rfl, rfl⟩ := trodAll_nil r2
  obtain rfl : args = #[v0, v1, v2] := by cases args; simp_all
  obtain ⟨rfl, rfl⟩ := trodVars_none hV
  obtain ⟨a0, rfl, rfl, rfl, w0⟩ := open_int Try.underlying3 (hval 0 3 v0 rfl rfl) h0
  obtain ⟨a1, rfl, rfl, rfl, w1⟩ := open_int Try.underlying3 (hval 1 3 v1 rfl rfl) h1
  have k2 := h2
  have lt2 : ∀ x ∈ p2, x.block < W.heap.size := by obtain ⟨m, hm⟩ := k2; exact DataW.trod_lt m _ _ _ hm
  obtain ⟨t2, rfl, w2⟩ := open_ways (hval 2 38 v2 rfl rfl) h2
  clear hA0 hval0
  refine (FnHolds_any a0 a1 t2.s t2.n t2.cap t2.l t2.k W (wf_le w2.2) w2.1).mono fun e W' ⟨he, bel⟩ => ?_
  subst he
  exact ⟨_, rfl, _, _, _, [], _, [], hW', trodAll_mk1 (shut_bool Try.underlying4 _), (trodAll_cons_mk (shut_int Try.underlying3 w0) (trodAll_cons_mk (shut_int Try.underlying3 w1) (trodAll_cons_mk (Below.trod laidOut (by kernel_rfl) (of_decide_eq_true (by kernel_rfl)) k2 bel lt2) trodAll_mk0))), rfl, bel.frame _, fun h => by cases h⟩

/-- The given statement. -/
theorem FnHolds_holds : Rows.FnHoldsSaid :=
  OpenClaim.holds_of_wide 5 Try.f5 rfl rfl rfl rfl rfl rfl rfl ⟨rfl, rfl, rfl, rfl, rfl⟩ rfl rfl rfl rfl rfl (by kernel_rfl) Try.func5 (by kernel_rfl)
    (of_decide_eq_true (by kernel_rfl)) (by unfold Func.isWrapper; first | (rw [if_pos (by decide +kernel)]; kernel_rfl) | (rw [if_neg (by decide +kernel)]; exact ⟨rfl, rfl⟩))
    (fun os started H enc _ => FnHolds_lifted os started H enc)


end Go.Proofs.Ythkkjhjbojbbaaa
