/-
  WindowEnds: for every two numbers and every epoch: the ends of the epoch's windows rise, by a step each, are not ahead of the epoch, and less than a behind it; an epoch is the end of a window just if it is among its own; where the numbers or the epoch may not be there are none; the call returns true and leaves its arguments as they were. No conditions.
-/
import Derived.Test.YtlnpemjamcpheaaWHd
namespace Go.Proofs.Ytlnpemjamcpheaa
set_option maxRecDepth 100000
open Go.ChangeShapes Go.WideShapes Go.ChangeAt Go.RowKit Go.Deep
set_option linter.unusedVariables false
set_option linter.unusedSimpArgs false

/-- The ends: what each is. -/
theorem ends_get {a b e : Int} (hm : mayW a b = true) (he : inE e = true) (i : Nat) (h : i < ((ofW a b e).map (lastW a b)).length) :
    ((ofW a b e).map (lastW a b))[i] = b * (loW a b e + (i : Int)) + a - 1 ∧ e ≤ ((ofW a b e).map (lastW a b))[i] ∧ ((ofW a b e).map (lastW a b))[i] < e + a := by
  have h' : i < (ofW a b e).length := by simpa using h
  have hmem : (ofW a b e)[i] ∈ ofW a b e := List.getElem_mem h'
  rw [ofW_get] at hmem
  have hlo := lo_small hm he
  have hin := (ofW_mem hm he _).1 hmem
  obtain ⟨a1, a2, b1, b2⟩ := (mayW_iff a b).1 hm
  have hk := (le_hiW b1).2 hin.2.1
  have hi : inE (loW a b e + (i : Int)) = true := by rw [inE_iff]; omega
  have e1 : ((ofW a b e).map (lastW a b))[i] = b * (loW a b e + (i : Int)) + a - 1 := by
    rw [List.getElem_map, ofW_get, lastW_in hm hi]
  rw [e1]
  exact ⟨rfl, by omega, by omega⟩
theorem ends_own {a b e : Int} (hm : mayW a b = true) (he : inE e = true) : e ∈ (ofW a b e).map (lastW a b) ↔ 0 ≤ e - a + 1 ∧ Int.tmod (e - a + 1) b = 0 := by
  obtain ⟨a1, a2, b1, b2⟩ := (mayW_iff a b).1 hm
  obtain ⟨e1, e2⟩ := (inE_iff e).1 he
  rw [List.mem_map]
  constructor
  · rintro ⟨k, hk, hl⟩
    have hin := (ofW_mem hm he k).1 hk
    have hk2 := (le_hiW b1).2 hin.2.1
    have hlo := lo_small hm he
    have hki : inE k = true := by rw [inE_iff]; omega
    rw [lastW_in hm hki] at hl
    have h0 := Int.mul_nonneg (show 0 ≤ b by omega) hin.1
    have e3 : e - a + 1 = b * k := by omega
    refine ⟨by omega, ?_⟩
    rw [e3]
    exact Int.tmod_eq_zero_of_dvd (Int.dvd_mul_right b k)
  · rintro ⟨h0, ht⟩
    obtain ⟨k, hk⟩ := Int.dvd_of_tmod_eq_zero ht
    have hk0 : 0 ≤ k := by
      rcases Int.lt_or_le k 0 with h | h
      · have : b * k < 0 := Int.mul_neg_of_pos_of_neg (by omega) h
        omega
      · exact h
    have hin : k ∈ ofW a b e := (ofW_mem hm he k).2 ⟨hk0, by omega, by omega⟩
    have hk2 := (le_hiW (e := e) b1).2 (show b * k ≤ e by omega)
    have hlo := lo_small hm he
    refine ⟨k, hin, ?_⟩
    rw [lastW_in hm (by rw [inE_iff]; omega)]
    omega
set_option maxHeartbeats 4000000 in
theorem WindowEnds_any (a b e : Int) (w : World) :
    Calls Try.prog 7 #[.int .i64 a, .int .i64 b, .int .i64 e] w fun r w' => r = .returned (.bool true) ∧ Grow w w' := by
  obtain ⟨p, hp⟩ : ∃ p, mayW a b = p := ⟨_, rfl⟩
  have C0 := hide (fun w => may_at a b hp w)
  have HP := hide hp
  clear hp
  go_enter Try.func7, Try.ntmps7
  go_wp2_with fail
  refine (shown_any _).mono ?_
  rintro _ w1 ⟨rfl, hb⟩
  have G1 := hide hb
  clear hb
  go_wp2_with fail
  refine (C0.out _).mono ?_
  rintro _ w2 ⟨rfl, rfl⟩
  clear C0
  have C1 := hide (fun w => ends_at a b e w)
  cases p
  · have HN := hide (show ofW a b e = [] from ofW_none (by rw [HP.out]; simp))
    go_wp2_with fail; refine (C1.out _).mono ?_; rintro _ w3 ⟨s, n, c, rfl, hb, hO⟩; have G2 := hide (Grow.trans' G1.out hb); have hn : n = 0 := (by rw [← hO.1, HN.out]; rfl); subst hn; clear hb hO; go_wp2_with fail; go_ret; exact ⟨rfl, G2.out⟩
  have hc : e < 0 ∨ (¬ e < 0 ∧ 1048576 < e) ∨ (¬ e < 0 ∧ ¬ 1048576 < e) := by omega
  rcases hc with h1 | ⟨h1, h2⟩ | ⟨h1, h2⟩
  · have HN := hide (show ofW a b e = [] from ofW_none (by rw [inE_iff]; omega))
    go_wp2_with fail; refine (C1.out _).mono ?_; rintro _ w3 ⟨s, n, c, rfl, hb, hO⟩; have G2 := hide (Grow.trans' G1.out hb); have hn : n = 0 := (by rw [← hO.1, HN.out]; rfl); subst hn; clear hb hO; go_wp2_with fail; go_ret; exact ⟨rfl, G2.out⟩
  · have HN := hide (show ofW a b e = [] from ofW_none (by rw [inE_iff]; omega))
    go_wp2_with fail; refine (C1.out _).mono ?_; rintro _ w3 ⟨s, n, c, rfl, hb, hO⟩; have G2 := hide (Grow.trans' G1.out hb); have hn : n = 0 := (by rw [← hO.1, HN.out]; rfl); subst hn; clear hb hO; go_wp2_with fail; go_ret; exact ⟨rfl, G2.out⟩
  have he : inE e = true := by rw [inE_iff]; omega
  obtain ⟨a1, a2, b1, b2⟩ := (mayW_iff a b).1 HP.out
  have HE := hide (fun i h => ends_get HP.out he i h)
  have HOwn := hide (ends_own HP.out he)
  have C2 := hide (fun w => of_at a b e w)
  have hN := many_le a b e
  have HLn : Hid ((ofW a b e).length = ((ofW a b e).map (lastW a b)).length) := hide (by rw [List.length_map])
  go_wp2_with fail
  refine (C1.out _).mono ?_
  rintro _ w3 ⟨s, n, c, rfl, hb, hO⟩
  have G2 := hide (Grow.trans' G1.out hb)
  have I2 := hide hO.is
  have hn : n ≤ 20 := by rw [← hO.1, List.length_map, ofW_len]; exact hN
  obtain ⟨L, hL⟩ : ∃ L, L = (ofW a b e).map (lastW a b) := ⟨_, rfl⟩
  rw [← hL] at I2 HOwn HLn
  have HE2 : Hid (∀ i (h : i < L.length), L[i] = b * (loW a b e + (i : Int)) + a - 1 ∧ e ≤ L[i] ∧ L[i] < e + a) := hide (by subst hL; exact HE.out)
  clear hb hO hN HE hL G1 C1
  have G4 : Hid (∀ wr, Grow w3 wr → Grow w wr) := hide (fun wr h => Grow.trans' G2.out h)
  clear G2
  go_wp2_with fail
  go_loopw [9, 10] (fun v i wr => ∃ k : Nat, k ≤ n ∧ v = .bool (foundTo L e k) ∧ i = .int .i64 k ∧ Grow w3 wr) (fun _ i _ => n - (intOf i).toNat)
  case atStart => exact ⟨0, Nat.zero_le _, by rw [foundTo_zero], rfl, Grow.rfl' _⟩
  case round =>
    obtain ⟨k, hk, rfl, rfl, hg⟩ := hrel
    have HG := hide hg
    by_cases hlt : k < n
    · have hkd : k < L.length := by rw [I2.out.len]; exact hlt
      have hne : ¬ L = [] := fun h => by rw [h] at hkd; simp at hkd
      obtain ⟨g1, o1, rfl, hr1⟩ := (I2.out.later hg).row.resolve_left hne
      have p0 := hr1 k hkd
      have hst := foundTo_step L e k hkd
      obtain ⟨x0, x1, x2⟩ := HE2.out k hkd
      obtain ⟨x, hx⟩ : ∃ x, x = L[k] := ⟨_, rfl⟩
      rw [← hx] at p0 hst x0 x1 x2
      have HS := hide hst
      have hi1 : (0 : Int) ≤ (k : Int) := by omega
      have hi2 : (k : Int) < (n : Int) := by omega
      have d1 : decide (x < e) = false := by simpa using x1
      have hwe : IntKind.i64.wrap (e + a) = e + a := IntWalk.i64_in _ ⟨by omega, by omega⟩
      have d2 : decide (e + a ≤ x) = false := by simpa using x2
      have HX2 := hide (And.intro x1 x2)
      obtain ⟨f, hf⟩ : ∃ f, foundTo L e k = f := ⟨_, rfl⟩
      rw [hf] at HS ⊢
      clear hf hst hx hne
      have HXK : Hid ((x == e) = decide (x = e)) := hide (by simp [BEq.beq])
      by_cases hk0 : (0 : Int) < (k : Int)
      · obtain ⟨j, hj0⟩ : ∃ j, k = j + 1 := ⟨k - 1, by omega⟩
        have q0 := hr1 j (by omega)
        have hj := (HE2.out j (by omega)).1
        obtain ⟨y, hy⟩ : ∃ y, y = L[j] := ⟨_, rfl⟩
        rw [← hy] at q0 hj
        have hxy : x - y = b := (by rw [x0, hj, show (k : Int) = (j : Int) + 1 by omega, ← Int.add_assoc, Int.mul_add b (loW a b e + (j : Int)) 1, Int.mul_one]; omega)
        have hws : IntKind.i64.wrap (x - y) = b := (by rw [hxy]; exact IntWalk.i64_in _ ⟨by omega, by omega⟩)
        have hwj : IntKind.i64.wrap ((k : Int) - 1) = (j : Int) := (by rw [show (k : Int) - 1 = (j : Int) by omega]; exact IntWalk.i64_in _ ⟨by omega, by omega⟩)
        have hi3 : (0 : Int) ≤ (j : Int) := by omega
        have hi4 : (j : Int) < (n : Int) := by omega
        have d3 : 0 < k := by omega
        have d4 : decide (0 < k) = true := by simpa using d3
        clear hy hj hxy hj0
        clear x0 x1 x2 hr1 hkd hg
        go_wp2
        go_quiet (fail)
        cases f
        · by_cases hxe : x = e
          · have hbq : (x == e) = true := by simpa using hxe
            have HR : Hid (foundTo L e (k + 1) = true) := hide (by rw [HS.out]; simp [hxe])
            clear HS hxe
            go_wp2
            go_roundw
            case rel => exact ⟨k + 1, by omega, by rw [HR.out], by go_num, below_drewN HG.out _⟩
            case measure => simp [intOf]; omega
          · have hbq : (x == e) = false := by simpa using hxe
            have HR : Hid (foundTo L e (k + 1) = false) := hide (by rw [HS.out]; simp [hxe])
            clear HS hxe
            go_wp2
            go_roundw
            case rel => exact ⟨k + 1, by omega, by rw [HR.out], by go_num, below_drewN HG.out _⟩
            case measure => simp [intOf]; omega
        · have HR : Hid (foundTo L e (k + 1) = true) := hide (by rw [HS.out]; simp)
          clear HS
          go_wp2
          go_roundw
          case rel => exact ⟨k + 1, by omega, by rw [HR.out], by go_num, below_drewN HG.out _⟩
          case measure => simp [intOf]; omega
      · skip
        skip
        skip
        skip
        skip
        skip
        skip
        skip
        skip
        skip
        have d3 : ¬ 0 < k := by omega
        have d4 : decide (0 < k) = false := by simpa using d3
        skip
        clear x0 x1 x2 hr1 hkd hg
        go_wp2
        go_quiet (fail)
        cases f
        · by_cases hxe : x = e
          · have hbq : (x == e) = true := by simpa using hxe
            have HR : Hid (foundTo L e (k + 1) = true) := hide (by rw [HS.out]; simp [hxe])
            clear HS hxe
            go_wp2
            go_roundw
            case rel => exact ⟨k + 1, by omega, by rw [HR.out], by go_num, below_drewN HG.out _⟩
            case measure => simp [intOf]; omega
          · have hbq : (x == e) = false := by simpa using hxe
            have HR : Hid (foundTo L e (k + 1) = false) := hide (by rw [HS.out]; simp [hxe])
            clear HS hxe
            go_wp2
            go_roundw
            case rel => exact ⟨k + 1, by omega, by rw [HR.out], by go_num, below_drewN HG.out _⟩
            case measure => simp [intOf]; omega
        · have HR : Hid (foundTo L e (k + 1) = true) := hide (by rw [HS.out]; simp)
          clear HS
          go_wp2
          go_roundw
          case rel => exact ⟨k + 1, by omega, by rw [HR.out], by go_num, below_drewN HG.out _⟩
          case measure => simp [intOf]; omega
    · have hi2 : ¬ (k : Int) < (n : Int) := by omega
      have hkl : k = L.length := by rw [I2.out.len]; omega
      have HJ := hide (show foundTo L e k = decide (e ∈ L) by rw [hkl, foundTo_all])
      have hb0 : ¬ b = 0 := by omega
      have hw1 : IntKind.i64.wrap (e - a) = e - a := IntWalk.i64_in _ ⟨by omega, by omega⟩
      have hw2 : IntKind.i64.wrap (e - a + 1) = e - a + 1 := IntWalk.i64_in _ ⟨by omega, by omega⟩
      obtain ⟨f, hf⟩ : ∃ f, foundTo L e k = f := ⟨_, rfl⟩
      rw [hf] at HJ ⊢
      have HNL := hide I2.out.len
      clear hkl hf hg
      obtain ⟨t, hT⟩ : ∃ t, Int.tmod (e - a + 1) b = t := ⟨_, rfl⟩
      rw [hT] at HOwn
      have hc : (¬ 0 ≤ e - a + 1) ∨ (0 ≤ e - a + 1 ∧ t = 0) ∨ (0 ≤ e - a + 1 ∧ ¬ t = 0) := by omega
      rcases hc with d1 | ⟨d1, d2⟩ | ⟨d1, d2⟩
      · have hfv : f = false := by rw [HJ.out, decide_eq_false_iff_not, HOwn.out]; rintro ⟨y1, y2⟩; first | exact d1 y1 | exact d2 y2
        subst hfv
        skip
        clear HJ HOwn
        go_wp2_with fail
        refine (C2.out _).mono ?_
        rintro _ w4 ⟨s4, n4, c4, rfl, hb, hO⟩
        have hnn : n4 = n := by rw [← hO.1, ← HNL.out, HLn.out]
        subst hnn
        have G5 := hide (G4.out _ (Grow.trans' HG.out hb))
        clear hb hO
        go_wp2_with fail
        go_ret
        exact ⟨rfl, G5.out⟩
      · have hfv : f = true := by rw [HJ.out, decide_eq_true_iff, HOwn.out]; exact ⟨d1, d2⟩
        subst hfv
        have hbq : (t == 0) = true := by simpa using d2
        clear HJ HOwn
        go_wp2_with fail
        refine (C2.out _).mono ?_
        rintro _ w4 ⟨s4, n4, c4, rfl, hb, hO⟩
        have hnn : n4 = n := by rw [← hO.1, ← HNL.out, HLn.out]
        subst hnn
        have G5 := hide (G4.out _ (Grow.trans' HG.out hb))
        clear hb hO
        go_wp2_with fail
        go_ret
        exact ⟨rfl, G5.out⟩
      · have hfv : f = false := by rw [HJ.out, decide_eq_false_iff_not, HOwn.out]; rintro ⟨y1, y2⟩; first | exact d1 y1 | exact d2 y2
        subst hfv
        have hbq : (t == 0) = false := by simpa using d2
        clear HJ HOwn
        go_wp2_with fail
        refine (C2.out _).mono ?_
        rintro _ w4 ⟨s4, n4, c4, rfl, hb, hO⟩
        have hnn : n4 = n := by rw [← hO.1, ← HNL.out, HLn.out]
        subst hnn
        have G5 := hide (G4.out _ (Grow.trans' HG.out hb))
        clear hb hO
        go_wp2_with fail
        go_ret
        exact ⟨rfl, G5.out⟩

set_option maxRecDepth 100000 in
theorem WindowEnds_lifted (os : Os) (started : os.Started) (H : Type) (enc : TypeId × Value → H) :
    ReturnsInHanded {} Try.checked os 7 .any (Rows.windowEndsSpec.pre6 enc Try.prog Try.f7 Rows.windowEndsRow.domain false) (Rows.windowEndsSpec.post enc Try.prog Try.f7 false true false false) := by
  refine returnsInHanded_of_change (C := Try.checked) own started (by kernel_rfl) Try.func7
    (ChangeSpec.witness6 (enc := enc) (C := Try.checked) false ⟨#[], #[.int .i64 0, .int .i64 0, .int .i64 0], []⟩ 8 (by kernel_rfl) (by kernel_rfl) (by kernel_rfl) (by kernel_rfl)) ?_
  intro W base args ds gs before hval0 hW hcnd _
  have hval : ∀ (j : Nat) t v, Try.f7.params[j]? = some t → args[j]? = some v → Value.okWide Try.prog W .any base t v := hval0
  have hW' := hW
  obtain ⟨p, q, hA0, hV, rfl, hfz, hnd⟩ := hW
  have hA : DataW.TrodAll enc Try.prog W 0 (fun _ => true) true Try.f7.params.toList args.toList ds p := hA0
  rw [Try.params7] at hA hval
  obtain ⟨v0, vs0, d0, ds0, p0, q0, hargs, rfl, rfl, h0, r0⟩ := trodAll_cons hA
  obtain ⟨v1, vs1, d1, ds1, p1, q1, rfl, rfl, rfl, h1, r1⟩ := trodAll_cons r0
  obtain ⟨v2, vs2, d2, ds2, p2, q2, rfl, rfl, rfl, h2, r2⟩ := trodAll_cons r1
  obtain ⟨rfl, rfl, rfl⟩ := trodAll_nil r2
  obtain rfl : args = #[v0, v1, v2] := by cases args; simp_all
  obtain ⟨rfl, rfl⟩ := trodVars_none hV
  obtain ⟨a0, rfl, rfl, rfl, w0⟩ := open_int Try.underlying3 (hval 0 3 v0 rfl rfl) h0
  obtain ⟨a1, rfl, rfl, rfl, w1⟩ := open_int Try.underlying3 (hval 1 3 v1 rfl rfl) h1
  obtain ⟨a2, rfl, rfl, rfl, w2⟩ := open_int Try.underlying3 (hval 2 3 v2 rfl rfl) h2
  clear hA0 hval0
  refine (WindowEnds_any a0 a1 a2 W).mono fun e W' ⟨he, bel⟩ => ?_
  subst he
  exact ⟨_, rfl, _, _, _, [], _, [], hW', trodAll_mk1 (shut_bool Try.underlying4 _), (trodAll_cons_mk (shut_int Try.underlying3 w0) (trodAll_cons_mk (shut_int Try.underlying3 w1) (trodAll_cons_mk (shut_int Try.underlying3 w2) trodAll_mk0))), rfl, bel.frame _, fun h => by cases h⟩

/-- The given statement. -/
theorem WindowEnds_holds : Rows.WindowEndsSaid :=
  OpenClaim.holds_of_wide 7 Try.f7 rfl rfl rfl rfl rfl rfl rfl ⟨rfl, rfl, rfl, rfl, rfl⟩ rfl rfl rfl rfl rfl (by kernel_rfl) Try.func7 (by kernel_rfl)
    (of_decide_eq_true (by kernel_rfl)) (by unfold Func.isWrapper; first | (rw [if_pos (by decide +kernel)]; kernel_rfl) | (rw [if_neg (by decide +kernel)]; exact ⟨rfl, rfl⟩))
    (fun os started H enc _ => WindowEnds_lifted os started H enc)


end Go.Proofs.Ytlnpemjamcpheaa
