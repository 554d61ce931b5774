/-
  WindowSteps: for every two numbers that may be and every epoch from 0 to below 2^19: the windows of the epoch that is one step further are those of the epoch, each one further, and the window 0, if it is a new one; the call returns true and leaves its arguments as they were. No conditions.
-/
import Derived.Test.YtlnpemjamcpheaaWHd
namespace Go.Proofs.Ytlnpemjamcpheaa
set_option maxRecDepth 100000
open Go.ChangeShapes Go.WideShapes Go.ChangeAt Go.RowKit Go.Deep
set_option linter.unusedVariables false
set_option linter.unusedSimpArgs false

/-- What is said of the two rows: the second has D more at its beginning. -/
theorem two_rows {a b e : Int} (hm : mayW a b = true) (h1 : 0 ≤ e) (h2 : e < 524288) :
    ∃ D : Nat, D ≤ 1 ∧ manyW a b (e + b) = manyW a b e + D ∧ (D = 1 → loW a b (e + b) = 0) ∧ loW a b (e + b) + (D : Int) = loW a b e + 1 := by
  obtain ⟨a1, a2, b1, b2⟩ := (mayW_iff a b).1 hm
  have he : inE e = true := by rw [inE_iff]; omega
  have he' : inE (e + b) = true := by rw [inE_iff]; omega
  have n1 := (manyW_pos hm he).2
  have n2 := (manyW_pos hm he').2
  have hs := hiW_step (e := e) b1
  rcases loW_step a1 b1 b2 h1 with h | ⟨h, h'⟩
  · exact ⟨0, by omega, by omega, by omega, by omega⟩
  · exact ⟨1, by omega, by omega, fun _ => h, by omega⟩
set_option maxHeartbeats 4000000 in
theorem WindowSteps_any (a b e : Int) (w : World) :
    Calls Try.prog 6 #[.int .i64 a, .int .i64 b, .int .i64 e] w fun r w' => r = .returned (.bool true) ∧ Grow w w' := by
  obtain ⟨p, hp⟩ : ∃ p, mayW a b = p := ⟨_, rfl⟩
  have C0 := hide (fun w => may_at a b hp w)
  have HP := hide hp
  clear hp
  go_enter Try.func6, Try.ntmps6
  go_wp2_with fail
  refine (shown_any _).mono ?_
  rintro _ w1 ⟨rfl, hb⟩
  have G1 := hide hb
  clear hb
  go_wp2_with fail
  refine (C0.out _).mono ?_
  rintro _ w2 ⟨rfl, rfl⟩
  clear C0
  cases p
  · go_wp2_with fail
    go_ret
    exact ⟨rfl, G1.out⟩
  have hc : e < 0 ∨ (¬ e < 0 ∧ 524288 ≤ e) ∨ (¬ e < 0 ∧ ¬ 524288 ≤ e) := by omega
  rcases hc with h1 | ⟨h1, h2⟩ | ⟨h1, h2⟩
  · go_wp2_with fail
    go_ret
    exact ⟨rfl, G1.out⟩
  · go_wp2_with fail
    go_ret
    exact ⟨rfl, G1.out⟩
  obtain ⟨D, hD, hn, hD0, hlo⟩ := two_rows HP.out (by omega : 0 ≤ e) (by omega)
  have hN := many_le a b (e + b)
  have hwe : IntKind.i64.wrap (e + b) = e + b := IntWalk.i64_in _ ⟨by have := (mayW_iff a b).1 HP.out; omega, by have := (mayW_iff a b).1 HP.out; omega⟩
  have C1 := hide (fun w => of_at a b e w)
  have C2 := hide (fun w => of_at a b (e + b) w)
  have hL := lo_small HP.out (show inE e = true by rw [inE_iff]; omega)
  have HF := hide (And.intro hD0 (And.intro hlo hL))
  have HNn := hide (And.intro hn hN)
  clear hD0 hlo hL hn hN
  go_wp2_with fail
  refine (C1.out _).mono ?_
  rintro _ w2 ⟨s1, n1, c1, rfl, hb, hO⟩
  have G2 := hide (Grow.trans' G1.out hb)
  have I1 := hide hO.is
  clear hb hO G1 C1
  go_wp2_with fail
  refine (C2.out _).mono ?_
  rintro _ w3 ⟨s2, n2, c2, rfl, hb, hO⟩
  have G3 := hide (Grow.trans' G2.out hb)
  have I2 := hide hO.is
  have I1' := hide (I1.out.later hb)
  have hn1 : n1 = manyW a b e := by rw [← I1.out.len, ofW_len]
  have hn2 : n2 = manyW a b (e + b) := by rw [← hO.1, ofW_len]
  have hnn : n2 = n1 + D := by rw [hn1, hn2]; exact HNn.out.1
  have hnb : n1 ≤ 20 := by rw [hn1]; have := HNn.out; omega
  clear hb hO G2 I1 C2 hn1 hn2 HNn hwe
  subst hnn
  have hwd : IntKind.i64.wrap (((n1 + D : Nat) : Int) - (n1 : Int)) = (D : Int) := by rw [show ((n1 + D : Nat) : Int) - (n1 : Int) = (D : Int) by omega]; exact IntWalk.i64_in _ ⟨by omega, by omega⟩
  have G4 : Hid (∀ wr, Grow w3 wr → Grow w wr) := hide (fun wr h => Grow.trans' G3.out h)
  have hD' : D = 0 ∨ D = 1 := by omega
  clear hD G3
  rcases hD' with rfl | rfl
  · skip
    skip
    skip
    skip
    skip
    skip
    skip
    go_wp2_with fail
    skip
    clear hwd
    go_loopw [11] (fun i wr => ∃ k : Nat, k ≤ n1 ∧ i = .int .i64 k ∧ Grow w3 wr) (fun i _ => n1 - (intOf i).toNat)
    case atStart => exact ⟨0, Nat.zero_le _, rfl, Grow.rfl' _⟩
    case round =>
      obtain ⟨k, hk, rfl, hg⟩ := hrel
      have HG := hide hg
      by_cases hlt : k < n1
      · have hkd : k < (ofW a b e).length := by rw [I1'.out.len]; exact hlt
        have hke : k + 0 < (ofW a b (e + b)).length := by rw [I2.out.len]; omega
        have hne : ¬ ofW a b e = [] := fun h => by rw [h] at hkd; simp at hkd
        have hne' : ¬ ofW a b (e + b) = [] := fun h => by rw [h] at hke; simp at hke
        obtain ⟨g1, o1, rfl, hr1⟩ := (I1'.out.later hg).row.resolve_left hne
        obtain ⟨g3, o3, hs3, hr3⟩ := (I2.out.later hg).row.resolve_left hne'
        subst hs3
        have p0 := hr1 k hkd
        have q0 := hr3 (k + 0) hke
        rw [ofW_get] at p0 q0
        rw [Nat.add_zero] at q0
        have hx : loW a b (e + b) + ((k : Nat) : Int) = loW a b e + (k : Int) + 1 := by have := HF.out.2.1; omega
        rw [hx] at q0
        have hwx : IntKind.i64.wrap (loW a b e + (k : Int) + 1) = loW a b e + (k : Int) + 1 := IntWalk.i64_in _ ⟨by have := HF.out.2.2; omega, by have := HF.out.2.2; omega⟩
        generalize loW a b e + (k : Int) = x at *
        have hi1 : (0 : Int) ≤ (k : Int) := by omega
        have hi2 : (k : Int) < (n1 : Int) := by omega
        have hwk : IntKind.i64.wrap ((k : Int)) = ((k : Nat) : Int) := IntWalk.i64_in _ ⟨by omega, by omega⟩
        skip
        skip
        clear hne hne' hr1 hr3 hx hkd hke hg 
        go_wp2
        go_quiet (fail)
        go_wp2
        go_roundw
        case rel => exact ⟨k + 1, by omega, by go_num, below_drewN HG.out _⟩
        case measure => simp [intOf]; omega
      · have hi2 : ¬ (k : Int) < (n1 : Int) := by omega
        clear hg
        go_wp2_with fail
        go_ret
        exact ⟨rfl, G4.out _ HG.out⟩
  · have hi0 : (0 : Int) < ((n1 + 1 : Nat) : Int) := by omega
    have hne0 : ¬ ofW a b (e + b) = [] := (fun h => by have := I2.out.len; rw [h] at this; simp at this)
    obtain ⟨g2, o2, rfl, hr2⟩ := I2.out.row.resolve_left hne0
    have z0 := hr2 0 (by rw [I2.out.len]; omega)
    rw [ofW_get, HF.out.1 rfl, Nat.add_zero] at z0
    simp only [Int.natCast_zero, Int.add_zero, Int.cast_ofNat_Int] at z0
    clear hne0 hr2
    go_wp2_with fail
    clear z0
    clear hwd
    go_loopw [11] (fun i wr => ∃ k : Nat, k ≤ n1 ∧ i = .int .i64 k ∧ Grow w3 wr) (fun i _ => n1 - (intOf i).toNat)
    case atStart => exact ⟨0, Nat.zero_le _, rfl, Grow.rfl' _⟩
    case round =>
      obtain ⟨k, hk, rfl, hg⟩ := hrel
      have HG := hide hg
      by_cases hlt : k < n1
      · have hkd : k < (ofW a b e).length := by rw [I1'.out.len]; exact hlt
        have hke : k + 1 < (ofW a b (e + b)).length := by rw [I2.out.len]; omega
        have hne : ¬ ofW a b e = [] := fun h => by rw [h] at hkd; simp at hkd
        have hne' : ¬ ofW a b (e + b) = [] := fun h => by rw [h] at hke; simp at hke
        obtain ⟨g1, o1, rfl, hr1⟩ := (I1'.out.later hg).row.resolve_left hne
        obtain ⟨g3, o3, hs3, hr3⟩ := (I2.out.later hg).row.resolve_left hne'
        obtain ⟨rfl, rfl⟩ : g2 = g3 ∧ o2 = o3 := by simpa using hs3
        have p0 := hr1 k hkd
        have q0 := hr3 (k + 1) hke
        rw [ofW_get] at p0 q0
        skip
        have hx : loW a b (e + b) + ((k + 1 : Nat) : Int) = loW a b e + (k : Int) + 1 := by have := HF.out.2.1; omega
        rw [hx] at q0
        have hwx : IntKind.i64.wrap (loW a b e + (k : Int) + 1) = loW a b e + (k : Int) + 1 := IntWalk.i64_in _ ⟨by have := HF.out.2.2; omega, by have := HF.out.2.2; omega⟩
        generalize loW a b e + (k : Int) = x at *
        have hi1 : (0 : Int) ≤ (k : Int) := by omega
        have hi2 : (k : Int) < (n1 : Int) := by omega
        have hwk : IntKind.i64.wrap ((k : Int) + 1) = ((k + 1 : Nat) : Int) := IntWalk.i64_in _ ⟨by omega, by omega⟩
        have hi3 : (0 : Int) ≤ ((k + 1 : Nat) : Int) := by omega
        have hi4 : ((k + 1 : Nat) : Int) < ((n1 + 1 : Nat) : Int) := by omega
        clear hne hne' hr1 hr3 hx hkd hke hg hs3
        go_wp2
        go_quiet (fail)
        go_wp2
        go_roundw
        case rel => exact ⟨k + 1, by omega, by go_num, below_drewN HG.out _⟩
        case measure => simp [intOf]; omega
      · have hi2 : ¬ (k : Int) < (n1 : Int) := by omega
        clear hg
        go_wp2_with fail
        go_ret
        exact ⟨rfl, G4.out _ HG.out⟩

set_option maxRecDepth 100000 in
theorem WindowSteps_lifted (os : Os) (started : os.Started) (H : Type) (enc : TypeId × Value → H) :
    ReturnsInHanded {} Try.checked os 6 .any (Rows.windowStepsSpec.pre6 enc Try.prog Try.f6 Rows.windowStepsRow.domain false) (Rows.windowStepsSpec.post enc Try.prog Try.f6 false true false false) := by
  refine returnsInHanded_of_change (C := Try.checked) own started (by kernel_rfl) Try.func6
    (ChangeSpec.witness6 (enc := enc) (C := Try.checked) false ⟨#[], #[.int .i64 0, .int .i64 0, .int .i64 0], []⟩ 8 (by kernel_rfl) (by kernel_rfl) (by kernel_rfl) (by kernel_rfl)) ?_
  intro W base args ds gs before hval0 hW hcnd _
  have hval : ∀ (j : Nat) t v, Try.f6.params[j]? = some t → args[j]? = some v → Value.okWide Try.prog W .any base t v := hval0
  have hW' := hW
  obtain ⟨p, q, hA0, hV, rfl, hfz, hnd⟩ := hW
  have hA : DataW.TrodAll enc Try.prog W 0 (fun _ => true) true Try.f6.params.toList args.toList ds p := hA0
  rw [Try.params6] at hA hval
  obtain ⟨v0, vs0, d0, ds0, p0, q0, hargs, rfl, rfl, h0, r0⟩ := trodAll_cons hA
  obtain ⟨v1, vs1, d1, ds1, p1, q1, rfl, rfl, rfl, h1, r1⟩ := trodAll_cons r0
  obtain ⟨v2, vs2, d2, ds2, p2, q2, rfl, rfl, rfl, h2, r2⟩ := trodAll_cons r1
  obtain ⟨rfl, rfl, rfl⟩ := trodAll_nil r2
  obtain rfl : args = #[v0, v1, v2] := by cases args; simp_all
  obtain ⟨rfl, rfl⟩ := trodVars_none hV
  obtain ⟨a0, rfl, rfl, rfl, w0⟩ := open_int Try.underlying3 (hval 0 3 v0 rfl rfl) h0
  obtain ⟨a1, rfl, rfl, rfl, w1⟩ := open_int Try.underlying3 (hval 1 3 v1 rfl rfl) h1
  obtain ⟨a2, rfl, rfl, rfl, w2⟩ := open_int Try.underlying3 (hval 2 3 v2 rfl rfl) h2
  clear hA0 hval0
  refine (WindowSteps_any a0 a1 a2 W).mono fun e W' ⟨he, bel⟩ => ?_
  subst he
  exact ⟨_, rfl, _, _, _, [], _, [], hW', trodAll_mk1 (shut_bool Try.underlying4 _), (trodAll_cons_mk (shut_int Try.underlying3 w0) (trodAll_cons_mk (shut_int Try.underlying3 w1) (trodAll_cons_mk (shut_int Try.underlying3 w2) trodAll_mk0))), rfl, bel.frame _, fun h => by cases h⟩

/-- The given statement. -/
theorem WindowSteps_holds : Rows.WindowStepsSaid :=
  OpenClaim.holds_of_wide 6 Try.f6 rfl rfl rfl rfl rfl rfl rfl ⟨rfl, rfl, rfl, rfl, rfl⟩ rfl rfl rfl rfl rfl (by kernel_rfl) Try.func6 (by kernel_rfl)
    (of_decide_eq_true (by kernel_rfl)) (by unfold Func.isWrapper; first | (rw [if_pos (by decide +kernel)]; kernel_rfl) | (rw [if_neg (by decide +kernel)]; exact ⟨rfl, rfl⟩))
    (fun os started H enc _ => WindowSteps_lifted os started H enc)


end Go.Proofs.Ytlnpemjamcpheaa
