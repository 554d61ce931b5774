/-
  WindowWhole: for every two numbers that may be and every window from 0 to 9999: each epoch of the window, and no other one near it, has the window; the call returns true and leaves its arguments as they were. No conditions.
-/
import Derived.Test.YtlnpemjamcpheaaWHd
namespace Go.Proofs.Ytlnpemjamcpheaa
set_option maxRecDepth 100000
open Go.ChangeShapes Go.WideShapes Go.ChangeAt Go.RowKit Go.Deep
attribute [local go_sem ↓] run_maxI
set_option linter.unusedVariables false
set_option linter.unusedSimpArgs false

set_option maxHeartbeats 4000000 in
theorem WindowWhole_any (a b k : Int) (w : World) :
    Calls Try.prog 8 #[.int .i64 a, .int .i64 b, .int .i64 k] w fun r w' => r = .returned (.bool true) ∧ Grow w w' := by
  obtain ⟨p, hp⟩ : ∃ p, mayW a b = p := ⟨_, rfl⟩
  have C0 := hide (fun w => may_at a b hp w)
  have HP := hide hp
  clear hp
  go_enter Try.func8, Try.ntmps8
  go_wp2_with fail
  refine (shown_any _).mono ?_
  rintro _ w1 ⟨rfl, hb⟩
  have G1 := hide hb
  clear hb
  go_wp2_with fail
  refine (C0.out _).mono ?_
  rintro _ w2 ⟨rfl, rfl⟩
  clear C0
  cases p
  · go_wp2_with fail
    go_ret
    exact ⟨rfl, G1.out⟩
  have hc : k < 0 ∨ (¬ k < 0 ∧ 9999 < k) ∨ (¬ k < 0 ∧ ¬ 9999 < k) := by omega
  rcases hc with h1 | ⟨h1, h2⟩ | ⟨h1, h2⟩
  · go_wp2_with fail
    go_ret
    exact ⟨rfl, G1.out⟩
  · go_wp2_with fail
    go_ret
    exact ⟨rfl, G1.out⟩
  obtain ⟨a1, a2, b1, b2⟩ := (mayW_iff a b).1 HP.out
  have hk : inE k = true := by rw [inE_iff]; omega
  have hm1 := Int.mul_nonneg (show 0 ≤ b by omega) (show 0 ≤ k by omega)
  have hm2 : b * k ≤ 20 * k := Int.mul_le_mul_of_nonneg_right (by omega) (by omega)
  have HM : Hid (∀ e : Int, inE e = true → (k ∈ ofW a b e ↔ b * k ≤ e ∧ e ≤ b * k + a - 1)) := hide (fun e he => by
    rw [ofW_mem HP.out he]
    constructor
    · exact fun h => h.2
    · exact fun h => ⟨by omega, h⟩)
  have C1 := hide (fun w => first_at b k (firstW_in (may_step HP.out) hk) w)
  have C2 := hide (fun w => last_at a b k (lastW_in HP.out hk) w)
  obtain ⟨F, hF⟩ : ∃ F, F = b * k := ⟨_, rfl⟩
  rw [← hF] at HM C1 C2 hm1 hm2
  have hB : 0 ≤ F ∧ F ≤ 199980 := ⟨by omega, by omega⟩
  have HI : Hid (∀ e : Int, 0 ≤ e → e ≤ F + a + 2 → inE e = true) := hide (fun e h h' => by rw [inE_iff]; omega)
  clear hm1 hm2 hF hk b1 b2
  have hw1 : IntKind.i64.wrap (F - 3) = F - 3 := IntWalk.i64_in _ ⟨by omega, by omega⟩
  have hw2 : IntKind.i64.wrap (F + a - 1 + 3) = F + a - 1 + 3 := IntWalk.i64_in _ ⟨by omega, by omega⟩
  have hmx : 0 ≤ maxI 0 (F - 3) ∧ maxI 0 (F - 3) ≤ F := by unfold maxI; split <;> omega
  go_wp2_with fail
  refine (C1.out _).mono ?_
  rintro _ w2 ⟨rfl, rfl⟩
  go_wp2_with fail
  refine (C2.out _).mono ?_
  rintro _ w2 ⟨rfl, rfl⟩
  clear C1 C2
  go_wp2_with fail
  clear hw1
  generalize hEe : maxI 0 (F - 3) = E0 at *
  clear hEe
  go_loopw [10] (fun i wr => ∃ e : Int, 0 ≤ e ∧ e ≤ F + a + 3 ∧ i = .int .i64 e ∧ Grow w wr) (fun i _ => (F + a + 3 - intOf i).toNat)
  case atStart => exact ⟨E0, by omega, by omega, rfl, G1.out⟩
  case round =>
    obtain ⟨e, e1, e2, rfl, hg⟩ := hrel
    have HG := hide hg
    clear hg
    by_cases hlt : e ≤ F + a - 1 + 3
    · have C := hide (of_at a b e wr)
      have hq := HM.out e (HI.out e e1 (by omega))
      have HQ := hide hq
      have hN := many_le a b e
      clear hq
      go_wp2_with fail
      refine (C.out).mono ?_
      rintro _ w3 ⟨s, n, c, rfl, hb, hO⟩
      have G3 := hide (Grow.trans' HG.out hb)
      have HI3 := hide hO.is
      have hn : n ≤ 20 := by rw [← hO.1, ofW_len]; exact hN
      clear hb hO HG C hN
      go_wp2_with fail
      go_loopw [12, 13] (fun v i wq => ∃ j : Nat, j ≤ n ∧ v = .bool (foundTo (ofW a b e) k j) ∧ i = .int .i64 j ∧ wq = w3) (fun _ i _ => n - (intOf i).toNat)
      case atStart => exact ⟨0, Nat.zero_le _, by rw [foundTo_zero], rfl, rfl⟩
      case round =>
        obtain ⟨j, hj, rfl, rfl, rfl⟩ := hrel
        by_cases hjn : j < n
        · have hjd : j < (ofW a b e).length := by rw [HI3.out.len]; exact hjn
          have hne : ¬ ofW a b e = [] := fun h => by rw [h] at hjd; simp at hjd
          obtain ⟨g, o, rfl, hr⟩ := HI3.out.row.resolve_left hne
          have p0 := hr j hjd
          have hst := foundTo_step (ofW a b e) k j hjd
          obtain ⟨x, hx⟩ : ∃ x, x = (ofW a b e)[j] := ⟨_, rfl⟩
          rw [← hx] at p0 hst
          have HS := hide hst
          have hi1 : (0 : Int) ≤ (j : Int) := by omega
          have hi2 : (j : Int) < (n : Int) := by omega
          clear hne hr hx hst hjd
          obtain ⟨f, hf⟩ : ∃ f, foundTo (ofW a b e) k j = f := ⟨_, rfl⟩
          rw [hf] at HS ⊢
          clear hf
          cases f
          · by_cases hxk0 : x = k
            · have hbq : (x == k) = true := by simpa using hxk0
              have HR : Hid (foundTo (ofW a b e) k (j + 1) = true) := hide (by rw [HS.out]; simp [hxk0])
              clear HS hxk0
              go_wp2_with fail
              go_roundw
              case rel => exact ⟨j + 1, by omega, by rw [HR.out], by go_num, by first | trivial | rfl⟩
              case measure => simp [intOf]; omega
            · have hbq : (x == k) = false := by simpa using hxk0
              have HR : Hid (foundTo (ofW a b e) k (j + 1) = false) := hide (by rw [HS.out]; simp [hxk0])
              clear HS hxk0
              go_wp2_with fail
              go_roundw
              case rel => exact ⟨j + 1, by omega, by rw [HR.out], by go_num, by first | trivial | rfl⟩
              case measure => simp [intOf]; omega
          · have HR : Hid (foundTo (ofW a b e) k (j + 1) = true) := hide (by rw [HS.out]; simp)
            clear HS
            go_wp2_with fail
            go_roundw
            case rel => exact ⟨j + 1, by omega, by rw [HR.out], by go_num, by first | trivial | rfl⟩
            case measure => simp [intOf]; omega
        · have hi2 : ¬ (j : Int) < (n : Int) := by omega
          have hjl : j = (ofW a b e).length := by rw [HI3.out.len]; omega
          have HJ := hide (show foundTo (ofW a b e) k j = decide (k ∈ ofW a b e) by rw [hjl, foundTo_all])
          clear hjl
          have hwe : IntKind.i64.wrap (e + 1) = e + 1 := IntWalk.i64_in _ ⟨by omega, by omega⟩
          have hc : e < F ∨ (F ≤ e ∧ e ≤ F + a - 1) ∨ (F ≤ e ∧ ¬ e ≤ F + a - 1) := by omega
          rcases hc with d1 | ⟨d1, d2⟩ | ⟨d1, d2⟩
          · have HD : Hid (foundTo (ofW a b e) k j = false) := hide (by rw [HJ.out, decide_eq_false_iff_not, HQ.out]; omega)
            have d1' : ¬ F ≤ e := by omega
            rw [HD.out]
            go_wp2_with fail
            go_roundw
            case rel => exact ⟨e + 1, by omega, by omega, rfl, G3.out⟩
            case measure => simp [intOf]; omega
          · have HD : Hid (foundTo (ofW a b e) k j = true) := hide (by rw [HJ.out, decide_eq_true_iff, HQ.out]; omega)
            rw [HD.out]
            go_wp2_with fail
            go_roundw
            case rel => exact ⟨e + 1, by omega, by omega, rfl, G3.out⟩
            case measure => simp [intOf]; omega
          · have HD : Hid (foundTo (ofW a b e) k j = false) := hide (by rw [HJ.out, decide_eq_false_iff_not, HQ.out]; omega)
            rw [HD.out]
            go_wp2_with fail
            go_roundw
            case rel => exact ⟨e + 1, by omega, by omega, rfl, G3.out⟩
            case measure => simp [intOf]; omega
    · go_wp2_with fail
      go_ret
      exact ⟨rfl, HG.out⟩

set_option maxRecDepth 100000 in
theorem WindowWhole_lifted (os : Os) (started : os.Started) (H : Type) (enc : TypeId × Value → H) :
    ReturnsInHanded {} Try.checked os 8 .any (Rows.windowWholeSpec.pre6 enc Try.prog Try.f8 Rows.windowWholeRow.domain false) (Rows.windowWholeSpec.post enc Try.prog Try.f8 false true false false) := by
  refine returnsInHanded_of_change (C := Try.checked) own started (by kernel_rfl) Try.func8
    (ChangeSpec.witness6 (enc := enc) (C := Try.checked) false ⟨#[], #[.int .i64 0, .int .i64 0, .int .i64 0], []⟩ 8 (by kernel_rfl) (by kernel_rfl) (by kernel_rfl) (by kernel_rfl)) ?_
  intro W base args ds gs before hval0 hW hcnd _
  have hval : ∀ (j : Nat) t v, Try.f8.params[j]? = some t → args[j]? = some v → Value.okWide Try.prog W .any base t v := hval0
  have hW' := hW
  obtain ⟨p, q, hA0, hV, rfl, hfz, hnd⟩ := hW
  have hA : DataW.TrodAll enc Try.prog W 0 (fun _ => true) true Try.f8.params.toList args.toList ds p := hA0
  rw [Try.params8] at hA hval
  obtain ⟨v0, vs0, d0, ds0, p0, q0, hargs, rfl, rfl, h0, r0⟩ := trodAll_cons hA
  obtain ⟨v1, vs1, d1, ds1, p1, q1, rfl, rfl, rfl, h1, r1⟩ := trodAll_cons r0
  obtain ⟨v2, vs2, d2, ds2, p2, q2, rfl, rfl, rfl, h2, r2⟩ := trodAll_cons r1
  obtain ⟨rfl, rfl, rfl⟩ := trodAll_nil r2
  obtain rfl : args = #[v0, v1, v2] := by cases args; simp_all
  obtain ⟨rfl, rfl⟩ := trodVars_none hV
  obtain ⟨a0, rfl, rfl, rfl, w0⟩ := open_int Try.underlying3 (hval 0 3 v0 rfl rfl) h0
  obtain ⟨a1, rfl, rfl, rfl, w1⟩ := open_int Try.underlying3 (hval 1 3 v1 rfl rfl) h1
  obtain ⟨a2, rfl, rfl, rfl, w2⟩ := open_int Try.underlying3 (hval 2 3 v2 rfl rfl) h2
  clear hA0 hval0
  refine (WindowWhole_any a0 a1 a2 W).mono fun e W' ⟨he, bel⟩ => ?_
  subst he
  exact ⟨_, rfl, _, _, _, [], _, [], hW', trodAll_mk1 (shut_bool Try.underlying4 _), (trodAll_cons_mk (shut_int Try.underlying3 w0) (trodAll_cons_mk (shut_int Try.underlying3 w1) (trodAll_cons_mk (shut_int Try.underlying3 w2) trodAll_mk0))), rfl, bel.frame _, fun h => by cases h⟩

/-- The given statement. -/
theorem WindowWhole_holds : Rows.WindowWholeSaid :=
  OpenClaim.holds_of_wide 8 Try.f8 rfl rfl rfl rfl rfl rfl rfl ⟨rfl, rfl, rfl, rfl, rfl⟩ rfl rfl rfl rfl rfl (by kernel_rfl) Try.func8 (by kernel_rfl)
    (of_decide_eq_true (by kernel_rfl)) (by unfold Func.isWrapper; first | (rw [if_pos (by decide +kernel)]; kernel_rfl) | (rw [if_neg (by decide +kernel)]; exact ⟨rfl, rfl⟩))
    (fun os started H enc _ => WindowWhole_lifted os started H enc)


end Go.Proofs.Ytlnpemjamcpheaa
