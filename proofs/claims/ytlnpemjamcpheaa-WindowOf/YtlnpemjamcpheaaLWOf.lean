/-
  WindowOf: for every two numbers and every epoch: whether such windows may be, which ones have the epoch, and where they end, is as the document says; the call returns true and leaves its arguments as they were. No conditions.
-/
import Derived.Test.YtlnpemjamcpheaaWHd
import Derived.Test.YtlnpemjamcpheaaWEq
namespace Go.Proofs.Ytlnpemjamcpheaa
set_option maxRecDepth 100000
open Go.ChangeShapes Go.WideShapes Go.ChangeAt Go.RowKit Go.Deep
set_option linter.unusedVariables false
set_option linter.unusedSimpArgs false

set_option maxHeartbeats 4000000 in
theorem WindowOf_any (a b e : Int) (w : World) :
    Calls Try.prog 3 #[.int .i64 a, .int .i64 b, .int .i64 e] w fun r w' => r = .returned (.bool true) ∧ Grow w w' := by
  have hN := many_le a b e
  go_enter Try.func3, Try.ntmps3
  go_wp2_with fail
  refine (shown_any _).mono ?_
  rintro _ w1 ⟨rfl, hb⟩
  have G1 := hide hb
  clear hb
  go_wp2_with fail
  refine (of_at a b e _).mono ?_
  rintro _ w2 ⟨s1, n1, c1, rfl, hb, hO⟩
  have G2 := hide (Grow.trans' G1.out hb)
  have I1 := hide hO.is
  clear hb hO G1
  go_wp2_with fail
  refine (rof_at a b e _).mono ?_
  rintro _ w3 ⟨s2, n2, c2, rfl, hb, hO⟩
  have G3 := hide (Grow.trans' G2.out hb)
  have C := hide (numsR_any s1 s2 c1 c2 n1 n2 _ _ true (by simp) w3 (by rw [← I1.out.len, ofW_len]; omega) (I1.out.later hb) hO.is)
  clear hb hO G2 I1
  go_wp2_with fail
  refine (C.out).mono ?_
  rintro _ w4 ⟨rfl, hb⟩
  have G4 := hide (Grow.trans' G3.out hb)
  clear hb G3 C
  go_wp2_with fail
  refine (ends_at a b e _).mono ?_
  rintro _ w5 ⟨s3, n3, c3, rfl, hb, hO⟩
  have G5 := hide (Grow.trans' G4.out hb)
  have I1 := hide hO.is
  clear hb hO G4
  go_wp2_with fail
  refine (rends_at a b e _).mono ?_
  rintro _ w6 ⟨s4, n4, c4, rfl, hb, hO⟩
  have G6 := hide (Grow.trans' G5.out hb)
  have C := hide (numsR_any s3 s4 c3 c4 n3 n4 _ _ true (by simp) w6 (by rw [← I1.out.len, List.length_map, ofW_len]; omega) (I1.out.later hb) hO.is)
  clear hb hO G5 I1
  go_wp2_with fail
  refine (C.out).mono ?_
  rintro _ w7 ⟨rfl, hb⟩
  have G7 := hide (Grow.trans' G6.out hb)
  clear hb G6 C hN
  obtain ⟨p, hp⟩ : ∃ p, mayW a b = p := ⟨_, rfl⟩
  have C1 := hide (may_at a b hp w7)
  have C2 := hide (rmay_at a b hp w7)
  clear hp
  go_wp2_with fail
  refine (C1.out).mono ?_
  rintro _ w8 ⟨rfl, rfl⟩
  go_wp2_with fail
  refine (C2.out).mono ?_
  rintro _ w9 ⟨rfl, rfl⟩
  cases p
  all_goals
    go_wp2_with fail
    go_ret
    exact ⟨rfl, G7.out⟩

set_option maxRecDepth 100000 in
theorem WindowOf_lifted (os : Os) (started : os.Started) (H : Type) (enc : TypeId × Value → H) :
    ReturnsInHanded {} Try.checked os 3 .any (Rows.windowOfSpec.pre6 enc Try.prog Try.f3 Rows.windowOfRow.domain false) (Rows.windowOfSpec.post enc Try.prog Try.f3 false true false false) := by
  refine returnsInHanded_of_change (C := Try.checked) own started (by kernel_rfl) Try.func3
    (ChangeSpec.witness6 (enc := enc) (C := Try.checked) false ⟨#[], #[.int .i64 0, .int .i64 0, .int .i64 0], []⟩ 8 (by kernel_rfl) (by kernel_rfl) (by kernel_rfl) (by kernel_rfl)) ?_
  intro W base args ds gs before hval0 hW hcnd _
  have hval : ∀ (j : Nat) t v, Try.f3.params[j]? = some t → args[j]? = some v → Value.okWide Try.prog W .any base t v := hval0
  have hW' := hW
  obtain ⟨p, q, hA0, hV, rfl, hfz, hnd⟩ := hW
  have hA : DataW.TrodAll enc Try.prog W 0 (fun _ => true) true Try.f3.params.toList args.toList ds p := hA0
  rw [Try.params3] at hA hval
  obtain ⟨v0, vs0, d0, ds0, p0, q0, hargs, rfl, rfl, h0, r0⟩ := trodAll_cons hA
  obtain ⟨v1, vs1, d1, ds1, p1, q1, rfl, rfl, rfl, h1, r1⟩ := trodAll_cons r0
  obtain ⟨v2, vs2, d2, ds2, p2, q2, rfl, rfl, rfl, h2, r2⟩ := trodAll_cons r1
  obtain ⟨rfl, rfl, rfl⟩ := trodAll_nil r2
  obtain rfl : args = #[v0, v1, v2] := by cases args; simp_all
  obtain ⟨rfl, rfl⟩ := trodVars_none hV
  obtain ⟨a0, rfl, rfl, rfl, w0⟩ := open_int Try.underlying3 (hval 0 3 v0 rfl rfl) h0
  obtain ⟨a1, rfl, rfl, rfl, w1⟩ := open_int Try.underlying3 (hval 1 3 v1 rfl rfl) h1
  obtain ⟨a2, rfl, rfl, rfl, w2⟩ := open_int Try.underlying3 (hval 2 3 v2 rfl rfl) h2
  clear hA0 hval0
  refine (WindowOf_any a0 a1 a2 W).mono fun e W' ⟨he, bel⟩ => ?_
  subst he
  exact ⟨_, rfl, _, _, _, [], _, [], hW', trodAll_mk1 (shut_bool Try.underlying4 _), (trodAll_cons_mk (shut_int Try.underlying3 w0) (trodAll_cons_mk (shut_int Try.underlying3 w1) (trodAll_cons_mk (shut_int Try.underlying3 w2) trodAll_mk0))), rfl, bel.frame _, fun h => by cases h⟩

/-- The given statement. -/
theorem WindowOf_holds : Rows.WindowOfSaid :=
  OpenClaim.holds_of_wide 3 Try.f3 rfl rfl rfl rfl rfl rfl rfl ⟨rfl, rfl, rfl, rfl, rfl⟩ rfl rfl rfl rfl rfl (by kernel_rfl) Try.func3 (by kernel_rfl)
    (of_decide_eq_true (by kernel_rfl)) (by unfold Func.isWrapper; first | (rw [if_pos (by decide +kernel)]; kernel_rfl) | (rw [if_neg (by decide +kernel)]; exact ⟨rfl, rfl⟩))
    (fun os started H enc _ => WindowOf_lifted os started H enc)


end Go.Proofs.Ytlnpemjamcpheaa
