/-
  FnReduces: for every aggregate, every row of records (the first hundred, those that may be), every key and number of ways: what Reduce tells, and where Route leads, is as the document reckons it; the call returns true and leaves its arguments as they were. No conditions.
-/
import Derived.Test.YthkkjhjbojbbaaaFHd
import Derived.Test.YthkkjhjbojbbaaaFRfR
import Derived.Test.YthkkjhjbojbbaaaFRow
namespace Go.Proofs.Ythkkjhjbojbbaaa
set_option maxRecDepth 100000
open Go.ChangeShapes Go.WideShapes Go.ChangeAt Go.RowKit Go.Deep Go.Sort
set_option linter.unusedVariables false
set_option linter.unusedSimpArgs false

theorem wf_le {k : Int} (h : (Lit.int .i64 k).wf = true) : k ≤ 9223372036854775807 := by
  unfold Lit.wf at h
  simp at h
  exact h.2
theorem route_g (k m : Int) (hB : m ≤ 9223372036854775807) {z : Int} (hz : routeI k m = z) (w : World) :
    Calls Try.prog 25 #[.int .i64 k, .int .i64 m] w fun e w' => e = .returned (.int .i64 z) ∧ Grow w w' := (route_at k m hB hz w).mono fun e w' ⟨h, k⟩ => ⟨h, by rw [k]; exact Grow.rfl' _⟩
theorem refRoute_g (k m : Int) (hB : m ≤ 9223372036854775807) {z : Int} (hz : routeI k m = z) (w : World) :
    Calls Try.prog 26 #[.int .i64 k, .int .i64 m] w fun e w' => e = .returned (.int .i64 z) ∧ Grow w w' := (refRoute_at k m hB hz w).mono fun e w' ⟨h, k⟩ => ⟨h, by rw [k]; exact Grow.rfl' _⟩
/-- Two numbers in a block. -/
def Box2 (w : World) (b : Nat) (x y : Int) : Prop := w.cell? ⟨b, 0, none⟩ = some (.int .i64 x) ∧ w.cell? ⟨b, 1, none⟩ = some (.int .i64 y)
theorem Box2.later {w w' : World} {b : Nat} {x y : Int} (hg : Grow w w') (h : Box2 w b x y) : Box2 w' b x y := ⟨cell_later hg h.1, cell_later hg h.2⟩
set_option maxHeartbeats 4000000 in
theorem FnReduces_any (a : Int) (s : Option Addr) (n cap : Nat) (d : List Rc) (x y : Int) (w : World) (hd : IsRcs w s n cap d ∧ ∀ r ∈ d, RcWf r) (hy : y ≤ 9223372036854775807) :
    Calls Try.prog 4 #[.int .i64 a, .slice s n cap, .agg #[.int .i64 x, .int .i64 y]] w fun e w' => e = .returned (.bool true) ∧ Grow w w' := by
  have G0 : Hid (Grow w (w.alloc (.cells #[.int .i64 x, .int .i64 y] 31))) := hide (Grow.alloc' _ _)
  have K0 : Hid (Box2 (w.alloc (.cells #[.int .i64 x, .int .i64 y] 31)) w.heap.size x y) := hide (by simp [Box2, go_sem])
  have HD := hide (hd.1.later G0.out)
  clear hd
  go_enter Try.func4, Try.ntmps4
  go_wp2_with fail
  generalize w.alloc (.cells #[.int .i64 x, .int .i64 y] 31) = w0 at *
  generalize w.heap.size = P at *
  refine (shown_any _).mono ?_
  rintro e w1 ⟨rfl, hb⟩
  have G1 := hide (Grow.trans' G0.out hb)
  have K1 := hide (K0.out.later hb)
  have C1 := hide (few_at s n cap d w1 (HD.out.later hb))
  clear hb G0 K0 HD
  go_wp2_with fail
  refine (C1.out).mono ?_
  rintro _ w2 ⟨s1, n1, c1, rfl, hb, hI, hn1⟩
  have G2 := hide (Grow.trans' G1.out hb)
  have K2 := hide (K1.out.later hb)
  obtain ⟨L, hL⟩ : ∃ L, L = fewR d := ⟨_, rfl⟩
  rw [← hL] at hI
  have I2 := hide hI
  have HLM := hide (show ∀ r ∈ L, mayR r = true by rw [hL]; exact fewR_may d)
  have C2 := hide (red_at a s1 n1 c1 L w2 (by omega) HLM.out hI)
  clear hb hI hL C1 G1 K1
  go_wp2_with fail
  refine (C2.out).mono ?_
  rintro _ w3 ⟨sp, np, cp, rfl, hb, hI⟩
  have G3 := hide (Grow.trans' G2.out hb)
  have K3 := hide (K2.out.later hb)
  have P3 := hide hI
  have hnp : np ≤ 100 := by
    have h1 := redR_le a L
    rw [hI.1, I2.out.1] at h1
    omega
  have C3 := hide (refRed_at a s1 n1 c1 L w3 (by omega) HLM.out (I2.out.later hb))
  clear hb hI C2 G2 K2
  go_wp2_with fail
  refine (C3.out).mono ?_
  rintro _ w4 ⟨sq, nq, cq, rfl, hb, hI⟩
  have G4 := hide (Grow.trans' G3.out hb)
  have K4 := hide (K3.out.later hb)
  have C4 := hide (rowR_any sp sq cp cq np nq (redR a L) (redR a L) true (by simp) w4 (by omega) (P3.out.later hb) hI)
  clear hb hI C3 G3 K3 P3
  go_wp2_with fail
  refine (C4.out).mono ?_
  rintro _ w5 ⟨rfl, hb⟩
  have G5 := hide (Grow.trans' G4.out hb)
  have K5 := hide (K4.out.later hb)
  clear hb C4 G4 K4
  obtain ⟨z, hz⟩ : ∃ z, routeI x y = z := ⟨_, rfl⟩
  have Q1 := hide (fun dd os => Calls.regrown_of (route_g x y hy hz (grow (redrawn w5 dd) os)))
  have Q2 := hide (fun dd os => Calls.regrown_of (refRoute_g x y hy hz (grow (redrawn w5 dd) os)))
  clear hz
  obtain ⟨x0, x1⟩ := K5.out
  have sx0 := cell_regrown x0; have sx1 := cell_regrown x1
  go_wp2_with fail
  refine wp_region_quiet_below (by kernel_rfl) (by kernel_rfl) ?_
  repeat (go_big_quiet_step (first | (go_at_call 25; exact Q1.out _ _) | (go_at_call 26; exact Q2.out _ _)))
  refine wpQuiet_nil ?_
  intro _ hw'
  obtain ⟨⟨dq, osq⟩, hw''⟩ := hw'
  subst hw''
  have G7 := hide (Grow.trans' G5.out (below_regrown w5 dq osq))
  clear sx0 sx1 x0 x1
  generalize grow (redrawn w5 dq) osq = wz at *
  go_wp2
  go_ret
  exact ⟨rfl, G7.out⟩

set_option maxRecDepth 100000 in
theorem FnReduces_lifted (os : Os) (started : os.Started) (H : Type) (enc : TypeId × Value → H) :
    ReturnsInHanded {} Try.checked os 4 .any (Rows.fnReducesSpec.pre6 enc Try.prog Try.f4 Rows.fnReducesRow.domain false) (Rows.fnReducesSpec.post enc Try.prog Try.f4 false true false false) := by
  refine returnsInHanded_of_change (C := Try.checked) own started (by kernel_rfl) Try.func4
    (ChangeSpec.witness6 (enc := enc) (C := Try.checked) false ⟨#[], #[.int .i64 0, .slice none 0 0, .agg #[.int .i64 0, .int .i64 0]], []⟩ 8 (by kernel_rfl) (by kernel_rfl) (by kernel_rfl) (by kernel_rfl)) ?_
  intro W base args ds gs before hval0 hW hcnd _
  have hval : ∀ (j : Nat) t v, Try.f4.params[j]? = some t → args[j]? = some v → Value.okWide Try.prog W .any base t v := hval0
  have hW' := hW
  obtain ⟨p, q, hA0, hV, rfl, hfz, hnd⟩ := hW
  have hA : DataW.TrodAll enc Try.prog W 0 (fun _ => true) true Try.f4.params.toList args.toList ds p := hA0
  rw [Try.params4] at hA hval
  obtain ⟨v0, vs0, d0, ds0, p0, q0, hargs, rfl, rfl, h0, r0⟩ := trodAll_cons hA
  obtain ⟨v1, vs1, d1, ds1, p1, q1, rfl, rfl, rfl, h1, r1⟩ := trodAll_cons r0
  obtain ⟨v2, vs2, d2, ds2, p2, q2, rfl, rfl, rfl, h2, r2⟩ := trodAll_cons r1
  obtain ⟨rfl, rfl, rfl⟩ := trodAll_nil r2
  obtain rfl : args = #[v0, v1, v2] := by cases args; simp_all
  obtain ⟨rfl, rfl⟩ := trodVars_none hV
  obtain ⟨a0, rfl, rfl, rfl, w0⟩ := open_int Try.underlying3 (hval 0 3 v0 rfl rfl) h0
  have k1 := h1
  have lt1 : ∀ x ∈ p1, x.block < W.heap.size := by obtain ⟨m, hm⟩ := k1; exact DataW.trod_lt m _ _ _ hm
  obtain ⟨s1, len1, cap1, rfl⟩ := okWide_slice Try.underlying30 (hval 1 30 v1 rfl rfl)
  obtain ⟨z1, w1⟩ := rows_rcs h1
  have k2 := h2
  have lt2 : ∀ x ∈ p2, x.block < W.heap.size := by obtain ⟨m, hm⟩ := k2; exact DataW.trod_lt m _ _ _ hm
  obtain ⟨t2, rfl, w2⟩ := open_arr2 (hval 2 31 v2 rfl rfl) h2
  clear hA0 hval0
  refine (FnReduces_any a0 s1 len1 cap1 z1 t2.1 t2.2 W w1 (wf_le w2.2)).mono fun e W' ⟨he, bel⟩ => ?_
  subst he
  exact ⟨_, rfl, _, _, _, [], _, [], hW', trodAll_mk1 (shut_bool Try.underlying4 _), (trodAll_cons_mk (shut_int Try.underlying3 w0) (trodAll_cons_mk (Below.trod laidOut (by kernel_rfl) (of_decide_eq_true (by kernel_rfl)) k1 bel lt1) (trodAll_cons_mk (Below.trod laidOut (by kernel_rfl) (of_decide_eq_true (by kernel_rfl)) k2 bel lt2) trodAll_mk0))), rfl, bel.frame _, fun h => by cases h⟩

/-- The given statement. -/
theorem FnReduces_holds : Rows.FnReducesSaid :=
  OpenClaim.holds_of_wide 4 Try.f4 rfl rfl rfl rfl rfl rfl rfl ⟨rfl, rfl, rfl, rfl, rfl⟩ rfl rfl rfl rfl rfl (by kernel_rfl) Try.func4 (by kernel_rfl)
    (of_decide_eq_true (by kernel_rfl)) (by unfold Func.isWrapper; first | (rw [if_pos (by decide +kernel)]; kernel_rfl) | (rw [if_neg (by decide +kernel)]; exact ⟨rfl, rfl⟩))
    (fun os started H enc _ => FnReduces_lifted os started H enc)


end Go.Proofs.Ythkkjhjbojbbaaa
