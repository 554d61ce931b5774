/-
  FnOne: for every two numbers and every record: MayMap, MayFilter and MayReduce tell as the document reckons it, and, of a record that may be, what Map makes of it and whether Filter lets it through too; the call returns true and leaves its arguments as they were. No conditions.
-/
import Derived.Test.YthkkjhjbojbbaaaFHd
import Derived.Test.YthkkjhjbojbbaaaFRef
namespace Go.Proofs.Ythkkjhjbojbbaaa
set_option maxRecDepth 100000
open Go.ChangeShapes Go.WideShapes Go.ChangeAt Go.RowKit Go.Deep Go.Sort
attribute [local go_sem ↓] eqRc
set_option linter.unusedVariables false
set_option linter.unusedSimpArgs false

theorem eqR_self (t : Rc) : eqR t t = true := (eqR_iff t t).2 rfl
set_option maxHeartbeats 4000000 in
theorem FnOne_any (a b : Int) (r : Rc) (w : World) :
    Calls Try.prog 3 #[.int .i64 a, .int .i64 b, .agg #[.int .i64 r.k, .int .i64 r.v]] w fun e w' => e = .returned (.bool true) ∧ Grow w w' := by
  have G0 : Hid (Grow w (w.alloc (.cells #[.int .i64 r.k, .int .i64 r.v] 23))) := hide (Grow.alloc' _ _)
  have K0 : Hid (Box (w.alloc (.cells #[.int .i64 r.k, .int .i64 r.v] 23)) w.heap.size r) := hide (Box.new _ _)
  obtain ⟨m1, h1⟩ : ∃ m, mayMapB a b = m := ⟨_, rfl⟩
  obtain ⟨m2, h2⟩ : ∃ m, mayFilB a b = m := ⟨_, rfl⟩
  obtain ⟨m3, h3⟩ : ∃ m, mayRedB a = m := ⟨_, rfl⟩
  obtain ⟨q, h4⟩ : ∃ q, filR a b r = q := ⟨_, rfl⟩
  obtain ⟨t, h5⟩ : ∃ t, mapR a b r = t := ⟨_, rfl⟩
  have H1 := hide h1
  have H2 := hide h2
  have H3 := hide h3
  have H4 := hide h4
  have H5 := hide h5
  clear h1 h2 h3 h4 h5
  go_enter Try.func3, Try.ntmps3
  go_wp2_with fail
  generalize w.alloc (.cells #[.int .i64 r.k, .int .i64 r.v] 23) = w0 at *
  generalize w.heap.size = P at *
  refine (shown_any _).mono ?_
  rintro e w1 ⟨rfl, hb⟩
  have G1 := hide (Grow.trans' G0.out hb)
  have K1 := hide (K0.out.later hb)
  obtain ⟨p0, p1⟩ := K1.out
  clear hb G0 K0
  go_wp2_with fail
  refine (refMay_any r _).mono ?_
  rintro e w2 ⟨rfl, hb⟩
  have G2 := hide (Grow.trans' G1.out hb)
  have K2 := hide (K1.out.later hb)
  clear hb G1 K1 p0 p1
  go_wp2_with fail
  refine (mayMap_at a b H1.out _).mono ?_
  rintro e w3 ⟨rfl, hb⟩
  have G3 := hide (Grow.trans' G2.out hb)
  have K3 := hide (K2.out.later hb)
  clear hb G2 K2
  go_wp2_with fail
  refine (refMayMap_at a b H1.out _).mono ?_
  rintro e w4 ⟨rfl, rfl⟩
  go_wp2_with fail
  refine (mayFil_at a b H2.out _).mono ?_
  rintro e w5 ⟨rfl, hb⟩
  have G5 := hide (Grow.trans' G3.out hb)
  have K5 := hide (K3.out.later hb)
  clear hb G3 K3
  go_wp2_with fail
  refine (refMayFil_at a b H2.out _).mono ?_
  rintro e w6 ⟨rfl, rfl⟩
  go_wp2_with fail
  refine (mayRed_at a H3.out _).mono ?_
  rintro e w7 ⟨rfl, rfl⟩
  go_wp2_with fail
  refine (refMayRed_at a H3.out _).mono ?_
  rintro e w8 ⟨rfl, rfl⟩
  rename World => wx
  obtain ⟨p, hp⟩ : ∃ p, mayR r = p := ⟨_, rfl⟩
  rw [hp]
  have HP := hide hp
  clear hp
  obtain ⟨x0, x1⟩ := K5.out
  have sx0 := cell_regrown x0; have sx1 := cell_regrown x1
  cases p
  · go_wp2_with fail
    refine wp_region_quiet_below (by kernel_rfl) (by kernel_rfl) ?_
    repeat (go_big_quiet_step (fail))
    refine wpQuiet_nil ?_
    intro _ hw'
    obtain ⟨⟨dq, osq⟩, hw''⟩ := hw'
    subst hw''
    have G7 := hide (Grow.trans' G5.out (below_regrown wx dq osq))
    clear sx0 sx1 x0 x1
    generalize grow (redrawn wx dq) osq = wz at *
    go_wp2
    go_ret
    exact ⟨rfl, G7.out⟩
  · have et := eqR_self t
    have Q1 := hide (fun dd os => Calls.regrown_of (map_is a b r HP.out H5.out (grow (redrawn wx dd) os)))
    have Q2 := hide (fun dd os => Calls.regrown_of (show Calls Try.prog 18 #[.int .i64 a, .int .i64 b, .agg #[.int .i64 r.k, .int .i64 r.v]] (grow (redrawn wx dd) os) fun e w' => e = .returned (.agg #[.int .i64 t.k, .int .i64 t.v]) ∧ Grow (grow (redrawn wx dd) os) w' by rw [← H5.out]; exact refMap_any a b r HP.out _))
    have Q3 := hide (fun dd os => Calls.regrown_of (fil_any a b r H4.out (grow (redrawn wx dd) os)))
    have Q4 := hide (fun dd os => Calls.regrown_of (refFil_any a b r H4.out (grow (redrawn wx dd) os)))
    go_wp2_with fail
    refine wp_region_quiet_below (by kernel_rfl) (by kernel_rfl) ?_
    repeat (go_big_quiet_step (first | (go_at_call 17; exact Q1.out _ _) | (go_at_call 18; exact Q2.out _ _) | (go_at_call 19; exact Q3.out _ _) | (go_at_call 20; exact Q4.out _ _)))
    refine wpQuiet_nil ?_
    intro _ hw'
    obtain ⟨⟨dq, osq⟩, hw''⟩ := hw'
    subst hw''
    have G7 := hide (Grow.trans' G5.out (below_regrown wx dq osq))
    clear sx0 sx1 x0 x1
    generalize grow (redrawn wx dq) osq = wz at *
    go_wp2
    go_ret
    exact ⟨rfl, G7.out⟩

set_option maxRecDepth 100000 in
theorem FnOne_lifted (os : Os) (started : os.Started) (H : Type) (enc : TypeId × Value → H) :
    ReturnsInHanded {} Try.checked os 3 .any (Rows.fnOneSpec.pre6 enc Try.prog Try.f3 Rows.fnOneRow.domain false) (Rows.fnOneSpec.post enc Try.prog Try.f3 false true false false) := by
  refine returnsInHanded_of_change (C := Try.checked) own started (by kernel_rfl) Try.func3
    (ChangeSpec.witness6 (enc := enc) (C := Try.checked) false ⟨#[], #[.int .i64 0, .int .i64 0, .agg #[.int .i64 0, .int .i64 0]], []⟩ 8 (by kernel_rfl) (by kernel_rfl) (by kernel_rfl) (by kernel_rfl)) ?_
  intro W base args ds gs before hval0 hW hcnd _
  have hval : ∀ (j : Nat) t v, Try.f3.params[j]? = some t → args[j]? = some v → Value.okWide Try.prog W .any base t v := hval0
  have hW' := hW
  obtain ⟨p, q, hA0, hV, rfl, hfz, hnd⟩ := hW
  have hA : DataW.TrodAll enc Try.prog W 0 (fun _ => true) true Try.f3.params.toList args.toList ds p := hA0
  rw [Try.params3] at hA hval
  obtain ⟨v0, vs0, d0, ds0, p0, q0, hargs, rfl, rfl, h0, r0⟩ := trodAll_cons hA
  obtain ⟨v1, vs1, d1, ds1, p1, q1, rfl, rfl, rfl, h1, r1⟩ := trodAll_cons r0
  obtain ⟨v2, vs2, d2, ds2, p2, q2, rfl, rfl, rfl, h2, r2⟩ := trodAll_cons r1
  obtain ⟨rfl, rfl, rfl⟩ := trodAll_nil r2
  obtain rfl : args = #[v0, v1, v2] := by cases args; simp_all
  obtain ⟨rfl, rfl⟩ := trodVars_none hV
  obtain ⟨a0, rfl, rfl, rfl, w0⟩ := open_int Try.underlying3 (hval 0 3 v0 rfl rfl) h0
  obtain ⟨a1, rfl, rfl, rfl, w1⟩ := open_int Try.underlying3 (hval 1 3 v1 rfl rfl) h1
  have k2 := h2
  have lt2 : ∀ x ∈ p2, x.block < W.heap.size := by obtain ⟨m, hm⟩ := k2; exact DataW.trod_lt m _ _ _ hm
  obtain ⟨t2, rfl, w2⟩ := open_rc (hval 2 23 v2 rfl rfl) h2
  clear hA0 hval0
  refine (FnOne_any a0 a1 t2 W).mono fun e W' ⟨he, bel⟩ => ?_
  subst he
  exact ⟨_, rfl, _, _, _, [], _, [], hW', trodAll_mk1 (shut_bool Try.underlying4 _), (trodAll_cons_mk (shut_int Try.underlying3 w0) (trodAll_cons_mk (shut_int Try.underlying3 w1) (trodAll_cons_mk (Below.trod laidOut (by kernel_rfl) (of_decide_eq_true (by kernel_rfl)) k2 bel lt2) trodAll_mk0))), rfl, bel.frame _, fun h => by cases h⟩

/-- The given statement. -/
theorem FnOne_holds : Rows.FnOneSaid :=
  OpenClaim.holds_of_wide 3 Try.f3 rfl rfl rfl rfl rfl rfl rfl ⟨rfl, rfl, rfl, rfl, rfl⟩ rfl rfl rfl rfl rfl (by kernel_rfl) Try.func3 (by kernel_rfl)
    (of_decide_eq_true (by kernel_rfl)) (by unfold Func.isWrapper; first | (rw [if_pos (by decide +kernel)]; kernel_rfl) | (rw [if_neg (by decide +kernel)]; exact ⟨rfl, rfl⟩))
    (fun os started H enc _ => FnOne_lifted os started H enc)


end Go.Proofs.Ythkkjhjbojbbaaa
