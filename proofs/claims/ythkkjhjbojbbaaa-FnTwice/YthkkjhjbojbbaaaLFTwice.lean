/-
  FnTwice: for every number and every record: to change places twice does nothing, a number that is set twice is set once, what is added can be taken away again if it is not held; the call returns true and leaves its arguments as they were. No conditions.
-/
import Derived.Test.YthkkjhjbojbbaaaFHd
namespace Go.Proofs.Ythkkjhjbojbbaaa
set_option maxRecDepth 100000
open Go.ChangeShapes Go.WideShapes Go.ChangeAt Go.RowKit Go.Deep Go.Sort
attribute [local go_sem ↓] eqRc
set_option linter.unusedVariables false
set_option linter.unusedSimpArgs false

theorem map_is' (a b k v : Int) (hr : mayR ⟨k, v⟩ = true) {k' v' : Int} (ht : mapR a b ⟨k, v⟩ = ⟨k', v'⟩) (w : World) :
    Calls Try.prog 17 #[.int .i64 a, .int .i64 b, .agg #[.int .i64 k, .int .i64 v]] w fun e w' => e = .returned (.agg #[.int .i64 k', .int .i64 v']) ∧ Grow w w' := map_is a b ⟨k, v⟩ hr ht w
theorem eqR_refl' (k v : Int) (w : World) : (Op.equalIn 10000 23 (.agg #[.int .i64 k, .int .i64 v]) (.agg #[.int .i64 k, .int .i64 v])).run Try.prog w = .ok true w := by
  have := eqRc ⟨k, v⟩ ⟨k, v⟩ w
  rw [(eqR_iff _ _).2 rfl] at this
  exact this
attribute [local go_sem ↓] eqR_refl'
set_option maxHeartbeats 4000000 in
theorem FnTwice_any (b k v : Int) (w : World) :
    Calls Try.prog 7 #[.int .i64 b, .agg #[.int .i64 k, .int .i64 v]] w fun e w' => e = .returned (.bool true) ∧ Grow w w' := by
  have G0 : Hid (Grow w (w.alloc (.cells #[.int .i64 k, .int .i64 v] 23))) := hide (Grow.alloc' _ _)
  have K0 : Hid (Box (w.alloc (.cells #[.int .i64 k, .int .i64 v] 23)) w.heap.size ⟨k, v⟩) := hide (Box.new w ⟨k, v⟩)
  go_enter Try.func7, Try.ntmps7
  go_wp2_with fail
  generalize w.alloc (.cells #[.int .i64 k, .int .i64 v] 23) = w0 at *
  generalize w.heap.size = P at *
  refine (shown_any _).mono ?_
  rintro e w1 ⟨rfl, hb⟩
  have G1 := hide (Grow.trans' G0.out hb)
  have K1 := hide (K0.out.later hb)
  obtain ⟨p0, p1⟩ := K1.out
  clear hb G0 K0
  go_wp2_with fail
  refine (refMay_any ⟨k, v⟩ _).mono ?_
  rintro e w2 ⟨rfl, hb⟩
  have G2 := hide (Grow.trans' G1.out hb)
  have K2 := hide (K1.out.later hb)
  clear hb G1 K1 p0 p1
  obtain ⟨p, hp⟩ : ∃ p, mayR ⟨k, v⟩ = p := ⟨_, rfl⟩
  rw [hp]
  have HP := hide hp
  clear hp
  cases p
  · go_wp2_with fail
    go_ret
    exact ⟨rfl, G2.out⟩
  · by_cases h1 : b < -1000
    · go_wp2_with fail
      go_ret
      exact ⟨rfl, G2.out⟩
    · by_cases h2 : 1000 < b
      · go_wp2_with fail
        go_ret
        exact ⟨rfl, G2.out⟩
      · obtain ⟨hk, hv⟩ := (mayR_iff _).1 HP.out
        dsimp only at hk hv
        have HKV := hide (And.intro hk hv)
        obtain ⟨q0, q1⟩ := K2.out
        have C5 := hide (map_is' 5 b k v HP.out (k' := k) (v' := b) (by simp [mapR, mayMapB]; try omega) w2)
        go_wp2_with fail
        refine (C5.out).mono ?_
        rintro e w3 ⟨rfl, hb⟩
        have KS : Hid (Box (w3.alloc (.cells #[.int .i64 k, .int .i64 b] 23)) w3.heap.size ⟨k, b⟩) := hide (Box.new w3 ⟨k, b⟩)
        have G3 : Hid (Grow w (w3.alloc (.cells #[.int .i64 k, .int .i64 b] 23))) := hide (Grow.trans' (Grow.trans' G2.out hb) (Grow.alloc' _ _))
        have K3 : Hid (Box (w3.alloc (.cells #[.int .i64 k, .int .i64 b] 23)) P ⟨k, v⟩) := hide ((K2.out.later hb).later (Grow.alloc' _ _))
        clear hb q0 q1 C5 G2 K2
        obtain ⟨q0, q1⟩ := K3.out
        obtain ⟨u, hu⟩ : ∃ u, u = heldI (v + b) := ⟨_, rfl⟩
        have HU := hide hu
        have C1 := hide (map_is' 1 b k v HP.out (k' := k) (v' := u) (by rw [hu]; simp [mapR, mayMapB]; try omega) (w3.alloc (.cells #[.int .i64 k, .int .i64 b] 23)))
        have hwr : IntKind.i64.wrap (v + b) = v + b := IntWalk.i64_in _ ⟨by omega, by omega⟩
        have hng : IntKind.i64.wrap (-b) = -b := IntWalk.i64_in _ ⟨by omega, by omega⟩
        clear hu hk hv
        go_wp2_with fail
        generalize w3.alloc (.cells #[.int .i64 k, .int .i64 b] 23) = w4 at *
        generalize w3.heap.size = PS at *
        refine (C1.out).mono ?_
        rintro e w5 ⟨rfl, hb⟩
        have KU : Hid (Box (w5.alloc (.cells #[.int .i64 k, .int .i64 u] 23)) w5.heap.size ⟨k, u⟩) := hide (Box.new w5 ⟨k, u⟩)
        have G5 : Hid (Grow w (w5.alloc (.cells #[.int .i64 k, .int .i64 u] 23))) := hide (Grow.trans' (Grow.trans' G3.out hb) (Grow.alloc' _ _))
        have K5 : Hid (Box (w5.alloc (.cells #[.int .i64 k, .int .i64 u] 23)) P ⟨k, v⟩) := hide ((K3.out.later hb).later (Grow.alloc' _ _))
        have S5 : Hid (Box (w5.alloc (.cells #[.int .i64 k, .int .i64 u] 23)) PS ⟨k, b⟩) := hide ((KS.out.later hb).later (Grow.alloc' _ _))
        clear hb q0 q1 C1 G3 K3 KS
        obtain ⟨p, hp⟩ : ∃ p, p = w5.alloc (.cells #[.int .i64 k, .int .i64 u] 23) := ⟨_, rfl⟩
        go_wp2_with fail
        clear hp p
        generalize w5.alloc (.cells #[.int .i64 k, .int .i64 u] 23) = w6 at *
        generalize w5.heap.size = PU at *
        obtain ⟨x0, x1⟩ := K5.out
        obtain ⟨y0, y1⟩ := KU.out
        have sx0 := cell_regrown x0; have sx1 := cell_regrown x1; have sy0 := cell_regrown y0; have sy1 := cell_regrown y1
        have hc : (1099511627776 < v + b) ∨ (¬ 1099511627776 < v + b ∧ v + b < -1099511627776) ∨ (¬ 1099511627776 < v + b ∧ ¬ v + b < -1099511627776) := by omega
        have QU : Hid (¬ 1099511627776 < v + b ∧ ¬ v + b < -1099511627776 → ∀ dd os, Calls Try.prog 17 #[.int .i64 1, .int .i64 (-b), .agg #[.int .i64 k, .int .i64 u]] (grow (redrawn w6 dd) os) fun e w' => e = .returned (.agg #[.int .i64 k, .int .i64 v]) ∧ Grow (grow (redrawn w6 dd) os) w') := hide (fun hn dd os => by
          have huv : u = v + b := by rw [HU.out, heldI_id (by omega)]
          have := HKV.out
          refine map_is' 1 (-b) k u (by rw [mayR_iff, huv]; dsimp only; omega) ?_ _
          have hh : heldI (u + -b) = v := by rw [huv, show v + b + -b = v by omega, heldI_id (by omega)]
          simp [mapR, mayMapB, hh]
          try omega)
        rcases hc with h3 | ⟨h3, h4⟩ | ⟨h3, h4⟩
        · have d3 : decide (1099511627776 < v + b) = true := by simpa using h3
          refine wp_region_quiet_below (by kernel_rfl) (by kernel_rfl) ?_
          repeat (go_big_quiet_step (fail))
          refine wpQuiet_nil ?_
          intro _ hw'
          obtain ⟨⟨dq, osq⟩, hw''⟩ := hw'
          subst hw''
          have G7 := hide (Grow.trans' G5.out (below_regrown w6 dq osq))
          have K7 := hide (K5.out.later (below_regrown w6 dq osq))
          have S7 := hide (S5.out.later (below_regrown w6 dq osq))
          clear sx0 sx1 x0 x1 sy0 sy1 y0 y1 QU G5 K5 S5 KU
          generalize grow (redrawn w6 dq) osq = w7 at *
          have M1 := hide (fun dd os => Calls.regrown_of (map_is' 4 b k v HP.out (k' := v) (v' := k) (by simp [mapR, mayMapB]; try omega) (grow (redrawn w7 dd) os)))
          have M2 := hide (fun dd os => Calls.regrown_of (map_is' 4 b v k (by have := HKV.out; rw [mayR_iff]; exact ⟨this.2, this.1⟩) (k' := k) (v' := v) (by simp [mapR, mayMapB]; try omega) (grow (redrawn w7 dd) os)))
          have M3 := hide (fun dd os => Calls.regrown_of (map_is' 5 b k b (by have := HKV.out; rw [mayR_iff]; dsimp only; omega) (k' := k) (v' := b) (by simp [mapR, mayMapB]; try omega) (grow (redrawn w7 dd) os)))
          have M4 := hide (fun dd os => Calls.regrown_of (map_is' 2 1 k v HP.out (k' := k) (v' := v) (by simp [mapR, mayMapB]; exact heldI_id HKV.out.2) (grow (redrawn w7 dd) os)))
          have M5 := hide (fun dd os => Calls.regrown_of (map_is' 0 b k v HP.out (k' := k) (v' := v) (by simp [mapR, mayMapB]) (grow (redrawn w7 dd) os)))
          obtain ⟨x0, x1⟩ := K7.out
          obtain ⟨y0, y1⟩ := S7.out
          have sx0 := cell_regrown x0; have sx1 := cell_regrown x1; have sy0 := cell_regrown y0; have sy1 := cell_regrown y1
          go_wp2_with fail
          refine wp_region_quiet_below (by kernel_rfl) (by kernel_rfl) ?_
          repeat (go_big_quiet_step (first | (go_at_call 17; with_reducible exact M1.out _ _) | (go_at_call 17; with_reducible exact M2.out _ _) | (go_at_call 17; with_reducible exact M3.out _ _) | (go_at_call 17; with_reducible exact M4.out _ _) | (go_at_call 17; with_reducible exact M5.out _ _)))
          refine wpQuiet_nil ?_
          intro _ hw'
          obtain ⟨⟨dr, osr⟩, hw''⟩ := hw'
          subst hw''
          have G8 := hide (Grow.trans' G7.out (below_regrown w7 dr osr))
          clear sx0 sx1 x0 x1 sy0 sy1 y0 y1
          generalize grow (redrawn w7 dr) osr = w8 at *
          go_wp2
          go_ret
          exact ⟨rfl, G8.out⟩
        · have d3 : decide (1099511627776 < v + b) = false := (by simpa using h3); have d4 : decide (v + b < -1099511627776) = true := (by simpa using h4)
          refine wp_region_quiet_below (by kernel_rfl) (by kernel_rfl) ?_
          repeat (go_big_quiet_step (fail))
          refine wpQuiet_nil ?_
          intro _ hw'
          obtain ⟨⟨dq, osq⟩, hw''⟩ := hw'
          subst hw''
          have G7 := hide (Grow.trans' G5.out (below_regrown w6 dq osq))
          have K7 := hide (K5.out.later (below_regrown w6 dq osq))
          have S7 := hide (S5.out.later (below_regrown w6 dq osq))
          clear sx0 sx1 x0 x1 sy0 sy1 y0 y1 QU G5 K5 S5 KU
          generalize grow (redrawn w6 dq) osq = w7 at *
          have M1 := hide (fun dd os => Calls.regrown_of (map_is' 4 b k v HP.out (k' := v) (v' := k) (by simp [mapR, mayMapB]; try omega) (grow (redrawn w7 dd) os)))
          have M2 := hide (fun dd os => Calls.regrown_of (map_is' 4 b v k (by have := HKV.out; rw [mayR_iff]; exact ⟨this.2, this.1⟩) (k' := k) (v' := v) (by simp [mapR, mayMapB]; try omega) (grow (redrawn w7 dd) os)))
          have M3 := hide (fun dd os => Calls.regrown_of (map_is' 5 b k b (by have := HKV.out; rw [mayR_iff]; dsimp only; omega) (k' := k) (v' := b) (by simp [mapR, mayMapB]; try omega) (grow (redrawn w7 dd) os)))
          have M4 := hide (fun dd os => Calls.regrown_of (map_is' 2 1 k v HP.out (k' := k) (v' := v) (by simp [mapR, mayMapB]; exact heldI_id HKV.out.2) (grow (redrawn w7 dd) os)))
          have M5 := hide (fun dd os => Calls.regrown_of (map_is' 0 b k v HP.out (k' := k) (v' := v) (by simp [mapR, mayMapB]) (grow (redrawn w7 dd) os)))
          obtain ⟨x0, x1⟩ := K7.out
          obtain ⟨y0, y1⟩ := S7.out
          have sx0 := cell_regrown x0; have sx1 := cell_regrown x1; have sy0 := cell_regrown y0; have sy1 := cell_regrown y1
          go_wp2_with fail
          refine wp_region_quiet_below (by kernel_rfl) (by kernel_rfl) ?_
          repeat (go_big_quiet_step (first | (go_at_call 17; with_reducible exact M1.out _ _) | (go_at_call 17; with_reducible exact M2.out _ _) | (go_at_call 17; with_reducible exact M3.out _ _) | (go_at_call 17; with_reducible exact M4.out _ _) | (go_at_call 17; with_reducible exact M5.out _ _)))
          refine wpQuiet_nil ?_
          intro _ hw'
          obtain ⟨⟨dr, osr⟩, hw''⟩ := hw'
          subst hw''
          have G8 := hide (Grow.trans' G7.out (below_regrown w7 dr osr))
          clear sx0 sx1 x0 x1 sy0 sy1 y0 y1
          generalize grow (redrawn w7 dr) osr = w8 at *
          go_wp2
          go_ret
          exact ⟨rfl, G8.out⟩
        · have d3 : decide (1099511627776 < v + b) = false := (by simpa using h3); have d4 : decide (v + b < -1099511627776) = false := (by simpa using h4); have Q1 := hide (fun dd os => Calls.regrown_of (QU.out ⟨h3, h4⟩ dd os))
          refine wp_region_quiet_below (by kernel_rfl) (by kernel_rfl) ?_
          repeat (go_big_quiet_step (first | (go_at_call 17; exact Q1.out _ _)))
          refine wpQuiet_nil ?_
          intro _ hw'
          obtain ⟨⟨dq, osq⟩, hw''⟩ := hw'
          subst hw''
          have G7 := hide (Grow.trans' G5.out (below_regrown w6 dq osq))
          have K7 := hide (K5.out.later (below_regrown w6 dq osq))
          have S7 := hide (S5.out.later (below_regrown w6 dq osq))
          clear sx0 sx1 x0 x1 sy0 sy1 y0 y1 QU G5 K5 S5 KU
          generalize grow (redrawn w6 dq) osq = w7 at *
          have M1 := hide (fun dd os => Calls.regrown_of (map_is' 4 b k v HP.out (k' := v) (v' := k) (by simp [mapR, mayMapB]; try omega) (grow (redrawn w7 dd) os)))
          have M2 := hide (fun dd os => Calls.regrown_of (map_is' 4 b v k (by have := HKV.out; rw [mayR_iff]; exact ⟨this.2, this.1⟩) (k' := k) (v' := v) (by simp [mapR, mayMapB]; try omega) (grow (redrawn w7 dd) os)))
          have M3 := hide (fun dd os => Calls.regrown_of (map_is' 5 b k b (by have := HKV.out; rw [mayR_iff]; dsimp only; omega) (k' := k) (v' := b) (by simp [mapR, mayMapB]; try omega) (grow (redrawn w7 dd) os)))
          have M4 := hide (fun dd os => Calls.regrown_of (map_is' 2 1 k v HP.out (k' := k) (v' := v) (by simp [mapR, mayMapB]; exact heldI_id HKV.out.2) (grow (redrawn w7 dd) os)))
          have M5 := hide (fun dd os => Calls.regrown_of (map_is' 0 b k v HP.out (k' := k) (v' := v) (by simp [mapR, mayMapB]) (grow (redrawn w7 dd) os)))
          obtain ⟨x0, x1⟩ := K7.out
          obtain ⟨y0, y1⟩ := S7.out
          have sx0 := cell_regrown x0; have sx1 := cell_regrown x1; have sy0 := cell_regrown y0; have sy1 := cell_regrown y1
          go_wp2_with fail
          refine wp_region_quiet_below (by kernel_rfl) (by kernel_rfl) ?_
          repeat (go_big_quiet_step (first | (go_at_call 17; with_reducible exact M1.out _ _) | (go_at_call 17; with_reducible exact M2.out _ _) | (go_at_call 17; with_reducible exact M3.out _ _) | (go_at_call 17; with_reducible exact M4.out _ _) | (go_at_call 17; with_reducible exact M5.out _ _)))
          refine wpQuiet_nil ?_
          intro _ hw'
          obtain ⟨⟨dr, osr⟩, hw''⟩ := hw'
          subst hw''
          have G8 := hide (Grow.trans' G7.out (below_regrown w7 dr osr))
          clear sx0 sx1 x0 x1 sy0 sy1 y0 y1
          generalize grow (redrawn w7 dr) osr = w8 at *
          go_wp2
          go_ret
          exact ⟨rfl, G8.out⟩

set_option maxRecDepth 100000 in
theorem FnTwice_lifted (os : Os) (started : os.Started) (H : Type) (enc : TypeId × Value → H) :
    ReturnsInHanded {} Try.checked os 7 .any (Rows.fnTwiceSpec.pre6 enc Try.prog Try.f7 Rows.fnTwiceRow.domain false) (Rows.fnTwiceSpec.post enc Try.prog Try.f7 false true false false) := by
  refine returnsInHanded_of_change (C := Try.checked) own started (by kernel_rfl) Try.func7
    (ChangeSpec.witness6 (enc := enc) (C := Try.checked) false ⟨#[], #[.int .i64 0, .agg #[.int .i64 0, .int .i64 0]], []⟩ 8 (by kernel_rfl) (by kernel_rfl) (by kernel_rfl) (by kernel_rfl)) ?_
  intro W base args ds gs before hval0 hW hcnd _
  have hval : ∀ (j : Nat) t v, Try.f7.params[j]? = some t → args[j]? = some v → Value.okWide Try.prog W .any base t v := hval0
  have hW' := hW
  obtain ⟨p, q, hA0, hV, rfl, hfz, hnd⟩ := hW
  have hA : DataW.TrodAll enc Try.prog W 0 (fun _ => true) true Try.f7.params.toList args.toList ds p := hA0
  rw [Try.params7] at hA hval
  obtain ⟨v0, vs0, d0, ds0, p0, q0, hargs, rfl, rfl, h0, r0⟩ := trodAll_cons hA
  obtain ⟨v1, vs1, d1, ds1, p1, q1, rfl, rfl, rfl, h1, r1⟩ := trodAll_cons r0
  obtain ⟨rfl, rfl, rfl⟩ := trodAll_nil r1
  obtain rfl : args = #[v0, v1] := by cases args; simp_all
  obtain ⟨rfl, rfl⟩ := trodVars_none hV
  obtain ⟨a0, rfl, rfl, rfl, w0⟩ := open_int Try.underlying3 (hval 0 3 v0 rfl rfl) h0
  have k1 := h1
  have lt1 : ∀ x ∈ p1, x.block < W.heap.size := by obtain ⟨m, hm⟩ := k1; exact DataW.trod_lt m _ _ _ hm
  obtain ⟨t1, rfl, w1⟩ := open_rc (hval 1 23 v1 rfl rfl) h1
  clear hA0 hval0
  refine (FnTwice_any a0 t1.k t1.v W).mono fun e W' ⟨he, bel⟩ => ?_
  subst he
  exact ⟨_, rfl, _, _, _, [], _, [], hW', trodAll_mk1 (shut_bool Try.underlying4 _), (trodAll_cons_mk (shut_int Try.underlying3 w0) (trodAll_cons_mk (Below.trod laidOut (by kernel_rfl) (of_decide_eq_true (by kernel_rfl)) k1 bel lt1) trodAll_mk0)), rfl, bel.frame _, fun h => by cases h⟩

/-- The given statement. -/
theorem FnTwice_holds : Rows.FnTwiceSaid :=
  OpenClaim.holds_of_wide 7 Try.f7 rfl rfl rfl rfl rfl rfl rfl ⟨rfl, rfl, rfl, rfl, rfl⟩ rfl rfl rfl rfl rfl (by kernel_rfl) Try.func7 (by kernel_rfl)
    (of_decide_eq_true (by kernel_rfl)) (by unfold Func.isWrapper; first | (rw [if_pos (by decide +kernel)]; kernel_rfl) | (rw [if_neg (by decide +kernel)]; exact ⟨rfl, rfl⟩))
    (fun os started H enc _ => FnTwice_lifted os started H enc)


end Go.Proofs.Ythkkjhjbojbbaaa
