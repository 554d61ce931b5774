/-
  FnSplits: for every number and every record: each record is below a number, or not; what is kept by keys are those whose key has the route 0; the call returns true and leaves its arguments as they were. No conditions.
-/
import Derived.Test.YthkkjhjbojbbaaaFHd
namespace Go.Proofs.Ythkkjhjbojbbaaa
set_option maxRecDepth 100000
open Go.ChangeShapes Go.WideShapes Go.ChangeAt Go.RowKit Go.Deep Go.Sort
attribute [local go_sem ↓] eqRc
set_option linter.unusedVariables false
set_option linter.unusedSimpArgs false

theorem map_is' (a b k v : Int) (hr : mayR ⟨k, v⟩ = true) {k' v' : Int} (ht : mapR a b ⟨k, v⟩ = ⟨k', v'⟩) (w : World) :
    Calls Try.prog 17 #[.int .i64 a, .int .i64 b, .agg #[.int .i64 k, .int .i64 v]] w fun e w' => e = .returned (.agg #[.int .i64 k', .int .i64 v']) ∧ Grow w w' := map_is a b ⟨k, v⟩ hr ht w
theorem fil_is' (a b k v : Int) {p : Bool} (hp : filR a b ⟨k, v⟩ = p) (w : World) :
    Calls Try.prog 19 #[.int .i64 a, .int .i64 b, .agg #[.int .i64 k, .int .i64 v]] w fun e w' => e = .returned (.bool p) ∧ Grow w w' := fil_any a b ⟨k, v⟩ hp w
theorem route_g (k m : Int) (hB : m ≤ 9223372036854775807) {z : Int} (hz : routeI k m = z) (w : World) :
    Calls Try.prog 25 #[.int .i64 k, .int .i64 m] w fun e w' => e = .returned (.int .i64 z) ∧ Grow w w' := (route_at k m hB hz w).mono fun e w' ⟨h, k⟩ => ⟨h, by rw [k]; exact Grow.rfl' _⟩
set_option maxHeartbeats 4000000 in
theorem FnSplits_any (b k v : Int) (w : World) :
    Calls Try.prog 8 #[.int .i64 b, .agg #[.int .i64 k, .int .i64 v]] w fun e w' => e = .returned (.bool true) ∧ Grow w w' := by
  have G0 : Hid (Grow w (w.alloc (.cells #[.int .i64 k, .int .i64 v] 23))) := hide (Grow.alloc' _ _)
  have K0 : Hid (Box (w.alloc (.cells #[.int .i64 k, .int .i64 v] 23)) w.heap.size ⟨k, v⟩) := hide (Box.new w ⟨k, v⟩)
  go_enter Try.func8, Try.ntmps8
  go_wp2_with fail
  generalize w.alloc (.cells #[.int .i64 k, .int .i64 v] 23) = w0 at *
  generalize w.heap.size = P at *
  refine (shown_any _).mono ?_
  rintro e w1 ⟨rfl, hb⟩
  have G1 := hide (Grow.trans' G0.out hb)
  have K1 := hide (K0.out.later hb)
  obtain ⟨p0, p1⟩ := K1.out
  clear hb G0 K0
  go_wp2_with fail
  refine (refMay_any ⟨k, v⟩ _).mono ?_
  rintro e w2 ⟨rfl, hb⟩
  have G2 := hide (Grow.trans' G1.out hb)
  have K2 := hide (K1.out.later hb)
  clear hb G1 K1 p0 p1
  obtain ⟨p, hp⟩ : ∃ p, mayR ⟨k, v⟩ = p := ⟨_, rfl⟩
  rw [hp]
  have HP := hide hp
  clear hp
  cases p
  · go_wp2_with fail
    go_ret
    exact ⟨rfl, G2.out⟩
  · by_cases h1 : b < -1000
    · go_wp2_with fail
      go_ret
      exact ⟨rfl, G2.out⟩
    · by_cases h2 : 1000 < b
      · go_wp2_with fail
        go_ret
        exact ⟨rfl, G2.out⟩
      · obtain ⟨hk, hv⟩ := (mayR_iff _).1 HP.out
        dsimp only at hk hv
        have HKV := hide (And.intro hk hv)
        have hbv : (v < b ∧ ¬ b ≤ v) ∨ (¬ v < b ∧ b ≤ v) := by omega
        obtain ⟨x0, x1⟩ := K2.out
        have sx0 := cell_regrown x0; have sx1 := cell_regrown x1
        rename World => w2
        rcases hbv with ⟨h3, h4⟩ | ⟨h3, h4⟩
        · have dd3 : decide (v < b) = true := (by simpa using h3)
          have Q1 := hide (fun dd os => Calls.regrown_of (fil_is' 1 b k v (p := true) (by simp [filR, mayFilB]; omega) (grow (redrawn w2 dd) os)))
          have Q2 := hide (fun dd os => Calls.regrown_of (fil_is' 2 b k v (p := false) (by simp [filR, mayFilB]; omega) (grow (redrawn w2 dd) os)))
          clear hk hv
          go_wp2_with fail
          refine wp_region_quiet_below (by kernel_rfl) (by kernel_rfl) ?_
          repeat (go_big_quiet_step (first | (go_at_call 19; with_reducible exact Q1.out _ _) | (go_at_call 19; with_reducible exact Q2.out _ _)))
          refine wpQuiet_nil ?_
          intro _ hw'
          obtain ⟨⟨dq, osq⟩, hw''⟩ := hw'
          subst hw''
          have G3 := hide (Grow.trans' G2.out (below_regrown w2 dq osq))
          have K3 := hide (K2.out.later (below_regrown w2 dq osq))
          clear sx0 sx1 x0 x1 G2 K2 Q1 Q2 dd3
          generalize grow (redrawn w2 dq) osq = w3 at *
          obtain ⟨y0, y1⟩ := K3.out
          by_cases h5 : b < 1
          · have C3 := hide (fil_is' 3 b k v (p := false) (by simp [filR, mayFilB]; omega) w3)
            go_wp2_with fail
            refine (C3.out).mono ?_
            rintro e w4 ⟨rfl, hb⟩
            have G4 := hide (Grow.trans' G3.out hb)
            clear hb
            go_wp2_with fail
            go_ret
            exact ⟨rfl, G4.out⟩
          · obtain ⟨z, hz⟩ : ∃ z, z = modI v b := ⟨_, rfl⟩
            obtain ⟨y, hy⟩ : ∃ y, y = modI k b := ⟨_, rfl⟩
            have hzi := modI_in (x := v) (b := b) (by omega)
            have hzt := modI_tmod (x := v) (b := b) (by omega)
            rw [← hz] at hzi hzt
            have hkv := HKV.out
            have C3 := hide (map_is' 3 b k v HP.out (k' := z) (v' := v) (by rw [hz]; simp [mapR, mayMapB]; omega) w3)
            have hwr : IntKind.i64.wrap (v - z) = v - z := IntWalk.i64_in _ ⟨by omega, by omega⟩
            have HZ := hide hz
            have HY := hide hy
            have hz0 : 0 ≤ z := hzi.1
            have hzb : z < b := hzi.2
            have hb0 : ¬ b = 0 := by omega
            have hd1 : decide (0 ≤ z) = true := by simpa using hz0
            have hd2 : decide (z < b) = true := by simpa using hzb
            have hd3 : (Int.tmod (v - z) b == 0) = true := by rw [hzt]; rfl
            have hd4 : (z == z) = true := by simp
            clear hz hy hzi hkv
            go_wp2_with fail
            refine (C3.out).mono ?_
            rintro e w4 ⟨rfl, hb⟩
            have KM : Hid (Box (w4.alloc (.cells #[.int .i64 z, .int .i64 v] 23)) w4.heap.size ⟨z, v⟩) := hide (Box.new w4 ⟨z, v⟩)
            have G4 : Hid (Grow w (w4.alloc (.cells #[.int .i64 z, .int .i64 v] 23))) := hide (Grow.trans' (Grow.trans' G3.out hb) (Grow.alloc' _ _))
            have K4 : Hid (Box (w4.alloc (.cells #[.int .i64 z, .int .i64 v] 23)) P ⟨k, v⟩) := hide ((K3.out.later hb).later (Grow.alloc' _ _))
            clear hb y0 y1 C3 G3 K3
            go_wp2_with fail
            generalize w4.alloc (.cells #[.int .i64 z, .int .i64 v] 23) = w5 at *
            generalize w4.heap.size = PM at *
            obtain ⟨f, hf⟩ : ∃ f, f = decide (y = 0) := ⟨_, rfl⟩
            have Q3 := hide (fun dd os => Calls.regrown_of (fil_is' 3 b k v (p := f) (by rw [hf, HY.out]; simp [filR, mayFilB]; omega) (grow (redrawn w5 dd) os)))
            have Q4 := hide (fun dd os => Calls.regrown_of (route_g k b (by omega) (z := y) (by rw [HY.out]; unfold routeI; rw [if_neg (by omega)]) (grow (redrawn w5 dd) os)))
            have Q5 := hide (fun dd os => Calls.regrown_of (route_g v b (by omega) (z := z) (by rw [HZ.out]; unfold routeI; rw [if_neg (by omega)]) (grow (redrawn w5 dd) os)))
            have hf1 : (y == 0) = f := by rw [hf, Bool.eq_iff_iff]; simp
            clear hf
            obtain ⟨x0, x1⟩ := K4.out
            obtain ⟨m0, m1⟩ := KM.out
            have sx0 := cell_regrown x0; have sx1 := cell_regrown x1; have sm0 := cell_regrown m0; have sm1 := cell_regrown m1
            refine wp_region_quiet_below (by kernel_rfl) (by kernel_rfl) ?_
            repeat (go_big_quiet_step (first | (go_at_call 19; with_reducible exact Q3.out _ _) | (go_at_call 25; with_reducible exact Q4.out _ _) | (go_at_call 25; with_reducible exact Q5.out _ _)))
            refine wpQuiet_nil ?_
            intro _ hw'
            obtain ⟨⟨dr, osr⟩, hw''⟩ := hw'
            subst hw''
            have G8 := hide (Grow.trans' G4.out (below_regrown w5 dr osr))
            clear sx0 sx1 x0 x1 sm0 sm1 m0 m1
            generalize grow (redrawn w5 dr) osr = w8 at *
            go_wp2
            go_ret
            exact ⟨rfl, G8.out⟩
        · have dd3 : decide (v < b) = false := (by simpa using h3)
          have Q1 := hide (fun dd os => Calls.regrown_of (fil_is' 1 b k v (p := false) (by simp [filR, mayFilB]; omega) (grow (redrawn w2 dd) os)))
          have Q2 := hide (fun dd os => Calls.regrown_of (fil_is' 2 b k v (p := true) (by simp [filR, mayFilB]; omega) (grow (redrawn w2 dd) os)))
          clear hk hv
          go_wp2_with fail
          refine wp_region_quiet_below (by kernel_rfl) (by kernel_rfl) ?_
          repeat (go_big_quiet_step (first | (go_at_call 19; with_reducible exact Q1.out _ _) | (go_at_call 19; with_reducible exact Q2.out _ _)))
          refine wpQuiet_nil ?_
          intro _ hw'
          obtain ⟨⟨dq, osq⟩, hw''⟩ := hw'
          subst hw''
          have G3 := hide (Grow.trans' G2.out (below_regrown w2 dq osq))
          have K3 := hide (K2.out.later (below_regrown w2 dq osq))
          clear sx0 sx1 x0 x1 G2 K2 Q1 Q2 dd3
          generalize grow (redrawn w2 dq) osq = w3 at *
          obtain ⟨y0, y1⟩ := K3.out
          by_cases h5 : b < 1
          · have C3 := hide (fil_is' 3 b k v (p := false) (by simp [filR, mayFilB]; omega) w3)
            go_wp2_with fail
            refine (C3.out).mono ?_
            rintro e w4 ⟨rfl, hb⟩
            have G4 := hide (Grow.trans' G3.out hb)
            clear hb
            go_wp2_with fail
            go_ret
            exact ⟨rfl, G4.out⟩
          · obtain ⟨z, hz⟩ : ∃ z, z = modI v b := ⟨_, rfl⟩
            obtain ⟨y, hy⟩ : ∃ y, y = modI k b := ⟨_, rfl⟩
            have hzi := modI_in (x := v) (b := b) (by omega)
            have hzt := modI_tmod (x := v) (b := b) (by omega)
            rw [← hz] at hzi hzt
            have hkv := HKV.out
            have C3 := hide (map_is' 3 b k v HP.out (k' := z) (v' := v) (by rw [hz]; simp [mapR, mayMapB]; omega) w3)
            have hwr : IntKind.i64.wrap (v - z) = v - z := IntWalk.i64_in _ ⟨by omega, by omega⟩
            have HZ := hide hz
            have HY := hide hy
            have hz0 : 0 ≤ z := hzi.1
            have hzb : z < b := hzi.2
            have hb0 : ¬ b = 0 := by omega
            have hd1 : decide (0 ≤ z) = true := by simpa using hz0
            have hd2 : decide (z < b) = true := by simpa using hzb
            have hd3 : (Int.tmod (v - z) b == 0) = true := by rw [hzt]; rfl
            have hd4 : (z == z) = true := by simp
            clear hz hy hzi hkv
            go_wp2_with fail
            refine (C3.out).mono ?_
            rintro e w4 ⟨rfl, hb⟩
            have KM : Hid (Box (w4.alloc (.cells #[.int .i64 z, .int .i64 v] 23)) w4.heap.size ⟨z, v⟩) := hide (Box.new w4 ⟨z, v⟩)
            have G4 : Hid (Grow w (w4.alloc (.cells #[.int .i64 z, .int .i64 v] 23))) := hide (Grow.trans' (Grow.trans' G3.out hb) (Grow.alloc' _ _))
            have K4 : Hid (Box (w4.alloc (.cells #[.int .i64 z, .int .i64 v] 23)) P ⟨k, v⟩) := hide ((K3.out.later hb).later (Grow.alloc' _ _))
            clear hb y0 y1 C3 G3 K3
            go_wp2_with fail
            generalize w4.alloc (.cells #[.int .i64 z, .int .i64 v] 23) = w5 at *
            generalize w4.heap.size = PM at *
            obtain ⟨f, hf⟩ : ∃ f, f = decide (y = 0) := ⟨_, rfl⟩
            have Q3 := hide (fun dd os => Calls.regrown_of (fil_is' 3 b k v (p := f) (by rw [hf, HY.out]; simp [filR, mayFilB]; omega) (grow (redrawn w5 dd) os)))
            have Q4 := hide (fun dd os => Calls.regrown_of (route_g k b (by omega) (z := y) (by rw [HY.out]; unfold routeI; rw [if_neg (by omega)]) (grow (redrawn w5 dd) os)))
            have Q5 := hide (fun dd os => Calls.regrown_of (route_g v b (by omega) (z := z) (by rw [HZ.out]; unfold routeI; rw [if_neg (by omega)]) (grow (redrawn w5 dd) os)))
            have hf1 : (y == 0) = f := by rw [hf, Bool.eq_iff_iff]; simp
            clear hf
            obtain ⟨x0, x1⟩ := K4.out
            obtain ⟨m0, m1⟩ := KM.out
            have sx0 := cell_regrown x0; have sx1 := cell_regrown x1; have sm0 := cell_regrown m0; have sm1 := cell_regrown m1
            refine wp_region_quiet_below (by kernel_rfl) (by kernel_rfl) ?_
            repeat (go_big_quiet_step (first | (go_at_call 19; with_reducible exact Q3.out _ _) | (go_at_call 25; with_reducible exact Q4.out _ _) | (go_at_call 25; with_reducible exact Q5.out _ _)))
            refine wpQuiet_nil ?_
            intro _ hw'
            obtain ⟨⟨dr, osr⟩, hw''⟩ := hw'
            subst hw''
            have G8 := hide (Grow.trans' G4.out (below_regrown w5 dr osr))
            clear sx0 sx1 x0 x1 sm0 sm1 m0 m1
            generalize grow (redrawn w5 dr) osr = w8 at *
            go_wp2
            go_ret
            exact ⟨rfl, G8.out⟩

set_option maxRecDepth 100000 in
theorem FnSplits_lifted (os : Os) (started : os.Started) (H : Type) (enc : TypeId × Value → H) :
    ReturnsInHanded {} Try.checked os 8 .any (Rows.fnSplitsSpec.pre6 enc Try.prog Try.f8 Rows.fnSplitsRow.domain false) (Rows.fnSplitsSpec.post enc Try.prog Try.f8 false true false false) := by
  refine returnsInHanded_of_change (C := Try.checked) own started (by kernel_rfl) Try.func8
    (ChangeSpec.witness6 (enc := enc) (C := Try.checked) false ⟨#[], #[.int .i64 0, .agg #[.int .i64 0, .int .i64 0]], []⟩ 8 (by kernel_rfl) (by kernel_rfl) (by kernel_rfl) (by kernel_rfl)) ?_
  intro W base args ds gs before hval0 hW hcnd _
  have hval : ∀ (j : Nat) t v, Try.f8.params[j]? = some t → args[j]? = some v → Value.okWide Try.prog W .any base t v := hval0
  have hW' := hW
  obtain ⟨p, q, hA0, hV, rfl, hfz, hnd⟩ := hW
  have hA : DataW.TrodAll enc Try.prog W 0 (fun _ => true) true Try.f8.params.toList args.toList ds p := hA0
  rw [Try.params8] at hA hval
  obtain ⟨v0, vs0, d0, ds0, p0, q0, hargs, rfl, rfl, h0, r0⟩ := trodAll_cons hA
  obtain ⟨v1, vs1, d1, ds1, p1, q1, rfl, rfl, rfl, h1, r1⟩ := trodAll_cons r0
  obtain ⟨rfl, rfl, rfl⟩ := trodAll_nil r1
  obtain rfl : args = #[v0, v1] := by cases args; simp_all
  obtain ⟨rfl, rfl⟩ := trodVars_none hV
  obtain ⟨a0, rfl, rfl, rfl, w0⟩ := open_int Try.underlying3 (hval 0 3 v0 rfl rfl) h0
  have k1 := h1
  have lt1 : ∀ x ∈ p1, x.block < W.heap.size := by obtain ⟨m, hm⟩ := k1; exact DataW.trod_lt m _ _ _ hm
  obtain ⟨t1, rfl, w1⟩ := open_rc (hval 1 23 v1 rfl rfl) h1
  clear hA0 hval0
  refine (FnSplits_any a0 t1.k t1.v W).mono fun e W' ⟨he, bel⟩ => ?_
  subst he
  exact ⟨_, rfl, _, _, _, [], _, [], hW', trodAll_mk1 (shut_bool Try.underlying4 _), (trodAll_cons_mk (shut_int Try.underlying3 w0) (trodAll_cons_mk (Below.trod laidOut (by kernel_rfl) (of_decide_eq_true (by kernel_rfl)) k1 bel lt1) trodAll_mk0)), rfl, bel.frame _, fun h => by cases h⟩

/-- The given statement. -/
theorem FnSplits_holds : Rows.FnSplitsSaid :=
  OpenClaim.holds_of_wide 8 Try.f8 rfl rfl rfl rfl rfl rfl rfl ⟨rfl, rfl, rfl, rfl, rfl⟩ rfl rfl rfl rfl rfl (by kernel_rfl) Try.func8 (by kernel_rfl)
    (of_decide_eq_true (by kernel_rfl)) (by unfold Func.isWrapper; first | (rw [if_pos (by decide +kernel)]; kernel_rfl) | (rw [if_neg (by decide +kernel)]; exact ⟨rfl, rfl⟩))
    (fun os started H enc _ => FnSplits_lifted os started H enc)


end Go.Proofs.Ythkkjhjbojbbaaa
