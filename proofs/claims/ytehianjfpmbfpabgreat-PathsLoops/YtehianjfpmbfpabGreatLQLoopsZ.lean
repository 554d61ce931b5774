/-
  PathsLoops: in a graph of one loop, for every epoch and every counter that a time may have there: one round adds one to the counter; what leaves has none; and nothing comes out of the loop into what leads to it.
-/
import Derived.Test.YtehianjfpmbfpabGreatQLpZ
namespace Go.Proofs.YtehianjfpmbfpabGreat
set_option maxRecDepth 100000
open Go.ChangeShapes Go.WideShapes Go.ChangeAt Go.RowKit Go.Deep Go.Sort
attribute [local go_sem ↓] eqTm5
attribute [local go_sem] eqB
set_option linter.unusedVariables false
set_option linter.unusedSimpArgs false

theorem lp_nodes (w1 : World) : IsNds (((w1.alloc (.cells #[.int .i64 1, .int .i64 0, .int .i64 0, .int .i64 0, .int .i64 8, .int .i64 0, .int .i64 0, .int .i64 1, .int .i64 4, .int .i64 0, .int .i64 0, .int .i64 1, .int .i64 10, .int .i64 6, .int .i64 0, .int .i64 1, .int .i64 9, .int .i64 0, .int .i64 0, .int .i64 0, .int .i64 11, .int .i64 0, .int .i64 0, .int .i64 0] 38)).alloc (.cells #[.int .i64 0, .int .i64 1, .int .i64 0, .int .i64 1, .int .i64 2, .int .i64 0, .int .i64 2, .int .i64 3, .int .i64 0, .int .i64 3, .int .i64 2, .int .i64 1, .int .i64 2, .int .i64 4, .int .i64 0, .int .i64 4, .int .i64 5, .int .i64 0] 41)).alloc (.cells #[.slice none 0 0, .slice none 0 0] 25)) (some ⟨w1.heap.size, 0, none⟩) 6 6 lpN := isNds_lit _ _ _ _ rfl (by
  intro j hj v hv
  have : j = 0 ∨ j = 1 ∨ j = 2 ∨ j = 3 ∨ j = 4 ∨ j = 5 ∨ j = 6 ∨ j = 7 ∨ j = 8 ∨ j = 9 ∨ j = 10 ∨ j = 11 ∨ j = 12 ∨ j = 13 ∨ j = 14 ∨ j = 15 ∨ j = 16 ∨ j = 17 ∨ j = 18 ∨ j = 19 ∨ j = 20 ∨ j = 21 ∨ j = 22 ∨ j = 23 := by omega
  rcases this with rfl | rfl | rfl | rfl | rfl | rfl | rfl | rfl | rfl | rfl | rfl | rfl | rfl | rfl | rfl | rfl | rfl | rfl | rfl | rfl | rfl | rfl | rfl | rfl <;> simp [lpN, flatN, encN] at hv <;> subst hv <;> simp [go_sem])
theorem lp_edges (w1 : World) : IsEds (((w1.alloc (.cells #[.int .i64 1, .int .i64 0, .int .i64 0, .int .i64 0, .int .i64 8, .int .i64 0, .int .i64 0, .int .i64 1, .int .i64 4, .int .i64 0, .int .i64 0, .int .i64 1, .int .i64 10, .int .i64 6, .int .i64 0, .int .i64 1, .int .i64 9, .int .i64 0, .int .i64 0, .int .i64 0, .int .i64 11, .int .i64 0, .int .i64 0, .int .i64 0] 38)).alloc (.cells #[.int .i64 0, .int .i64 1, .int .i64 0, .int .i64 1, .int .i64 2, .int .i64 0, .int .i64 2, .int .i64 3, .int .i64 0, .int .i64 3, .int .i64 2, .int .i64 1, .int .i64 2, .int .i64 4, .int .i64 0, .int .i64 4, .int .i64 5, .int .i64 0] 41)).alloc (.cells #[.slice none 0 0, .slice none 0 0] 25)) (some ⟨w1.heap.size + 1, 0, none⟩) 6 6 lpE := isEds_lit _ _ _ _ rfl (by
  intro j hj v hv
  have : j = 0 ∨ j = 1 ∨ j = 2 ∨ j = 3 ∨ j = 4 ∨ j = 5 ∨ j = 6 ∨ j = 7 ∨ j = 8 ∨ j = 9 ∨ j = 10 ∨ j = 11 ∨ j = 12 ∨ j = 13 ∨ j = 14 ∨ j = 15 ∨ j = 16 ∨ j = 17 := by omega
  rcases this with rfl | rfl | rfl | rfl | rfl | rfl | rfl | rfl | rfl | rfl | rfl | rfl | rfl | rfl | rfl | rfl | rfl | rfl <;> simp [lpE, flatE, encE] at hv <;> subst hv <;> simp [go_sem])

set_option maxHeartbeats 8000000 in
theorem PathsLoops_any (e c : Int) (w : World) :
    Calls Tryz.prog 4 #[.int .i64 e, .int .i64 c] w fun r w' => r = .returned (.bool true) ∧ Grow w w' := by
  go_enter Tryz.func4, Tryz.ntmps4
  go_wp2_with fail
  refine (shown_any _).mono ?_
  rintro _ w1 ⟨rfl, hb⟩
  have G1 := hide hb
  have GP : Hid (Grow w1 (((w1.alloc (.cells #[.int .i64 1, .int .i64 0, .int .i64 0, .int .i64 0, .int .i64 8, .int .i64 0, .int .i64 0, .int .i64 1, .int .i64 4, .int .i64 0, .int .i64 0, .int .i64 1, .int .i64 10, .int .i64 6, .int .i64 0, .int .i64 1, .int .i64 9, .int .i64 0, .int .i64 0, .int .i64 0, .int .i64 11, .int .i64 0, .int .i64 0, .int .i64 0] 38)).alloc (.cells #[.int .i64 0, .int .i64 1, .int .i64 0, .int .i64 1, .int .i64 2, .int .i64 0, .int .i64 2, .int .i64 3, .int .i64 0, .int .i64 3, .int .i64 2, .int .i64 1, .int .i64 2, .int .i64 4, .int .i64 0, .int .i64 4, .int .i64 5, .int .i64 0] 41)).alloc (.cells #[.slice none 0 0, .slice none 0 0] 25))) := hide (Grow.trans' (Grow.trans' (Grow.alloc' _ _) (Grow.alloc' _ _)) (Grow.alloc' _ _))
  have KB : Hid (BlkG (((w1.alloc (.cells #[.int .i64 1, .int .i64 0, .int .i64 0, .int .i64 0, .int .i64 8, .int .i64 0, .int .i64 0, .int .i64 1, .int .i64 4, .int .i64 0, .int .i64 0, .int .i64 1, .int .i64 10, .int .i64 6, .int .i64 0, .int .i64 1, .int .i64 9, .int .i64 0, .int .i64 0, .int .i64 0, .int .i64 11, .int .i64 0, .int .i64 0, .int .i64 0] 38)).alloc (.cells #[.int .i64 0, .int .i64 1, .int .i64 0, .int .i64 1, .int .i64 2, .int .i64 0, .int .i64 2, .int .i64 3, .int .i64 0, .int .i64 3, .int .i64 2, .int .i64 1, .int .i64 2, .int .i64 4, .int .i64 0, .int .i64 4, .int .i64 5, .int .i64 0] 41)).alloc (.cells #[.slice none 0 0, .slice none 0 0] 25)) (w1.heap.size + 1 + 1)) := hide (by
    have := BlkG.new ((w1.alloc (.cells #[.int .i64 1, .int .i64 0, .int .i64 0, .int .i64 0, .int .i64 8, .int .i64 0, .int .i64 0, .int .i64 1, .int .i64 4, .int .i64 0, .int .i64 0, .int .i64 1, .int .i64 10, .int .i64 6, .int .i64 0, .int .i64 1, .int .i64 9, .int .i64 0, .int .i64 0, .int .i64 0, .int .i64 11, .int .i64 0, .int .i64 0, .int .i64 0] 38)).alloc (.cells #[.int .i64 0, .int .i64 1, .int .i64 0, .int .i64 1, .int .i64 2, .int .i64 0, .int .i64 2, .int .i64 3, .int .i64 0, .int .i64 3, .int .i64 2, .int .i64 1, .int .i64 2, .int .i64 4, .int .i64 0, .int .i64 4, .int .i64 5, .int .i64 0] 41)) (.slice none 0 0) (.slice none 0 0)
    simpa using this)
  have IN := hide (lp_nodes w1)
  have IE := hide (lp_edges w1)
  clear hb
  go_wp2_with (refine wpList_putG rfl _ _ rfl (w1.heap.size + 1 + 1) ⟨some ⟨w1.heap.size, 0, none⟩, 6, 6, some ⟨w1.heap.size + 1, 0, none⟩, 6, 6, [], []⟩ rfl rfl KB.out w1 GP.out (by omega) ?_)
  intro w2 hg2 hb2 hoth hsz
  have G2 := hide (Grow.trans' G1.out hg2)
  obtain ⟨g0, g1⟩ := hb2
  have IN2 := IN.out.keep (w' := w2) fun j => hoth ⟨w1.heap.size, j, none⟩ (by simp; omega)
  have IE2 := IE.out.keep (w' := w2) fun j => hoth ⟨w1.heap.size + 1, j, none⟩ (by simp)
  have C1 := hide (new_any (some ⟨w1.heap.size, 0, none⟩) 6 6 (some ⟨w1.heap.size + 1, 0, none⟩) 6 6 lpN lpE lp_acc w2 IN2 IE2)
  clear hg2 hoth hsz IN IE IN2 IE2 KB GP G1
  dsimp only at g0 g1
  go_wp2_with fail
  refine C1.out.mono ?_
  rintro _ w3 ⟨p, rfl, hb, hI⟩
  have G3 := hide (Grow.trans' G2.out hb)
  have HI := hide hI
  clear hb hI C1 G2 g0 g1
  have hc : e < 0 ∨ (¬ e < 0 ∧ 524288 < e) ∨ (¬ e < 0 ∧ ¬ 524288 < e ∧ c < 0) ∨ (¬ e < 0 ∧ ¬ 524288 < e ∧ ¬ c < 0 ∧ 500 < c) ∨ (¬ e < 0 ∧ ¬ 524288 < e ∧ ¬ c < 0 ∧ ¬ 500 < c) := by omega
  rcases hc with h1 | ⟨h1, h2⟩ | ⟨h1, h2, h3⟩ | ⟨h1, h2, h3, h4⟩ | ⟨h1, h2, h3, h4⟩
  rotate_right
  focus
    have C2 := hide (could_any p lpN lpE lp_acc ⟨2, 0⟩ ⟨2, 1⟩ ⟨e, 1, c, 0, 0⟩ (lcWf_lit (by omega) (by omega)) (lcWf_lit (by omega) (by omega)) _ lp_sums1)
    have C3 := hide (could_any p lpN lpE lp_acc ⟨2, 0⟩ ⟨5, 0⟩ ⟨e, 1, c, 0, 0⟩ (lcWf_lit (by omega) (by omega)) (lcWf_lit (by omega) (by omega)) _ lp_sums2)
    have C4 := hide (could_any p lpN lpE lp_acc ⟨2, 0⟩ ⟨1, 0⟩ ⟨e, 1, c, 0, 0⟩ (lcWf_lit (by omega) (by omega)) (lcWf_lit (by omega) (by omega)) _ lp_sums3)
    rw [lp_back (by omega) (by omega) (by omega) (by omega)] at C2
    rw [lp_gone (by omega) (by omega) (by omega) (by omega)] at C3
    rw [shown_none] at C4
    go_wp2_with (refine wpList_putT2 rfl _ _ rfl w3.heap.size ⟨e, 1, c, 0, 0⟩ rfl rfl (BlkT.new w3) w3 (Grow.alloc' _ _) (Nat.le_refl _) ?_)
    intro w4 hg4 hb4 hk4
    have G4 := hide (Grow.trans' G3.out hg4)
    have HI4 := hide (HI.out.later hg4)
    have KT4 := hide hb4
    obtain ⟨t0, t1, t2, t3, t4⟩ := hb4
    clear hg4 hk4 G3 HI
    go_wp2_with (refine wpList_putL rfl _ _ rfl w4.heap.size ⟨2, 0⟩ rfl rfl (BlkL.new w4) w4 (Grow.alloc' _ _) (Nat.le_refl _) ?_)
    intro w5 hg5 hb5
    have G5 := hide (Grow.trans' G4.out hg5)
    have HI5 := hide (HI4.out.later hg5)
    have KT5 := hide (KT4.out.later hg5)
    have KL5 := hide hb5
    clear hg5 G4 HI4 KT4 t0 t1 t2 t3 t4
    obtain ⟨PT, hPT⟩ : ∃ PT, PT = w3.heap.size := ⟨_, rfl⟩
    obtain ⟨PL, hPL⟩ : ∃ PL, PL = w4.heap.size := ⟨_, rfl⟩
    rw [← hPT] at KT5
    rw [← hPL] at KL5 hb5
    obtain ⟨t0, t1, t2, t3, t4⟩ := KT5.out
    obtain ⟨x0, x1⟩ := hb5
    dsimp only at t0 t1 t2 t3 t4 x0 x1
    rw [hPT] at t0 t1 t2 t3 t4
    rw [hPL] at x0 x1
    have D2 := hide (C2.out w5 HI5.out)
    go_wp2_with fail
    refine D2.out.mono ?_
    rintro _ w6 ⟨v, rfl, hb, sa, na, ca, rfl, hra⟩
    have G6 := hide (Grow.trans' G5.out hb)
    have HI6 := hide (HI5.out.later hb)
    have KT6 := hide (KT5.out.later hb)
    have KL6 := hide (KL5.out.later hb)
    have RA := hide hra
    clear hb hra D2 C2 G5 HI5 KT5 KL5 t0 t1 t2 t3 t4 x0 x1
    obtain ⟨t0, t1, t2, t3, t4⟩ := KT6.out
    obtain ⟨x0, x1⟩ := KL6.out
    dsimp only at t0 t1 t2 t3 t4 x0 x1
    rw [hPT] at t0 t1 t2 t3 t4
    rw [hPL] at x0 x1
    have D3 := hide (C3.out w6 HI6.out)
    go_wp2_with fail
    refine D3.out.mono ?_
    rintro _ w7 ⟨v, rfl, hb, sb, nb, cb, rfl, hrb⟩
    have G7 := hide (Grow.trans' G6.out hb)
    have HI7 := hide (HI6.out.later hb)
    have KT7 := hide (KT6.out.later hb)
    have KL7 := hide (KL6.out.later hb)
    have RA7 := hide (RA.out.later hb)
    have RB := hide hrb
    clear hb hrb D3 C3 G6 HI6 KT6 KL6 RA t0 t1 t2 t3 t4 x0 x1
    obtain ⟨t0, t1, t2, t3, t4⟩ := KT7.out
    obtain ⟨x0, x1⟩ := KL7.out
    dsimp only at t0 t1 t2 t3 t4 x0 x1
    rw [hPT] at t0 t1 t2 t3 t4
    rw [hPL] at x0 x1
    have D4 := hide (C4.out w7 HI7.out)
    go_wp2_with fail
    refine D4.out.mono ?_
    rintro _ w8 ⟨v, rfl, hb, sc, nc, cc, rfl, hrc⟩
    have G8 := hide (Grow.trans' G7.out hb)
    have KT8 := hide (KT7.out.later hb)
    have RA8 := hide (RA7.out.later hb)
    have RB8 := hide (RB.out.later hb)
    obtain rfl : nc = 0 := hrc.1.symm
    obtain rfl : na = 1 := RA8.out.1.symm
    obtain rfl : nb = 1 := RB8.out.1.symm
    clear hb hrc D4 C4 G7 HI7 KT7 KL7 RA7 RB t0 t1 t2 t3 t4 x0 x1
    obtain ⟨t0, t1, t2, t3, t4⟩ := KT8.out
    dsimp only at t0 t1 t2 t3 t4
    rw [hPT] at t0 t1 t2 t3 t4
    go_wp2_with (refine wpList_putT2 rfl _ _ rfl w8.heap.size ⟨e, 1, c, 0, 0⟩ rfl rfl (BlkT.new w8) w8 (Grow.alloc' _ _) (Nat.le_refl _) ?_)
    intro w9 hg9 hb9 hk9
    have HG9 := hide hg9
    have HB9 := hide hb9
    have HK9 := hide hk9
    clear hg9 hb9 hk9 KT8 t0 t1 t2 t3 t4
    obtain ⟨PE, hPE⟩ : ∃ PE, PE = w8.heap.size := ⟨_, rfl⟩
    rw [← hPE] at HB9 HK9
    go_wp2_with (refine wpList_setX rfl _ _ rfl PE ⟨e, 1, c, 0, 0⟩ (c + 1) (by rw [hPE]; rfl) (by go_num) HK9.out HB9.out w8 HG9.out (by omega) ?_)
    intro wa hga hba
    have Ga := hide (Grow.trans' G8.out hga)
    obtain ⟨bb, ob, rfl, hrb⟩ := (RB8.out.later hga).2.2.resolve_left (by simp)
    obtain ⟨ba, oa, rfl, hra⟩ := (RA8.out.later hga).2.2.resolve_left (by simp)
    obtain ⟨y0, y1, y2, y3, y4⟩ := hra.at 0 (by simp)
    obtain ⟨z0, z1, z2, z3, z4⟩ := hrb.at 0 (by simp)
    obtain ⟨t0, t1, t2, t3, t4⟩ := hba
    simp only [List.getElem_cons_zero, Nat.zero_mul, Nat.add_zero] at y0 y1 y2 y3 y4 z0 z1 z2 z3 z4
    dsimp only at t0 t1 t2 t3 t4
    clear hga hra hrb HG9 HB9 HK9 RA8 RB8 G8
    have sy0 := cell_regrown y0
    have sy1 := cell_regrown y1
    have sy2 := cell_regrown y2
    have sy3 := cell_regrown y3
    have sy4 := cell_regrown y4
    have st0 := cell_regrown t0
    have st1 := cell_regrown t1
    have st2 := cell_regrown t2
    have st3 := cell_regrown t3
    have st4 := cell_regrown t4
    have sz0 := cell_regrown z0
    have sz1 := cell_regrown z1
    have sz2 := cell_regrown z2
    have sz3 := cell_regrown z3
    have sz4 := cell_regrown z4
    go_wp2_with fail
    refine wp_region_quiet_below (by kernel_rfl) (by kernel_rfl) ?_
    repeat (go_big_quiet_step (fail))
    refine wpQuiet_nil ?_
    intro _ hw'
    obtain ⟨⟨dq, osq⟩, hw''⟩ := hw'
    subst hw''
    have GB := hide (Grow.trans' Ga.out (below_regrown wa dq osq))
    clear sy0 sy1 sy2 sy3 sy4 st0 st1 st2 st3 st4 sz0 sz1 sz2 sz3 sz4 y0 y1 y2 y3 y4 t0 t1 t2 t3 t4 z0 z1 z2 z3 z4
    go_wp2_with fail
    go_ret
    exact ⟨rfl, GB.out⟩
  all_goals
    go_wp2_with fail
    go_ret
    exact ⟨rfl, G3.out⟩

set_option maxRecDepth 100000 in
theorem PathsLoops_lifted (os : Os) (started : os.Started) (H : Type) (enc : TypeId × Value → H) :
    ReturnsInHanded {} Tryz.checked os 4 .any (Rows.pathsLoopsSpec.pre6 enc Tryz.prog Tryz.f4 Rows.pathsLoopsRow.domain false) (Rows.pathsLoopsSpec.post enc Tryz.prog Tryz.f4 false true false false) := by
  refine returnsInHanded_of_change (C := Tryz.checked) own started (by kernel_rfl) Tryz.func4
    (ChangeSpec.witness6 (enc := enc) (C := Tryz.checked) false ⟨#[], #[.int .i64 0, .int .i64 0], []⟩ 8 (by kernel_rfl) (by kernel_rfl) (by kernel_rfl) (by kernel_rfl)) ?_
  intro W base args ds gs before hval0 hW hcnd _
  have hval : ∀ (j : Nat) t v, Tryz.f4.params[j]? = some t → args[j]? = some v → Value.okWide Tryz.prog W .any base t v := hval0
  have hW' := hW
  obtain ⟨p, q, hA0, hV, rfl, hfz, hnd⟩ := hW
  have hA : DataW.TrodAll enc Tryz.prog W 0 (fun _ => true) true Tryz.f4.params.toList args.toList ds p := hA0
  rw [Tryz.params4] at hA hval
  obtain ⟨v0, vs0, d0, ds0, p0, q0, hargs, rfl, rfl, h0, r0⟩ := trodAll_cons hA
  obtain ⟨v1, vs1, d1, ds1, p1, q1, rfl, rfl, rfl, h1, r1⟩ := trodAll_cons r0
  obtain ⟨rfl, rfl, rfl⟩ := trodAll_nil r1
  obtain rfl : args = #[v0, v1] := by cases args; simp_all
  obtain ⟨rfl, rfl⟩ := trodVars_none hV
  obtain ⟨a0, rfl, rfl, rfl, w0⟩ := open_int Tryz.underlying3 (hval 0 3 v0 rfl rfl) h0
  obtain ⟨a1, rfl, rfl, rfl, w1⟩ := open_int Tryz.underlying3 (hval 1 3 v1 rfl rfl) h1
  clear hA0 hval0
  refine (PathsLoops_any a0 a1 W).mono fun e W' ⟨he, bel⟩ => ?_
  subst he
  exact ⟨_, rfl, _, _, _, [], _, [], hW', trodAll_mk1 (shut_bool Tryz.underlying4 _), (trodAll_cons_mk (shut_int Tryz.underlying3 w0) (trodAll_cons_mk (shut_int Tryz.underlying3 w1) trodAll_mk0)), rfl, bel.frame _, fun h => by cases h⟩

/-- The given statement. -/
theorem PathsLoops_holds : Rows.PathsLoopsSaid :=
  OpenClaim.holds_of_wide 4 Tryz.f4 rfl rfl rfl rfl rfl rfl rfl ⟨rfl, rfl, rfl, rfl, rfl⟩ rfl rfl rfl rfl rfl (by kernel_rfl) Tryz.func4 (by kernel_rfl)
    (of_decide_eq_true (by kernel_rfl)) (by unfold Func.isWrapper; first | (rw [if_pos (by decide +kernel)]; kernel_rfl) | (rw [if_neg (by decide +kernel)]; exact ⟨rfl, rfl⟩))
    (fun os started H enc _ => PathsLoops_lifted os started H enc)


end Go.Proofs.YtehianjfpmbfpabGreat
