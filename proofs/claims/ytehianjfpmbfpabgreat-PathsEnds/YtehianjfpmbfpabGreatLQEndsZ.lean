/-
  PathsEnds: of every graph that is accepted and every two places the sums are their own chain; none where a place is missing; one at least from a place to itself; none out of a capture or into an input; of another graph nothing is asked.
-/
import Derived.Test.YtehianjfpmbfpabGreatQHdZ
import Derived.Test.YtehianjfpmbfpabGreatQOpZ
import Derived.Test.YtehianjfpmbfpabGreatRSmZ
import Derived.Test.YtehianjfpmbfpabGreatSmeGZ
import Derived.Test.YtehianjfpmbfpabGreatEndGZ
import Derived.Test.YtehianjfpmbfpabGreatHInnZ
namespace Go.Proofs.YtehianjfpmbfpabGreat
set_option maxRecDepth 100000
open Go.ChangeShapes Go.WideShapes Go.ChangeAt Go.RowKit Go.Deep Go.Sort
attribute [local go_sem ↓] eqLc
set_option linter.unusedVariables false
set_option linter.unusedSimpArgs false

set_option maxHeartbeats 8000000 in
theorem PathsEnds_raw (g : GA) (an ap bn bp : Int) (w : World) (hg : IsG w g) (h1 : LcWf ⟨an, ap⟩) (h2 : LcWf ⟨bn, bp⟩) :
    Calls Tryz.prog 3 #[.agg #[.slice g.s g.n g.c, .slice g.t g.m g.q], .agg #[.int .i64 an, .int .i64 ap], .agg #[.int .i64 bn, .int .i64 bp]] w fun r w' => r = .returned (.bool true) ∧ Grow w w' := by
  have GG : Hid (Grow w (((w.alloc (.cells #[.slice g.s g.n g.c, .slice g.t g.m g.q] 25)).alloc (.cells #[.int .i64 an, .int .i64 ap] 27)).alloc (.cells #[.int .i64 bn, .int .i64 bp] 27))) := hide (Grow.trans' (Grow.trans' (Grow.alloc' _ _) (Grow.alloc' _ _)) (Grow.alloc' _ _))
  have KG : Hid (BoxG (((w.alloc (.cells #[.slice g.s g.n g.c, .slice g.t g.m g.q] 25)).alloc (.cells #[.int .i64 an, .int .i64 ap] 27)).alloc (.cells #[.int .i64 bn, .int .i64 bp] 27)) w.heap.size g) := hide ((BoxG.new w g).later (Grow.trans' (Grow.alloc' _ _) (Grow.alloc' _ _)))
  have KT : Hid (BoxL (((w.alloc (.cells #[.slice g.s g.n g.c, .slice g.t g.m g.q] 25)).alloc (.cells #[.int .i64 an, .int .i64 ap] 27)).alloc (.cells #[.int .i64 bn, .int .i64 bp] 27)) (w.heap.size + 1) ⟨an, ap⟩) := hide (by simp [BoxL, go_sem])
  have KX : Hid (BoxL (((w.alloc (.cells #[.slice g.s g.n g.c, .slice g.t g.m g.q] 25)).alloc (.cells #[.int .i64 an, .int .i64 ap] 27)).alloc (.cells #[.int .i64 bn, .int .i64 bp] 27)) (w.heap.size + 1 + 1) ⟨bn, bp⟩) := hide (by simp [BoxL, go_sem])
  have HN := hide (hg.nodes.later GG.out)
  have HE := hide (hg.edges.later GG.out)
  have F1 := hide h1
  have F2 := hide h2
  clear hg h1 h2
  go_enter Tryz.func3, Tryz.ntmps3
  go_wp2_with fail
  refine (shown_any _).mono ?_
  rintro _ w1 ⟨rfl, hb⟩
  have G1 := hide (Grow.trans' GG.out hb)
  have KG1 := hide (KG.out.later hb)
  have KT1 := hide (KT.out.later hb)
  have KX1 := hide (KX.out.later hb)
  have HN1 := hide (HN.out.later hb)
  have HE1 := hide (HE.out.later hb)
  obtain ⟨PG, hPG⟩ : ∃ PG, PG = w.heap.size := ⟨_, rfl⟩
  obtain ⟨PT, hPT⟩ : ∃ PT, PT = w.heap.size + 1 := ⟨_, rfl⟩
  obtain ⟨PX, hPX⟩ : ∃ PX, PX = w.heap.size + 1 + 1 := ⟨_, rfl⟩
  rw [← hPG] at KG1
  rw [← hPT] at KT1
  rw [← hPX] at KX1
  clear hb GG KG KT KX HN HE
  obtain ⟨g0, g1⟩ := KG1.out
  rw [hPG] at g0 g1
  obtain ⟨q, hq⟩ : ∃ q, decide (errG g.N g.E = 0) = q := ⟨_, rfl⟩
  have CA := hide (accepted_at g.s g.n g.c g.t g.m g.q g.N g.E hq w1 HN1.out HE1.out)
  have HQ := hide hq
  clear hq
  go_wp2_with fail
  refine CA.out.mono ?_
  rintro _ w2 ⟨rfl, hb⟩
  have G2 := hide (Grow.trans' G1.out hb)
  have KG2 := hide (KG1.out.later hb)
  have KT2 := hide (KT1.out.later hb)
  have KX2 := hide (KX1.out.later hb)
  have HN2 := hide (HN1.out.later hb)
  have HE2 := hide (HE1.out.later hb)
  clear hb CA G1 KG1 KT1 KX1 HN1 HE1 g0 g1
  cases q
  · go_wp2_with fail
    go_ret
    exact ⟨rfl, G2.out⟩
  · have HA : Hid (AccG g.N g.E) := hide (errG_zero.1 (of_decide_eq_true HQ.out))
    obtain ⟨g0, g1⟩ := KG2.out
    rw [hPG] at g0 g1
    have CN := hide (new_any g.s g.n g.c g.t g.m g.q g.N g.E HA.out w2 HN2.out HE2.out)
    go_wp2_with fail
    refine CN.out.mono ?_
    rintro _ w3 ⟨p, rfl, hb, hI⟩
    have G3 := hide (Grow.trans' G2.out hb)
    have KG3 := hide (KG2.out.later hb)
    have HN3 := hide (HN2.out.later hb)
    have KT3 := hide (KT2.out.later hb)
    have KX3 := hide (KX2.out.later hb)
    have HI := hide hI
    clear hb hI CN G2 KG2 KT2 KX2 HN2 HE2 g0 g1
    have hn20 : g.n ≤ 20 := by have := HA.out.big; have := HN3.out.1; omega
    obtain ⟨l, hl⟩ := HI.out.has ⟨an, ap⟩ ⟨bn, bp⟩ F1.out F2.out
    have L := hide hl
    have HN20 := hide hn20
    clear hl hn20
    have hch := sums_chain HA.out L.out
    obtain ⟨t0, t1⟩ := KT3.out
    obtain ⟨x0, x1⟩ := KX3.out
    dsimp only at t0 t1 x0 x1
    rw [hPT] at t0 t1
    rw [hPX] at x0 x1
    have C1 := hide (psums_any p g.N g.E HA.out ⟨an, ap⟩ ⟨bn, bp⟩ F1.out F2.out l L.out w3 HI.out)
    go_wp2_with fail
    refine C1.out.mono ?_
    rintro _ w4 ⟨v, rfl, hb, sl, nl, cl, rfl, hrl⟩
    have G4 := hide (Grow.trans' G3.out hb)
    have KG4 := hide (KG3.out.later hb)
    have KT4 := hide (KT3.out.later hb)
    have KX4 := hide (KX3.out.later hb)
    have HN4 := hide (HN3.out.later hb)
    have RL := hide hrl
    have hnl : nl ≤ 4012012004 := by
      rw [← hrl.1, ← BIG_eq]
      exact sumsOf_len HA.out L.out
    have C2 := hide (fun w h => refSums_any sl nl cl l w (by omega) (hrl.later h))
    clear hb hrl C1 G3 KG3 KT3 KX3 HN3 t0 t1 x0 x1
    go_wp2_with fail
    refine (C2.out w4 (Grow.rfl' _)).mono ?_
    rintro _ w5 ⟨v, rfl, hb, sm, nm, cm, rfl, hrm⟩
    rw [hch] at hrm
    have G5 := hide (Grow.trans' G4.out hb)
    have KG5 := hide (KG4.out.later hb)
    have KT5 := hide (KT4.out.later hb)
    have KX5 := hide (KX4.out.later hb)
    have HN5 := hide (HN4.out.later hb)
    have RL5 := hide (RL.out.later hb)
    have C3 := hide (sameM_any sl sm cl cm nl nm l l true (by simp) w5 (by omega) RL5.out hrm)
    clear hb hrm C2 G4 KG4 KT4 KX4 HN4 RL
    go_wp2_with fail
    refine C3.out.mono ?_
    rintro _ w6 ⟨rfl, hb⟩
    have G6 := hide (Grow.trans' G5.out hb)
    have KG6 := hide (KG5.out.later hb)
    have KT6 := hide (KT5.out.later hb)
    have KX6 := hide (KX5.out.later hb)
    have HN6 := hide (HN5.out.later hb)
    have hlen : l.length = nl := RL5.out.1
    clear hb C3 G5 KG5 KT5 KX5 HN5 RL5 hch
    obtain ⟨g0, g1⟩ := KG6.out
    rw [hPG] at g0 g1
    obtain ⟨t0, t1⟩ := KT6.out
    obtain ⟨x0, x1⟩ := KX6.out
    dsimp only at t0 t1 x0 x1
    rw [hPT] at t0 t1
    rw [hPX] at x0 x1
    obtain ⟨qa, hqa⟩ : ∃ q, isP g.N ⟨an, ap⟩ = q := ⟨_, rfl⟩
    obtain ⟨qb, hqb⟩ : ∃ q, isP g.N ⟨bn, bp⟩ = q := ⟨_, rfl⟩
    have QA := hide hqa
    have QB := hide hqb
    have C4 := hide (ris_raw g.s g.n g.c g.t g.m g.q g.N an ap w6 HN20.out HN6.out)
    rw [hqa] at C4
    clear hqa
    go_wp2_with fail
    refine C4.out.mono ?_
    rintro _ w7 ⟨rfl, hb⟩
    have G7 := hide (Grow.trans' G6.out hb)
    have KG7 := hide (KG6.out.later hb)
    have KT7 := hide (KT6.out.later hb)
    have KX7 := hide (KX6.out.later hb)
    have HN7 := hide (HN6.out.later hb)
    clear hb C4 G6 KG6 KT6 KX6 HN6 g0 g1 t0 t1 x0 x1
    obtain ⟨g0, g1⟩ := KG7.out
    rw [hPG] at g0 g1
    obtain ⟨t0, t1⟩ := KT7.out
    obtain ⟨x0, x1⟩ := KX7.out
    dsimp only at t0 t1 x0 x1
    rw [hPT] at t0 t1
    rw [hPX] at x0 x1
    have C5 := hide (ris_raw g.s g.n g.c g.t g.m g.q g.N bn bp w7 HN20.out HN7.out)
    rw [hqb] at C5
    clear hqb
    go_wp2_with fail
    refine C5.out.mono ?_
    rintro _ w8 ⟨rfl, hb⟩
    have G8 := hide (Grow.trans' G7.out hb)
    have KG8 := hide (KG7.out.later hb)
    have KT8 := hide (KT7.out.later hb)
    have KX8 := hide (KX7.out.later hb)
    have HN8 := hide (HN7.out.later hb)
    clear hb C5 G7 KG7 KT7 KX7 HN7 g0 g1 t0 t1 x0 x1
    obtain ⟨g0, g1⟩ := KG8.out
    rw [hPG] at g0 g1
    obtain ⟨t0, t1⟩ := KT8.out
    obtain ⟨x0, x1⟩ := KX8.out
    dsimp only at t0 t1 x0 x1
    rw [hPT] at t0 t1
    rw [hPX] at x0 x1
    have hc0 : (qa = false ∨ (qa = true ∧ qb = false)) ∨ (qa = true ∧ qb = true) := by cases qa <;> cases qb <;> simp
    rcases hc0 with hc0 | ⟨rfl, rfl⟩
    · have hl0 : l = [] := by
        rcases hc0 with h | ⟨_, h⟩
        · exact L.out.2 (QA.out.trans h)
        · exact sumsOf_none HA.out L.out (QB.out.trans h)
      have hnl0 : nl = 0 := by rw [← hlen, hl0]; rfl
      subst hnl0
      clear hlen hnl hl0
      rcases hc0 with rfl | ⟨rfl, rfl⟩
      all_goals
        go_wp2_with fail
        go_ret
        exact ⟨rfl, G8.out⟩
    · cases es : eqL ⟨an, ap⟩ ⟨bn, bp⟩
      · have hne : (⟨an, ap⟩ : Lc) ≠ ⟨bn, bp⟩ := fun h => by rw [(eqL_iff _ _).2 h] at es; cases es
        obtain ⟨ha0, ha1⟩ := isP_node QA.out
        obtain ⟨hb0, hb1⟩ := isP_node QB.out
        obtain ⟨ka, rfl⟩ : ∃ k : Nat, an = k := ⟨an.toNat, by omega⟩
        obtain ⟨kb, rfl⟩ : ∃ k : Nat, bn = k := ⟨bn.toNat, by omega⟩
        have hka : ka < g.N.length := by omega
        have hkb : kb < g.N.length := by omega
        have hNe : ¬ g.N = [] := fun h => by rw [h] at hka; simp at hka
        have hend : (g.N[ka].k = 11 ∨ g.N[kb].k = 1) → nl = 0 := fun h => by
          rw [← hlen, sums_end HA.out L.out hne (h.imp (fun h => ⟨QA.out, by rw [show ((⟨(ka : Int), ap⟩ : Lc).n.toNat) = ka from by simp, nth_get g.N ka hka]; exact h⟩) (fun h => ⟨QB.out, by rw [show ((⟨(kb : Int), bp⟩ : Lc).n.toNat) = kb from by simp, nth_get g.N kb hkb]; exact h⟩))]
          rfl
        have HND := hide hend
        obtain ⟨bs, os, hgs, hr1⟩ := HN8.out.2.2.resolve_left hNe
        obtain ⟨p0, p1, p2, p3⟩ := hr1.at ka hka
        obtain ⟨q0, q1, q2, q3⟩ := hr1.at kb hkb
        have hgn : g.N.length = g.n := HN8.out.1
        have ia0 : (0 : Int) ≤ (ka : Int) := by omega
        have ia1 : (ka : Int) < (g.n : Int) := by omega
        have ib0 : (0 : Int) ≤ (kb : Int) := by omega
        have ib1 : (kb : Int) < (g.n : Int) := by omega
        obtain ⟨ya, hya⟩ : ∃ y, g.N[ka].k = y := ⟨_, rfl⟩
        obtain ⟨yb, hyb⟩ : ∃ y, g.N[kb].k = y := ⟨_, rfl⟩
        rw [hya] at p0 HND
        rw [hyb] at q0 HND
        rw [hgs] at g0
        clear hend hr1 hNe hka hkb ha0 ha1 hb0 hb1 hgn hya hyb p1 p2 p3 q1 q2 q3 hlen hne HN8 KG8 KT8 KX8
        by_cases ea : ya = 11
        · have hz := HND.out (.inl ea)
          subst hz
          clear HND
          go_wp2_with fail
          go_ret
          exact ⟨rfl, G8.out⟩
        · by_cases eb : yb = 1
          · have hz := HND.out (.inr eb)
            subst hz
            clear HND
            go_wp2_with fail
            go_ret
            exact ⟨rfl, G8.out⟩
          · clear HND
            go_wp2_with fail
            go_ret
            exact ⟨rfl, G8.out⟩
      · have hxy := (eqL_iff _ _).1 es
        have hl1 : 1 ≤ nl := by
          rw [← hlen]
          have := L.out
          rw [← hxy] at this
          exact sums_self this QA.out
        have hl2 : (1 : Int) ≤ (nl : Int) := by omega
        clear hlen hxy
        go_wp2_with fail
        go_ret
        exact ⟨rfl, G8.out⟩

theorem PathsEnds_any (g : GA) (a b : Lc) (w : World) (hg : IsG w g) (h1 : LcWf a) (h2 : LcWf b) :
    Calls Tryz.prog 3 #[.agg #[.slice g.s g.n g.c, .slice g.t g.m g.q], .agg #[.int .i64 a.n, .int .i64 a.p], .agg #[.int .i64 b.n, .int .i64 b.p]] w fun r w' => r = .returned (.bool true) ∧ Grow w w' :=
  PathsEnds_raw g a.n a.p b.n b.p w hg h1 h2

set_option maxRecDepth 100000 in
theorem PathsEnds_lifted (os : Os) (started : os.Started) (H : Type) (enc : TypeId × Value → H) :
    ReturnsInHanded {} Tryz.checked os 3 .any (Rows.pathsEndsSpec.pre6 enc Tryz.prog Tryz.f3 Rows.pathsEndsRow.domain false) (Rows.pathsEndsSpec.post enc Tryz.prog Tryz.f3 false true false false) := by
  refine returnsInHanded_of_change (C := Tryz.checked) own started (by kernel_rfl) Tryz.func3
    (ChangeSpec.witness6 (enc := enc) (C := Tryz.checked) false ⟨#[], #[.agg #[.slice none 0 0, .slice none 0 0], .agg #[.int .i64 0, .int .i64 0], .agg #[.int .i64 0, .int .i64 0]], []⟩ 8 (by kernel_rfl) (by kernel_rfl) (by kernel_rfl) (by kernel_rfl)) ?_
  intro W base args ds gs before hval0 hW hcnd _
  have hval : ∀ (j : Nat) t v, Tryz.f3.params[j]? = some t → args[j]? = some v → Value.okWide Tryz.prog W .any base t v := hval0
  have hW' := hW
  obtain ⟨p, q, hA0, hV, rfl, hfz, hnd⟩ := hW
  have hA : DataW.TrodAll enc Tryz.prog W 0 (fun _ => true) true Tryz.f3.params.toList args.toList ds p := hA0
  rw [Tryz.params3] at hA hval
  obtain ⟨v0, vs0, d0, ds0, p0, q0, hargs, rfl, rfl, h0, r0⟩ := trodAll_cons hA
  obtain ⟨v1, vs1, d1, ds1, p1, q1, rfl, rfl, rfl, h1, r1⟩ := trodAll_cons r0
  obtain ⟨v2, vs2, d2, ds2, p2, q2, rfl, rfl, rfl, h2, r2⟩ := trodAll_cons r1
  obtain ⟨rfl, rfl, rfl⟩ := trodAll_nil r2
  obtain rfl : args = #[v0, v1, v2] := by cases args; simp_all
  obtain ⟨rfl, rfl⟩ := trodVars_none hV
  have k0 := h0
  have lt0 : ∀ x ∈ p0, x.block < W.heap.size := by obtain ⟨m, hm⟩ := k0; exact DataW.trod_lt m _ _ _ hm
  obtain ⟨t0, rfl, w0⟩ := open_gr (hval 0 25 v0 rfl rfl) h0
  have k1 := h1
  have lt1 : ∀ x ∈ p1, x.block < W.heap.size := by obtain ⟨m, hm⟩ := k1; exact DataW.trod_lt m _ _ _ hm
  obtain ⟨t1, rfl, w1⟩ := open_lc (hval 1 27 v1 rfl rfl) h1
  have k2 := h2
  have lt2 : ∀ x ∈ p2, x.block < W.heap.size := by obtain ⟨m, hm⟩ := k2; exact DataW.trod_lt m _ _ _ hm
  obtain ⟨t2, rfl, w2⟩ := open_lc (hval 2 27 v2 rfl rfl) h2
  clear hA0 hval0
  refine (PathsEnds_any t0 t1 t2 W w0 w1 w2).mono fun e W' ⟨he, bel⟩ => ?_
  subst he
  exact ⟨_, rfl, _, _, _, [], _, [], hW', trodAll_mk1 (shut_bool Tryz.underlying4 _), (trodAll_cons_mk (Below.trod laidOut (by kernel_rfl) (of_decide_eq_true (by kernel_rfl)) k0 bel lt0) (trodAll_cons_mk (Below.trod laidOut (by kernel_rfl) (of_decide_eq_true (by kernel_rfl)) k1 bel lt1) (trodAll_cons_mk (Below.trod laidOut (by kernel_rfl) (of_decide_eq_true (by kernel_rfl)) k2 bel lt2) trodAll_mk0))), rfl, bel.frame _, fun h => by cases h⟩

/-- The given statement. -/
theorem PathsEnds_holds : Rows.PathsEndsSaid :=
  OpenClaim.holds_of_wide 3 Tryz.f3 rfl rfl rfl rfl rfl rfl rfl ⟨rfl, rfl, rfl, rfl, rfl⟩ rfl rfl rfl rfl rfl (by kernel_rfl) Tryz.func3 (by kernel_rfl)
    (of_decide_eq_true (by kernel_rfl)) (by unfold Func.isWrapper; first | (rw [if_pos (by decide +kernel)]; kernel_rfl) | (rw [if_neg (by decide +kernel)]; exact ⟨rfl, rfl⟩))
    (fun os started H enc _ => PathsEnds_lifted os started H enc)


end Go.Proofs.YtehianjfpmbfpabGreat
