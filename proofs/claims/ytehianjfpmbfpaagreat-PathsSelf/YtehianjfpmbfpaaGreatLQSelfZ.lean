/-
  PathsSelf: of every graph that is accepted, every two times and every two places, what could come of a time at its own place covers it where it may stand there, else there is none; and what could come of a later time is covered by what could come of the earlier; of another graph nothing is asked.
-/
import Derived.Test.YtehianjfpmbfpaaGreatQHdZ
import Derived.Test.YtehianjfpmbfpaaGreatQOpZ
import Derived.Test.YtehianjfpmbfpaaGreatRCovZ
import Derived.Test.YtehianjfpmbfpaaGreatEndGZ
import Derived.Test.YtehianjfpmbfpaaGreatHInnZ
namespace Go.Proofs.YtehianjfpmbfpaaGreat
set_option maxRecDepth 100000
open Go.ChangeShapes Go.WideShapes Go.ChangeAt Go.RowKit Go.Deep Go.Sort
set_option linter.unusedVariables false
set_option linter.unusedSimpArgs false

/-- A time's five cells. -/
theorem open_five {H : Type} {enc : TypeId × Value → H} {W : World} {fuel : Nat} {c0 c1 c2 c3 c4 : Value} {x : DataW H × List MemPlace} {base : Nat} {spare : Nat → Bool} {held : Bool}
    (hf : DataW.trod enc Tryz.prog W base spare held fuel 43 [c0, c1, c2, c3, c4] = some x) : ∃ t : Tm, c0 = .int .i64 t.e ∧ c1 = .int .i64 t.d ∧ c2 = .int .i64 t.x ∧ c3 = .int .i64 t.y ∧ c4 = .int .i64 t.z ∧ TmWf t := by
  have hC3 : Tryz.prog.cellsOf 3 = 1 := by kernel_rfl
  have hCa : Tryz.prog.cellsOf 41 = 3 := by kernel_rfl
  obtain ⟨y0, y1, y2, n, hx, _, h0, h1, h2⟩ := trod_struct3 Tryz.underlying43 hf
  simp [hC3, hCa] at h0 h1 h2
  obtain ⟨e, e0, _, we⟩ := DataW.trod_int Tryz.underlying3 h0
  obtain ⟨d', e1, _, wd⟩ := DataW.trod_int Tryz.underlying3 h1
  obtain ⟨xs, m, _, _, _, hlen, hi⟩ := DataW.trod_array Tryz.underlying41 h2
  match xs, hlen with
  | [z0, z1, z2], _ =>
    have i0 := hi 0 (by omega)
    have i1 := hi 1 (by omega)
    have i2 := hi 2 (by omega)
    simp [hC3] at i0 i1 i2
    obtain ⟨x, e2, _, wx⟩ := DataW.trod_int Tryz.underlying3 i0
    obtain ⟨y, e3, _, wy⟩ := DataW.trod_int Tryz.underlying3 i1
    obtain ⟨z, e4, _, wz⟩ := DataW.trod_int Tryz.underlying3 i2
    simp at e0 e1 e2 e3 e4
    subst e0 e1 e2 e3 e4
    exact ⟨⟨e, d', x, y, z⟩, rfl, rfl, rfl, rfl, rfl, we, wd, wx, wy, wz⟩

theorem open_tm2 {H : Type} {enc : TypeId × Value → H} {W : World} {r : Reach} {b0 : Nat} {v : Value} {d : DataW H} {p : List MemPlace} {base : Nat} {spare : Nat → Bool} {held : Bool}
    (hv : Value.okWide Tryz.prog W r b0 53 v) (h : DataW.Trod enc Tryz.prog W base spare held 53 v d p) : ∃ t : Tm × Tm, v = .agg #[.int .i64 t.1.e, .int .i64 t.1.d, .int .i64 t.1.x, .int .i64 t.1.y, .int .i64 t.1.z, .int .i64 t.2.e, .int .i64 t.2.d, .int .i64 t.2.x, .int .i64 t.2.y, .int .i64 t.2.z] ∧ TmWf t.1 ∧ TmWf t.2 := by
  have hCa : Tryz.prog.cellsOf 53 = 10 := by kernel_rfl
  have hC5 : Tryz.prog.cellsOf 43 = 5 := by kernel_rfl
  have ht := Tryz.underlying53
  simp only [Value.okWide, ht] at hv
  obtain ⟨cs, rfl, hsz, _⟩ := hv
  rw [hCa] at hsz
  obtain ⟨l⟩ := cs
  match l, hsz with
  | [c0, c1, c2, c3, c4, c5, c6, c7, c8, c9], _ =>
    obtain ⟨fuel, hf⟩ := h
    obtain ⟨xs, m, _, _, _, hlen, hi⟩ := DataW.trod_array ht hf
    match xs, hlen with
    | [z0, z1], _ =>
      have i0 := hi 0 (by omega)
      have i1 := hi 1 (by omega)
      simp [hC5, Value.cells] at i0 i1
      obtain ⟨t0, rfl, rfl, rfl, rfl, rfl, k0⟩ := open_five i0
      obtain ⟨t1, rfl, rfl, rfl, rfl, rfl, k1⟩ := open_five i1
      exact ⟨(t0, t1), rfl, k0, k1⟩
/-- Two times lie in a block. -/
def Boxtm2 (w : World) (b : Nat) (t : Tm × Tm) : Prop := w.cell? ⟨b, 0, none⟩ = some (.int .i64 t.1.e) ∧ w.cell? ⟨b, 1, none⟩ = some (.int .i64 t.1.d) ∧ w.cell? ⟨b, 2, none⟩ = some (.int .i64 t.1.x) ∧ w.cell? ⟨b, 3, none⟩ = some (.int .i64 t.1.y) ∧ w.cell? ⟨b, 4, none⟩ = some (.int .i64 t.1.z) ∧ w.cell? ⟨b, 5, none⟩ = some (.int .i64 t.2.e) ∧ w.cell? ⟨b, 6, none⟩ = some (.int .i64 t.2.d) ∧ w.cell? ⟨b, 7, none⟩ = some (.int .i64 t.2.x) ∧ w.cell? ⟨b, 8, none⟩ = some (.int .i64 t.2.y) ∧ w.cell? ⟨b, 9, none⟩ = some (.int .i64 t.2.z)
theorem Boxtm2.later {w w' : World} {b : Nat} {t : Tm × Tm} (hg : Grow w w') (h : Boxtm2 w b t) : Boxtm2 w' b t := by
  obtain ⟨h0, h1, h2, h3, h4, h5, h6, h7, h8, h9⟩ := h
  exact ⟨cell_later hg h0, cell_later hg h1, cell_later hg h2, cell_later hg h3, cell_later hg h4, cell_later hg h5, cell_later hg h6, cell_later hg h7, cell_later hg h8, cell_later hg h9⟩

set_option maxHeartbeats 8000000 in
theorem PathsSelf_any (g : GA) (t : Tm × Tm) (x : Lc × Lc) (w : World) (hg : IsG w g) (h1 : LcWf x.1) (h2 : LcWf x.2) :
    Calls Tryz.prog 6 #[.agg #[.slice g.s g.n g.c, .slice g.t g.m g.q], .agg #[.int .i64 t.1.e, .int .i64 t.1.d, .int .i64 t.1.x, .int .i64 t.1.y, .int .i64 t.1.z, .int .i64 t.2.e, .int .i64 t.2.d, .int .i64 t.2.x, .int .i64 t.2.y, .int .i64 t.2.z], .agg #[.int .i64 x.1.n, .int .i64 x.1.p, .int .i64 x.2.n, .int .i64 x.2.p]] w fun r w' => r = .returned (.bool true) ∧ Grow w w' := by
  have GG : Hid (Grow w (((w.alloc (.cells #[.slice g.s g.n g.c, .slice g.t g.m g.q] 25)).alloc (.cells #[.int .i64 t.1.e, .int .i64 t.1.d, .int .i64 t.1.x, .int .i64 t.1.y, .int .i64 t.1.z, .int .i64 t.2.e, .int .i64 t.2.d, .int .i64 t.2.x, .int .i64 t.2.y, .int .i64 t.2.z] 53)).alloc (.cells #[.int .i64 x.1.n, .int .i64 x.1.p, .int .i64 x.2.n, .int .i64 x.2.p] 54))) := hide (Grow.trans' (Grow.trans' (Grow.alloc' _ _) (Grow.alloc' _ _)) (Grow.alloc' _ _))
  have KG : Hid (BoxG (((w.alloc (.cells #[.slice g.s g.n g.c, .slice g.t g.m g.q] 25)).alloc (.cells #[.int .i64 t.1.e, .int .i64 t.1.d, .int .i64 t.1.x, .int .i64 t.1.y, .int .i64 t.1.z, .int .i64 t.2.e, .int .i64 t.2.d, .int .i64 t.2.x, .int .i64 t.2.y, .int .i64 t.2.z] 53)).alloc (.cells #[.int .i64 x.1.n, .int .i64 x.1.p, .int .i64 x.2.n, .int .i64 x.2.p] 54)) w.heap.size g) := hide ((BoxG.new w g).later (Grow.trans' (Grow.alloc' _ _) (Grow.alloc' _ _)))
  have KT : Hid (Boxtm2 (((w.alloc (.cells #[.slice g.s g.n g.c, .slice g.t g.m g.q] 25)).alloc (.cells #[.int .i64 t.1.e, .int .i64 t.1.d, .int .i64 t.1.x, .int .i64 t.1.y, .int .i64 t.1.z, .int .i64 t.2.e, .int .i64 t.2.d, .int .i64 t.2.x, .int .i64 t.2.y, .int .i64 t.2.z] 53)).alloc (.cells #[.int .i64 x.1.n, .int .i64 x.1.p, .int .i64 x.2.n, .int .i64 x.2.p] 54)) (w.heap.size + 1) t) := hide (by simp [Boxtm2, go_sem])
  have KX : Hid (Boxlc2 (((w.alloc (.cells #[.slice g.s g.n g.c, .slice g.t g.m g.q] 25)).alloc (.cells #[.int .i64 t.1.e, .int .i64 t.1.d, .int .i64 t.1.x, .int .i64 t.1.y, .int .i64 t.1.z, .int .i64 t.2.e, .int .i64 t.2.d, .int .i64 t.2.x, .int .i64 t.2.y, .int .i64 t.2.z] 53)).alloc (.cells #[.int .i64 x.1.n, .int .i64 x.1.p, .int .i64 x.2.n, .int .i64 x.2.p] 54)) (w.heap.size + 1 + 1) x) := hide (by simp [Boxlc2, go_sem])
  have HN := hide (hg.nodes.later GG.out)
  have HE := hide (hg.edges.later GG.out)
  have F1 := hide h1
  have F2 := hide h2
  clear hg h1 h2
  go_enter Tryz.func6, Tryz.ntmps6
  go_wp2_with fail
  refine (shown_any _).mono ?_
  rintro _ w1 ⟨rfl, hb⟩
  have G1 := hide (Grow.trans' GG.out hb)
  have KG1 := hide (KG.out.later hb)
  have KT1 := hide (KT.out.later hb)
  have KX1 := hide (KX.out.later hb)
  have HN1 := hide (HN.out.later hb)
  have HE1 := hide (HE.out.later hb)
  obtain ⟨PG, hPG⟩ : ∃ PG, PG = w.heap.size := ⟨_, rfl⟩
  obtain ⟨PT, hPT⟩ : ∃ PT, PT = w.heap.size + 1 := ⟨_, rfl⟩
  obtain ⟨PX, hPX⟩ : ∃ PX, PX = w.heap.size + 1 + 1 := ⟨_, rfl⟩
  rw [← hPG] at KG1
  rw [← hPT] at KT1
  rw [← hPX] at KX1
  clear hb GG KG KT KX HN HE
  obtain ⟨g0, g1⟩ := KG1.out
  rw [hPG] at g0 g1
  obtain ⟨q, hq⟩ : ∃ q, decide (errG g.N g.E = 0) = q := ⟨_, rfl⟩
  have CA := hide (accepted_at g.s g.n g.c g.t g.m g.q g.N g.E hq w1 HN1.out HE1.out)
  have HQ := hide hq
  clear hq
  go_wp2_with fail
  refine CA.out.mono ?_
  rintro _ w2 ⟨rfl, hb⟩
  have G2 := hide (Grow.trans' G1.out hb)
  have KG2 := hide (KG1.out.later hb)
  have KT2 := hide (KT1.out.later hb)
  have KX2 := hide (KX1.out.later hb)
  have HN2 := hide (HN1.out.later hb)
  have HE2 := hide (HE1.out.later hb)
  clear hb CA G1 KG1 KT1 KX1 HN1 HE1 g0 g1
  cases q
  · go_wp2_with fail
    go_ret
    exact ⟨rfl, G2.out⟩
  · have HA : Hid (AccG g.N g.E) := hide (errG_zero.1 (of_decide_eq_true HQ.out))
    obtain ⟨g0, g1⟩ := KG2.out
    rw [hPG] at g0 g1
    have CN := hide (new_any g.s g.n g.c g.t g.m g.q g.N g.E HA.out w2 HN2.out HE2.out)
    go_wp2_with fail
    refine CN.out.mono ?_
    rintro _ w3 ⟨p, rfl, hb, hI⟩
    have G3 := hide (Grow.trans' G2.out hb)
    have KG3 := hide (KG2.out.later hb)
    have HN3 := hide (HN2.out.later hb)
    have KT3 := hide (KT2.out.later hb)
    have KX3 := hide (KX2.out.later hb)
    have HI := hide hI
    clear hb hI CN G2 KG2 KT2 KX2 HN2 HE2 g0 g1
    have hn20 : g.n ≤ 20 := by have := HA.out.big; have := HN3.out.1; omega
    obtain ⟨l1, hl1⟩ := HI.out.has x.1 x.1 F1.out F1.out
    obtain ⟨l2, hl2⟩ := HI.out.has x.1 x.2 F1.out F2.out
    have L1 := hide hl1
    have L2 := hide hl2
    have HN20 := hide hn20
    clear hl1 hl2 hn20
    obtain ⟨g0, g1⟩ := KG3.out
    rw [hPG] at g0 g1
    obtain ⟨t0, t1, t2, t3, t4, t5, t6, t7, t8, t9⟩ := KT3.out
    obtain ⟨x0, x1, x2, x3⟩ := KX3.out
    rw [hPT] at t0 t1 t2 t3 t4 t5 t6 t7 t8 t9
    rw [hPX] at x0 x1 x2 x3
    obtain ⟨qi, hqi⟩ : ∃ q, isP g.N x.1 = q := ⟨_, rfl⟩
    obtain ⟨qm, hqm⟩ : ∃ q, mayB t.1 = q := ⟨_, rfl⟩
    obtain ⟨dz, hdz⟩ : ∃ z, depP g.N x.1 = z := ⟨_, rfl⟩
    have QI := hide hqi
    have QM := hide hqm
    have QD := hide hdz
    have C1 := hide (ris_raw g.s g.n g.c g.t g.m g.q g.N x.1.n x.1.p w3 HN20.out HN3.out)
    rw [show (⟨x.1.n, x.1.p⟩ : Lc) = x.1 from rfl, hqi] at C1
    clear hqi hqm hdz
    go_wp2_with fail
    refine C1.out.mono ?_
    rintro _ w4 ⟨rfl, hb⟩
    have G4 := hide (Grow.trans' G3.out hb)
    have KG4 := hide (KG3.out.later hb)
    have KT4 := hide (KT3.out.later hb)
    have KX4 := hide (KX3.out.later hb)
    have HN4 := hide (HN3.out.later hb)
    have HI4 := hide (HI.out.later hb)
    clear hb C1 G3 KG3 KT3 KX3 HN3 HI g0 g1 t0 t1 t2 t3 t4 t5 t6 t7 t8 t9 x0 x1 x2 x3
    obtain ⟨t0, t1, t2, t3, t4, t5, t6, t7, t8, t9⟩ := KT4.out
    obtain ⟨x0, x1, x2, x3⟩ := KX4.out
    rw [hPT] at t0 t1 t2 t3 t4 t5 t6 t7 t8 t9
    rw [hPX] at x0 x1 x2 x3
    have C2 := hide (fun w => refMayT_at t.1 QM.out w)
    go_wp2_with fail
    refine (C2.out _).mono ?_
    rintro _ w5 ⟨rfl, hb⟩
    have G5 := hide (Grow.trans' G4.out hb)
    have KG5 := hide (KG4.out.later hb)
    have KT5 := hide (KT4.out.later hb)
    have KX5 := hide (KX4.out.later hb)
    have HN5 := hide (HN4.out.later hb)
    have HI5 := hide (HI4.out.later hb)
    clear hb C2 G4 KG4 KT4 KX4 HN4 HI4 t0 t1 t2 t3 t4 t5 t6 t7 t8 t9 x0 x1 x2 x3
    obtain ⟨t0, t1, t2, t3, t4, t5, t6, t7, t8, t9⟩ := KT5.out
    obtain ⟨x0, x1, x2, x3⟩ := KX5.out
    rw [hPT] at t0 t1 t2 t3 t4 t5 t6 t7 t8 t9
    rw [hPX] at x0 x1 x2 x3
    have C3 := hide (could_any p g.N g.E HA.out x.1 x.1 t.1 F1.out F1.out l1 L1.out w5 HI5.out)
    go_wp2_with fail
    refine C3.out.mono ?_
    rintro _ w6 ⟨v, rfl, hb, sa, na, ca, rfl, hra⟩
    have G6 := hide (Grow.trans' G5.out hb)
    have KG6 := hide (KG5.out.later hb)
    have KT6 := hide (KT5.out.later hb)
    have KX6 := hide (KX5.out.later hb)
    have HN6 := hide (HN5.out.later hb)
    have HI6 := hide (HI5.out.later hb)
    have RA := hide hra
    have hna : na ≤ 4012012004 := by
      rw [← RA.out.1, ← BIG_eq]
      exact Nat.le_trans (chainO_len kinT _) (Nat.le_trans (madeL_len _ _) (sumsOf_len HA.out L1.out))
    have HNA := hide hna
    clear hb hra hna C3 G5 KG5 KT5 KX5 HN5 HI5 t0 t1 t2 t3 t4 t5 t6 t7 t8 t9 x0 x1 x2 x3
    obtain ⟨g0, g1⟩ := KG6.out
    rw [hPG] at g0 g1
    obtain ⟨t0, t1, t2, t3, t4, t5, t6, t7, t8, t9⟩ := KT6.out
    obtain ⟨x0, x1, x2, x3⟩ := KX6.out
    rw [hPT] at t0 t1 t2 t3 t4 t5 t6 t7 t8 t9
    rw [hPX] at x0 x1 x2 x3
    have sg0 := cell_regrown g0
    have sg1 := cell_regrown g1
    have st0 := cell_regrown t0
    have st1 := cell_regrown t1
    have st2 := cell_regrown t2
    have st3 := cell_regrown t3
    have st4 := cell_regrown t4
    have sx0 := cell_regrown x0
    have sx1 := cell_regrown x1
    have HQ := fun dd os => HN6.out.later (below_regrown w6 dd os)
    have CD := hide (fun dd os => Calls.regrown_of (rdep_raw g.s g.n g.c g.t g.m g.q g.N x.1.n x.1.p (grow (redrawn w6 dd) os) HN20.out (HQ dd os)))
    rw [show (⟨x.1.n, x.1.p⟩ : Lc) = x.1 from rfl, QD.out] at CD
    clear HQ
    obtain ⟨ql, hql⟩ : ∃ q, leB t.1 t.2 = q := ⟨_, rfl⟩
    have QL := hide hql
    clear hql
    have hcase : (qi = true ∧ qm = true ∧ dz = t.1.d) ∨ (qi = true ∧ qm = true ∧ ¬ t.1.d = dz) ∨ (qi = false ∧ qm = true) ∨ (qi = true ∧ qm = false) ∨ (qi = false ∧ qm = false) := by
      cases qi <;> cases qm <;> by_cases h : t.1.d = dz <;> simp [h, eq_comm]
    rcases hcase with ⟨rfl, rfl, rfl⟩ | ⟨rfl, rfl, hd⟩ | ⟨rfl, rfl⟩ | ⟨rfl, rfl⟩ | ⟨rfl, rfl⟩
    focus
      have CV := hide (fun w h => refCovT_any sa na ca (chainO kinT (madeL l1 t.1)) t.1 (could_self HA.out L1.out QI.out QM.out QD.out.symm) w (by have := HNA.out; omega) (RA.out.later h))
      go_wp2_with fail
      refine wp_region_quiet_below (by kernel_rfl) (by kernel_rfl) ?_
      repeat (go_big_quiet_step (exact CD.out _ _))
      refine wpQuiet_nil ?_
      intro _ hw'
      obtain ⟨⟨dq, osq⟩, hw''⟩ := hw'
      subst hw''
      have GB := hide (below_regrown w6 dq osq)
      clear CD sg0 sg1 st0 st1 st2 st3 st4 sx0 sx1 g0 g1 t0 t1 t2 t3 t4 t5 t6 t7 t8 t9 x0 x1 x2 x3
      generalize grow (redrawn w6 dq) osq = w7 at *
      have G7 := hide (Grow.trans' G6.out GB.out)
      have KT7 := hide (KT6.out.later GB.out)
      have KX7 := hide (KX6.out.later GB.out)
      have HI7 := hide (HI6.out.later GB.out)
      have CV7 := hide (CV.out w7 GB.out)
      clear GB CV G6 KG6 KT6 KX6 HN6 HI6
      obtain ⟨t0, t1, t2, t3, t4, t5, t6, t7, t8, t9⟩ := KT7.out
      obtain ⟨x0, x1, x2, x3⟩ := KX7.out
      rw [hPT] at t0 t1 t2 t3 t4 t5 t6 t7 t8 t9
      rw [hPX] at x0 x1 x2 x3
      go_wp2_with fail
      refine CV7.out.mono ?_
      rintro _ w8 ⟨rfl, hb⟩
      have G8 := hide (Grow.trans' G7.out hb)
      have KT8 := hide (KT7.out.later hb)
      have KX8 := hide (KX7.out.later hb)
      have HI8 := hide (HI7.out.later hb)
      clear hb CV7 G7 KT7 KX7 HI7 t0 t1 t2 t3 t4 t5 t6 t7 t8 t9 x0 x1 x2 x3
      obtain ⟨t0, t1, t2, t3, t4, t5, t6, t7, t8, t9⟩ := KT8.out
      obtain ⟨x0, x1, x2, x3⟩ := KX8.out
      rw [hPT] at t0 t1 t2 t3 t4 t5 t6 t7 t8 t9
      rw [hPX] at x0 x1 x2 x3
      go_wp2_with fail
    all_goals try
      have hn0 : chainO kinT (madeL l1 t.1) = [] := by
        rw [could_none HA.out L1.out (fun h => by
          obtain ⟨h1, h2, h3⟩ := h
          first
            | exact hd (h3.trans QD.out)
            | exact absurd (h1.symm.trans QI.out) (by decide)
            | exact absurd (h2.symm.trans QM.out) (by decide)), chainO_nil]
      have hna0 : na = 0 := by rw [← RA.out.1, hn0]; rfl
      clear RA HNA
      subst hna0
      go_wp2_with fail
      refine wp_region_quiet_below (by kernel_rfl) (by kernel_rfl) ?_
      repeat (go_big_quiet_step (exact CD.out _ _))
      refine wpQuiet_nil ?_
      intro _ hw'
      obtain ⟨⟨dq, osq⟩, hw''⟩ := hw'
      subst hw''
      have GB := hide (below_regrown w6 dq osq)
      clear CD sg0 sg1 st0 st1 st2 st3 st4 sx0 sx1 g0 g1 t0 t1 t2 t3 t4 t5 t6 t7 t8 t9 x0 x1 x2 x3
      generalize grow (redrawn w6 dq) osq = w8 at *
      have G8 := hide (Grow.trans' G6.out GB.out)
      have KT8 := hide (KT6.out.later GB.out)
      have KX8 := hide (KX6.out.later GB.out)
      have HI8 := hide (HI6.out.later GB.out)
      clear GB G6 KG6 KT6 KX6 HN6 HI6
      obtain ⟨t0, t1, t2, t3, t4, t5, t6, t7, t8, t9⟩ := KT8.out
      obtain ⟨x0, x1, x2, x3⟩ := KX8.out
      rw [hPT] at t0 t1 t2 t3 t4 t5 t6 t7 t8 t9
      rw [hPX] at x0 x1 x2 x3
      go_wp2_with fail
    all_goals
      refine (refLeT_at t.1 t.2 QL.out _).mono ?_
      rintro _ w9 ⟨rfl, hb⟩
      have G9 := hide (Grow.trans' G8.out hb)
      have KT9 := hide (KT8.out.later hb)
      have KX9 := hide (KX8.out.later hb)
      have HI9 := hide (HI8.out.later hb)
      clear hb G8 KT8 KX8 HI8 t0 t1 t2 t3 t4 t5 t6 t7 t8 t9 x0 x1 x2 x3
      cases ql
    all_goals try
      go_wp2_with fail
      go_ret
      exact ⟨rfl, G9.out⟩
    all_goals
      obtain ⟨t0, t1, t2, t3, t4, t5, t6, t7, t8, t9⟩ := KT9.out
      obtain ⟨x0, x1, x2, x3⟩ := KX9.out
      rw [hPT] at t0 t1 t2 t3 t4 t5 t6 t7 t8 t9
      rw [hPX] at x0 x1 x2 x3
      have C5 := hide (could_any p g.N g.E HA.out x.1 x.2 t.1 F1.out F2.out l2 L2.out w9 HI9.out)
      go_wp2_with fail
      refine C5.out.mono ?_
      rintro _ wa ⟨v, rfl, hb, sb, nb, cb, rfl, hrb⟩
      have Ga := hide (Grow.trans' G9.out hb)
      have KTa := hide (KT9.out.later hb)
      have KXa := hide (KX9.out.later hb)
      have HIa := hide (HI9.out.later hb)
      have RB := hide hrb
      clear hb hrb C5 G9 KT9 KX9 HI9 t0 t1 t2 t3 t4 t5 t6 t7 t8 t9 x0 x1 x2 x3
      obtain ⟨t0, t1, t2, t3, t4, t5, t6, t7, t8, t9⟩ := KTa.out
      obtain ⟨x0, x1, x2, x3⟩ := KXa.out
      rw [hPT] at t0 t1 t2 t3 t4 t5 t6 t7 t8 t9
      rw [hPX] at x0 x1 x2 x3
      have C6 := hide (could_any p g.N g.E HA.out x.1 x.2 t.2 F1.out F2.out l2 L2.out wa HIa.out)
      go_wp2_with fail
      refine C6.out.mono ?_
      rintro _ wb ⟨v, rfl, hb, sc, nc, cc, rfl, hrc⟩
      have Gb := hide (Grow.trans' Ga.out hb)
      have RBb := hide (RB.out.later hb)
      have RC := hide hrc
      clear hb hrc C6 Ga KTa KXa HIa RB t0 t1 t2 t3 t4 t5 t6 t7 t8 t9 x0 x1 x2 x3
      have hnb : nb ≤ 4012012004 := by
        rw [← RBb.out.1, ← BIG_eq]
        exact Nat.le_trans (chainO_len kinT _) (Nat.le_trans (madeL_len _ _) (sumsOf_len HA.out L2.out))
      have hnc : nc ≤ 4012012004 := by
        rw [← RC.out.1, ← BIG_eq]
        exact Nat.le_trans (chainO_len kinT _) (Nat.le_trans (madeL_len _ _) (sumsOf_len HA.out L2.out))
      go_wp2_with fail
      clear hPX hPT hPG
      go_loopw [17] (fun i wr => ∃ j : Nat, j ≤ nc ∧ i = .int .i64 j ∧ Grow wb wr) (fun i _ => nc - (intOf i).toNat)
      case atStart => exact ⟨0, Nat.zero_le _, rfl, Grow.rfl' _⟩
      case round =>
        obtain ⟨j, hj, rfl, hg⟩ := hrel
        have HGW := hide hg
        by_cases hlt2 : j < nc
        · have hjd : j < (chainO kinT (madeL l2 t.2)).length := by rw [RC.out.1]; exact hlt2
          have hne : ¬ chainO kinT (madeL l2 t.2) = [] := fun h => by rw [h] at hjd; simp at hjd
          obtain ⟨bc, oc, rfl, hrc⟩ := RC.out.2.2.resolve_left hne
          obtain ⟨y0, y1, y2, y3, y4⟩ := (hrc.later hg).at j hjd
          have HV : Hid (coverB kinT (chainO kinT (madeL l2 t.1)) (chainO kinT (madeL l2 t.2))[j] = true) := hide (could_up QL.out QM.out (List.getElem_mem hjd))
          obtain ⟨y, hy⟩ : ∃ y, y = (chainO kinT (madeL l2 t.2))[j] := ⟨_, rfl⟩
          rw [← hy] at y0 y1 y2 y3 y4 HV
          have hj1 : (0 : Int) ≤ (j : Int) := by omega
          have hj2 : (j : Int) < (nc : Int) := by omega
          have CV := hide (refCovT_any sb nb cb (chainO kinT (madeL l2 t.1)) y HV.out wr (by omega) (RBb.out.later hg))
          clear hrc hne hy hjd hg
          go_wp2_with fail
          refine CV.out.mono ?_
          rintro _ wd ⟨rfl, hb⟩
          have HGD := hide (Grow.trans' HGW.out hb)
          clear hb CV y0 y1 y2 y3 y4
          go_wp2_with fail
          go_roundw
          case rel => exact ⟨j + 1, by omega, by go_num, HGD.out⟩
          case measure => simp [intOf]; omega
        · have hj2 : ¬ (j : Int) < (nc : Int) := by omega
          clear hg
          go_wp2_with fail
          go_ret
          exact ⟨rfl, Grow.trans' Gb.out HGW.out⟩

set_option maxRecDepth 100000 in
theorem PathsSelf_lifted (os : Os) (started : os.Started) (H : Type) (enc : TypeId × Value → H) :
    ReturnsInHanded {} Tryz.checked os 6 .any (Rows.pathsSelfSpec.pre6 enc Tryz.prog Tryz.f6 Rows.pathsSelfRow.domain false) (Rows.pathsSelfSpec.post enc Tryz.prog Tryz.f6 false true false false) := by
  refine returnsInHanded_of_change (C := Tryz.checked) own started (by kernel_rfl) Tryz.func6
    (ChangeSpec.witness6 (enc := enc) (C := Tryz.checked) false ⟨#[], #[.agg #[.slice none 0 0, .slice none 0 0], .agg #[.int .i64 0, .int .i64 0, .int .i64 0, .int .i64 0, .int .i64 0, .int .i64 0, .int .i64 0, .int .i64 0, .int .i64 0, .int .i64 0], .agg #[.int .i64 0, .int .i64 0, .int .i64 0, .int .i64 0]], []⟩ 8 (by kernel_rfl) (by kernel_rfl) (by kernel_rfl) (by kernel_rfl)) ?_
  intro W base args ds gs before hval0 hW hcnd _
  have hval : ∀ (j : Nat) t v, Tryz.f6.params[j]? = some t → args[j]? = some v → Value.okWide Tryz.prog W .any base t v := hval0
  have hW' := hW
  obtain ⟨p, q, hA0, hV, rfl, hfz, hnd⟩ := hW
  have hA : DataW.TrodAll enc Tryz.prog W 0 (fun _ => true) true Tryz.f6.params.toList args.toList ds p := hA0
  rw [Tryz.params6] at hA hval
  obtain ⟨v0, vs0, d0, ds0, p0, q0, hargs, rfl, rfl, h0, r0⟩ := trodAll_cons hA
  obtain ⟨v1, vs1, d1, ds1, p1, q1, rfl, rfl, rfl, h1, r1⟩ := trodAll_cons r0
  obtain ⟨v2, vs2, d2, ds2, p2, q2, rfl, rfl, rfl, h2, r2⟩ := trodAll_cons r1
  obtain ⟨rfl, rfl, rfl⟩ := trodAll_nil r2
  obtain rfl : args = #[v0, v1, v2] := by cases args; simp_all
  obtain ⟨rfl, rfl⟩ := trodVars_none hV
  have k0 := h0
  have lt0 : ∀ x ∈ p0, x.block < W.heap.size := by obtain ⟨m, hm⟩ := k0; exact DataW.trod_lt m _ _ _ hm
  obtain ⟨t0, rfl, w0⟩ := open_gr (hval 0 25 v0 rfl rfl) h0
  have k1 := h1
  have lt1 : ∀ x ∈ p1, x.block < W.heap.size := by obtain ⟨m, hm⟩ := k1; exact DataW.trod_lt m _ _ _ hm
  obtain ⟨t1, rfl, w1⟩ := open_tm2 (hval 1 53 v1 rfl rfl) h1
  have k2 := h2
  have lt2 : ∀ x ∈ p2, x.block < W.heap.size := by obtain ⟨m, hm⟩ := k2; exact DataW.trod_lt m _ _ _ hm
  obtain ⟨t2, rfl, w2⟩ := open_lc2 (hval 2 54 v2 rfl rfl) h2
  clear hA0 hval0
  refine (PathsSelf_any t0 t1 t2 W w0 w2.1 w2.2).mono fun e W' ⟨he, bel⟩ => ?_
  subst he
  exact ⟨_, rfl, _, _, _, [], _, [], hW', trodAll_mk1 (shut_bool Tryz.underlying4 _), (trodAll_cons_mk (Below.trod laidOut (by kernel_rfl) (of_decide_eq_true (by kernel_rfl)) k0 bel lt0) (trodAll_cons_mk (Below.trod laidOut (by kernel_rfl) (of_decide_eq_true (by kernel_rfl)) k1 bel lt1) (trodAll_cons_mk (Below.trod laidOut (by kernel_rfl) (of_decide_eq_true (by kernel_rfl)) k2 bel lt2) trodAll_mk0))), rfl, bel.frame _, fun h => by cases h⟩

/-- The given statement. -/
theorem PathsSelf_holds : Rows.PathsSelfSaid :=
  OpenClaim.holds_of_wide 6 Tryz.f6 rfl rfl rfl rfl rfl rfl rfl ⟨rfl, rfl, rfl, rfl, rfl⟩ rfl rfl rfl rfl rfl (by kernel_rfl) Tryz.func6 (by kernel_rfl)
    (of_decide_eq_true (by kernel_rfl)) (by unfold Func.isWrapper; first | (rw [if_pos (by decide +kernel)]; kernel_rfl) | (rw [if_neg (by decide +kernel)]; exact ⟨rfl, rfl⟩))
    (fun os started H enc _ => PathsSelf_lifted os started H enc)


end Go.Proofs.YtehianjfpmbfpaaGreat
