/-
  PathsSteps: of every graph that is accepted, every edge of it and every time at its near end: the time itself is covered at the edge's far end, and what the node there makes of it at the node's output; of another graph nothing is asked.
-/
import Derived.Test.YtehianjfpmbfpaaGreatQHdZ
import Derived.Test.YtehianjfpmbfpaaGreatQThZ
import Derived.Test.YtehianjfpmbfpaaGreatRCovZ
import Derived.Test.YtehianjfpmbfpaaGreatSRAp
import Derived.Test.YtehianjfpmbfpaaGreatEndGZ
import Derived.Test.YtehianjfpmbfpaaGreatHInnZ
namespace Go.Proofs.YtehianjfpmbfpaaGreat
set_option maxRecDepth 100000
open Go.ChangeShapes Go.WideShapes Go.ChangeAt Go.RowKit Go.Deep Go.Sort
set_option linter.unusedVariables false
set_option linter.unusedSimpArgs false

theorem cutP {P Q : Prop} (h : P) (k : P → Q) : Q := k h
theorem world_of {W X : World} (h : Grow W X) : ∃ Y, Y = X := ⟨X, rfl⟩
theorem growS' {a w : World} (b o : Nat) (v : Value) (h : Below a.heap.size a w) (hp : a.heap.size ≤ b) : Below a.heap.size a (w.setCell ⟨b, o, none⟩ v) := h.setCell hp v
theorem refApply_at (s : Sm) (t q : Tm) (e : Int) (h1 : applyT s t = q) (h2 : applyE s t = e) (w : World) :
    Calls Tryz.prog 25 #[.agg #[.int .i64 s.f, .int .i64 s.t, .int .i64 s.k, .int .i64 s.ep, .int .i64 s.x, .int .i64 s.y, .int .i64 s.z], .agg #[.int .i64 t.e, .int .i64 t.d, .int .i64 t.x, .int .i64 t.y, .int .i64 t.z]] w fun e' w' => e' = .returned (.tuple #[.agg #[.int .i64 q.e, .int .i64 q.d, .int .i64 q.x, .int .i64 q.y, .int .i64 q.z], .int .i64 e]) ∧ Grow w w' := by
  rw [← h1, ← h2]; exact refApply_any s t w
theorem rinn_at (k a b d : Int) (z : Sm) (h : innP ⟨k, a, b, d⟩ = z) (w : World) :
    Calls Tryz.prog 26 #[.agg #[.int .i64 k, .int .i64 a, .int .i64 b, .int .i64 d]] w fun e w' => e = .returned (.agg #[.int .i64 z.f, .int .i64 z.t, .int .i64 z.k, .int .i64 z.ep, .int .i64 z.x, .int .i64 z.y, .int .i64 z.z]) ∧ Grow w w' := by
  rw [← h]; exact rinn_any k a b d w

set_option maxHeartbeats 40000000 in
theorem PathsSteps_any (g : GA) (t : Tm) (i : Int) (w : World) (hg : IsG w g) :
    Calls Tryz.prog 7 #[.agg #[.slice g.s g.n g.c, .slice g.t g.m g.q], .agg #[.int .i64 t.e, .int .i64 t.d, .int .i64 t.x, .int .i64 t.y, .int .i64 t.z], .int .i64 i] w fun r w' => r = .returned (.bool true) ∧ Grow w w' := by
  have GG : Hid (Grow w ((w.alloc (.cells #[.slice g.s g.n g.c, .slice g.t g.m g.q] 25)).alloc (.cells #[.int .i64 t.e, .int .i64 t.d, .int .i64 t.x, .int .i64 t.y, .int .i64 t.z] 43))) := hide (Grow.trans' (Grow.alloc' _ _) (Grow.alloc' _ _))
  have KG : Hid (BoxG ((w.alloc (.cells #[.slice g.s g.n g.c, .slice g.t g.m g.q] 25)).alloc (.cells #[.int .i64 t.e, .int .i64 t.d, .int .i64 t.x, .int .i64 t.y, .int .i64 t.z] 43)) w.heap.size g) := hide ((BoxG.new w g).later (Grow.alloc' _ _))
  have KT : Hid (Box ((w.alloc (.cells #[.slice g.s g.n g.c, .slice g.t g.m g.q] 25)).alloc (.cells #[.int .i64 t.e, .int .i64 t.d, .int .i64 t.x, .int .i64 t.y, .int .i64 t.z] 43)) (w.heap.size + 1) t) := hide (by simp [Box, go_sem])
  have HN := hide (hg.nodes.later GG.out)
  have HE := hide (hg.edges.later GG.out)
  clear hg
  go_enter Tryz.func7, Tryz.ntmps7
  go_wp2_with fail
  refine (shown_any _).mono ?_
  rintro _ w1 ⟨rfl, hb⟩
  have G1 := hide (Grow.trans' GG.out hb)
  have KG1 := hide (KG.out.later hb)
  have KT1 := hide (KT.out.later hb)
  have HN1 := hide (HN.out.later hb)
  have HE1 := hide (HE.out.later hb)
  obtain ⟨PG, hPG⟩ : ∃ PG, PG = w.heap.size := ⟨_, rfl⟩
  obtain ⟨PT, hPT⟩ : ∃ PT, PT = w.heap.size + 1 := ⟨_, rfl⟩
  rw [← hPG] at KG1
  rw [← hPT] at KT1
  clear hb GG KG KT HN HE
  obtain ⟨g0, g1⟩ := KG1.out
  rw [hPG] at g0 g1
  obtain ⟨q, hq⟩ : ∃ q, decide (errG g.N g.E = 0) = q := ⟨_, rfl⟩
  have CA := hide (accepted_at g.s g.n g.c g.t g.m g.q g.N g.E hq w1 HN1.out HE1.out)
  have HQ := hide hq
  clear hq
  go_wp2_with fail
  refine CA.out.mono ?_
  rintro _ w2 ⟨rfl, hb⟩
  have G2 := hide (Grow.trans' G1.out hb)
  have KG2 := hide (KG1.out.later hb)
  have KT2 := hide (KT1.out.later hb)
  have HN2 := hide (HN1.out.later hb)
  have HE2 := hide (HE1.out.later hb)
  clear hb CA G1 KG1 KT1 HN1 HE1 g0 g1
  cases q
  · go_wp2_with fail
    go_ret
    exact ⟨rfl, G2.out⟩
  · have HA : Hid (AccG g.N g.E) := hide (errG_zero.1 (of_decide_eq_true HQ.out))
    obtain ⟨g0, g1⟩ := KG2.out
    rw [hPG] at g0 g1
    have hgm : g.E.length = g.m := HE2.out.1
    have hc : i < 0 ∨ (¬ i < 0 ∧ (g.m : Int) ≤ i) ∨ (¬ i < 0 ∧ ¬ (g.m : Int) ≤ i) := by omega
    rcases hc with h1 | ⟨h1, h2⟩ | ⟨h1, h2⟩
    · go_wp2_with fail
      go_ret
      exact ⟨rfl, G2.out⟩
    · go_wp2_with fail
      go_ret
      exact ⟨rfl, G2.out⟩
    obtain ⟨k, rfl⟩ : ∃ k : Nat, i = k := ⟨i.toNat, by omega⟩
    have hkd : k < g.E.length := by omega
    have CN := hide (new_any g.s g.n g.c g.t g.m g.q g.N g.E HA.out w2 HN2.out HE2.out)
    go_wp2_with fail
    refine CN.out.mono ?_
    rintro _ w3 ⟨p, rfl, hb, hI⟩
    have G3 := hide (Grow.trans' G2.out hb)
    have KG3 := hide (KG2.out.later hb)
    have KT3 := hide (KT2.out.later hb)
    have HN3 := hide (HN2.out.later hb)
    have HE3 := hide (HE2.out.later hb)
    have HI := hide hI
    clear hb hI CN G2 KG2 KT2 HN2 HE2 g0 g1
    have hne : ¬ g.E = [] := fun h => by rw [h] at hkd; simp at hkd
    obtain ⟨be, oe, hes, hre⟩ := HE3.out.2.2.resolve_left hne
    obtain ⟨p0, p1, p2⟩ := hre.at k hkd
    have HM : Hid (g.E[k] ∈ g.E) := hide (List.getElem_mem hkd)
    obtain ⟨e, he⟩ : ∃ e, e = g.E[k] := ⟨_, rfl⟩
    rw [← he] at p0 p1 p2 HM
    clear he
    obtain ⟨ef, et, ep⟩ := e
    obtain ⟨⟨f1, f2, f3⟩, ⟨f4, f5, f6⟩, f7⟩ := edge_is (HA.out.edge HM.out)
    dsimp only at p0 p1 p2 f1 f2 f3 f4 f5 f6 f7
    obtain ⟨f, rfl⟩ : ∃ f : Nat, ef = f := ⟨ef.toNat, by omega⟩
    obtain ⟨u, rfl⟩ : ∃ u : Nat, et = u := ⟨et.toNat, by omega⟩
    have hfN : f < g.N.length := by omega
    have huN : u < g.N.length := by omega
    have hN12 := HA.out.big.2.1
    have hp : 0 ≤ ep ∧ ep ≤ 2 := by
      unfold portB at f6
      have := insP_cases (nth g.N (u : Int).toNat).k
      rw [if_neg f7] at f6
      simp only [Bool.and_eq_true, decide_eq_true_eq] at f6
      omega
    have W1 : Hid (LcWf ⟨(f : Int), -1⟩) := hide (lcWf_lit (by omega) (by omega))
    have W2 : Hid (LcWf ⟨(u : Int), ep⟩) := hide (lcWf_lit (by omega) (by omega))
    have W3 : Hid (LcWf ⟨(u : Int), -1⟩) := hide (lcWf_lit (by omega) (by omega))
    have hNe : ¬ g.N = [] := fun h => by rw [h] at hfN; simp at hfN
    obtain ⟨bn, on, hns, hrn⟩ := HN3.out.2.2.resolve_left hNe
    have hgn : g.N.length = g.n := HN3.out.1
    have HNf := hide (fun w' (h : Grow w3 w') => (hrn.later h).at f hfN)
    have HNu := hide (fun w' (h : Grow w3 w') => (hrn.later h).at u huN)
    have Ef : Hid (nth g.N (f : Int).toNat = g.N[f]) := hide (by rw [Int.toNat_natCast]; exact nth_get g.N f hfN)
    have Eu : Hid (nth g.N (u : Int).toNat = g.N[u]) := hide (by rw [Int.toNat_natCast]; exact nth_get g.N u huN)
    obtain ⟨nf, hnf⟩ : ∃ n, n = g.N[f] := ⟨_, rfl⟩
    obtain ⟨nu, hnu⟩ : ∃ n, n = g.N[u] := ⟨_, rfl⟩
    rw [← hnf] at Ef
    rw [← hnu] at Eu
    simp only [← hnf] at HNf
    simp only [← hnu] at HNu
    obtain ⟨yk, ya, yb, yd⟩ := nu
    obtain ⟨l1, hl1⟩ := HI.out.has ⟨(f : Int), -1⟩ ⟨(u : Int), ep⟩ W1.out W2.out
    obtain ⟨l2, hl2⟩ := HI.out.has ⟨(u : Int), ep⟩ ⟨(u : Int), -1⟩ W2.out W3.out
    have L1 := hide hl1
    have L2 := hide hl2
    have ie0 : (0 : Int) ≤ (k : Int) := by omega
    have ie1 : (k : Int) < (g.m : Int) := by omega
    have if0 : (0 : Int) ≤ (f : Int) := by omega
    have if1 : (f : Int) < (g.n : Int) := by omega
    have iu0 : (0 : Int) ≤ (u : Int) := by omega
    have iu1 : (u : Int) < (g.n : Int) := by omega
    obtain ⟨g0, g1⟩ := KG3.out
    rw [hPG] at g0 g1
    rw [hes] at g1
    rw [hns] at g0
    clear hre hne hkd hnf hnu hrn hNe f1 f2 f3 f4 f5 f6 f7 hp hgm h1 h2 hl1 hl2 hfN huN hN12 hgn
    go_wp2_with (refine wpList_putE rfl _ _ rfl w3.heap.size ⟨(f : Int), (u : Int), ep⟩ rfl rfl ⟨_, (MapKept.heap_alloc w3 _).1, rfl⟩ w3 (Grow.alloc' _ _) (Nat.le_refl _) ?_)
    intro w4 hg4 hb4
    have G4 := hide (Grow.trans' G3.out hg4)
    have KE4 := hide hb4
    have H34 := hide hg4
    obtain ⟨e0, e1, e2⟩ := hb4
    clear hg4 p0 p1 p2
    go_wp2_with (refine wpList_putL rfl _ _ rfl w4.heap.size ⟨(f : Int), -1⟩ rfl rfl (BlkL.new w4) w4 (Grow.alloc' _ _) (Nat.le_refl _) ?_)
    intro w5 hg5 hb5
    have G5 := hide (Grow.trans' G4.out hg5)
    have H35 := hide (Grow.trans' H34.out hg5)
    have KE5 := hide (KE4.out.later hg5)
    have KA5 := hide hb5
    clear hg5 hb5 e0 e1 e2 G4 H34 KE4
    obtain ⟨e0, e1, e2⟩ := KE5.out
    go_wp2_with (refine wpList_putL rfl _ _ rfl w5.heap.size ⟨(u : Int), ep⟩ rfl rfl (BlkL.new w5) w5 (Grow.alloc' _ _) (Nat.le_refl _) ?_)
    intro w6 hg6 hb6
    have G6 := hide (Grow.trans' G5.out hg6)
    have H36 := hide (Grow.trans' H35.out hg6)
    have KE6 := hide (KE5.out.later hg6)
    have KA6 := hide (KA5.out.later hg6)
    have KB6 := hide hb6
    have KT6 := hide (KT3.out.later H36.out)
    have KG6 := hide (KG3.out.later H36.out)
    clear hg6 hb6 e0 e1 e2 G5 H35 KE5 KA5 g0 g1
    obtain ⟨PE, hPE⟩ : ∃ PE, PE = w3.heap.size := ⟨_, rfl⟩
    obtain ⟨PA, hPA⟩ : ∃ PA, PA = w4.heap.size := ⟨_, rfl⟩
    obtain ⟨PB, hPB⟩ : ∃ PB, PB = w5.heap.size := ⟨_, rfl⟩
    rw [← hPE] at KE6
    rw [← hPA] at KA6
    rw [← hPB] at KB6
    obtain ⟨t0, t1, t2, t3, t4⟩ := KT6.out
    rw [hPT] at t0 t1 t2 t3 t4
    obtain ⟨qm, hqm⟩ : ∃ q, mayB t = q := ⟨_, rfl⟩
    have QM := hide hqm
    clear hqm
    go_wp2_with fail
    refine (refMayT_at t QM.out _).mono ?_
    rintro _ w7 ⟨rfl, hb⟩
    have G7 := hide (Grow.trans' G6.out hb)
    have H37 := hide (Grow.trans' H36.out hb)
    have KE7 := hide (KE6.out.later hb)
    have KA7 := hide (KA6.out.later hb)
    have KB7 := hide (KB6.out.later hb)
    have KT7 := hide (KT6.out.later hb)
    have KG7 := hide (KG6.out.later hb)
    clear hb G6 H36 KE6 KA6 KB6 KT6 KG6 t0 t1 t2 t3 t4
    obtain ⟨cv, hcv⟩ : ∃ c, coverB kinT (chainO kinT (madeL l1 t)) t = c := ⟨_, rfl⟩
    have CVH := hide hcv
    have hll1 : (chainO kinT (madeL l1 t)).length ≤ 4012012004 := by
      rw [← BIG_eq]
      exact Nat.le_trans (chainO_len kinT _) (Nat.le_trans (madeL_len _ _) (sumsOf_len HA.out L1.out))
    clear hcv
    go_wp2_with fail
    rw [← hPE, ← hPA, ← hPB, ← hPT, ← hPG]
    clear hPE hPA hPB hPT hPG
    let FF : Nat → Value → World → Prop := fun i vF wF => match i with | 0 => vF = .pointer (some ⟨p, 0, none⟩) | 1 => vF = .agg #[.int .i64 (f : Int), .int .i64 (-1)] | 2 => vF = .agg #[.int .i64 t.e, .int .i64 t.d, .int .i64 t.x, .int .i64 t.y, .int .i64 t.z] | 3 => vF = .agg #[.int .i64 (u : Int), .int .i64 ep] | 4 => IsRowT (chainO kinT (madeL l1 t)) vF wF | 5 => vF = .agg #[.int .i64 t.e, .int .i64 t.d, .int .i64 t.x, .int .i64 t.y, .int .i64 t.z] | 6 => vF = .bool cv | 7 => vF = .bool cv | _ => True
    have hstab : ∀ k v w1 w2, Grow w1 w2 → FF k v w1 → FF k v w2 := by
      intro k v w1 w2 hg h
      match k with
      | 0 => exact h
      | 1 => exact h
      | 2 => exact h
      | 3 => exact h
      | 4 => exact IsRowT.later hg h
      | 5 => exact h
      | 6 => exact h
      | 7 => exact h
      | k + 8 => exact trivial
    refine wp_region_invK FF (fun _ => none) (by kernel_rfl) (by kernel_rfl) ?_ ?_
    · refine ⟨?_, ?_, ?_, ?_, ?_, ?_, ?_, ?_, trivial⟩
      · refine stepK_run hstab trivial (by intro j b h; cases h) ?_
        intro a' w' hg hs hd
        have e9 : a'.eval (.tmp 9) = .pointer (some ⟨p, 0, none⟩) := hs.rest 9 rfl
        have ec : ∀ v, a'.eval (.const v) = v := fun _ => rfl
        have ef : ∀ g, a'.eval (.func g) = .func (.func g) #[] #[] := fun _ => rfl
        clear hd hs
        refine wpv (v := .pointer (some ⟨p, 0, none⟩)) ?_ ⟨_, rfl, Grow.rfl' _, rfl⟩
        (generalize a'.eval = ev at ec ef e9 ⊢; simp [execOp, go_sem, *])
      · refine stepK_run hstab trivial (by intro j b h; cases h) ?_
        intro a' w' hg hs hd
        have e11 : a'.eval (.tmp 11) = .pointer (some ⟨PA, 0, none⟩) := hs.rest 11 rfl
        have ec : ∀ v, a'.eval (.const v) = v := fun _ => rfl
        have ef : ∀ g, a'.eval (.func g) = .func (.func g) #[] #[] := fun _ => rfl
        clear hd hs
        obtain ⟨x0, x1⟩ := KA7.out.later hg
        refine wpv (v := .agg #[.int .i64 (f : Int), .int .i64 (-1)]) ?_ ⟨_, rfl, Grow.rfl' _, rfl⟩
        (generalize a'.eval = ev at ec ef e11 ⊢; simp [execOp, go_sem, *])
      · refine stepK_run hstab trivial (by intro j b h; cases h) ?_
        intro a' w' hg hs hd
        have e4 : a'.eval (.tmp 4) = .pointer (some ⟨PT, 0, none⟩) := hs.rest 4 rfl
        have ec : ∀ v, a'.eval (.const v) = v := fun _ => rfl
        have ef : ∀ g, a'.eval (.func g) = .func (.func g) #[] #[] := fun _ => rfl
        clear hd hs
        obtain ⟨t0, t1, t2, t3, t4⟩ := KT7.out.later hg
        refine wpv (v := .agg #[.int .i64 t.e, .int .i64 t.d, .int .i64 t.x, .int .i64 t.y, .int .i64 t.z]) ?_ ⟨_, rfl, Grow.rfl' _, rfl⟩
        (generalize a'.eval = ev at ec ef e4 ⊢; simp [execOp, go_sem, *])
      · refine stepK_run hstab trivial (by intro j b h; cases h) ?_
        intro a' w' hg hs hd
        have e12 : a'.eval (.tmp 12) = .pointer (some ⟨PB, 0, none⟩) := hs.rest 12 rfl
        have ec : ∀ v, a'.eval (.const v) = v := fun _ => rfl
        have ef : ∀ g, a'.eval (.func g) = .func (.func g) #[] #[] := fun _ => rfl
        clear hd hs
        obtain ⟨x0, x1⟩ := KB7.out.later hg
        refine wpv (v := .agg #[.int .i64 (u : Int), .int .i64 ep]) ?_ ⟨_, rfl, Grow.rfl' _, rfl⟩
        (generalize a'.eval = ev at ec ef e12 ⊢; simp [execOp, go_sem, *])
      · refine stepK_run hstab trivial (by intro j b h; cases h) ?_
        intro a' w' hg hs hd
        have e55 : a'.eval (.tmp 55) = .pointer (some ⟨p, 0, none⟩) := hd ⟨0, Ground.data⟩ (by simp) rfl rfl
        have e56 : a'.eval (.tmp 56) = .agg #[.int .i64 (f : Int), .int .i64 (-1)] := hd ⟨1, Ground.data⟩ (by simp) rfl rfl
        have e57 : a'.eval (.tmp 57) = .agg #[.int .i64 t.e, .int .i64 t.d, .int .i64 t.x, .int .i64 t.y, .int .i64 t.z] := hd ⟨2, Ground.data⟩ (by simp) rfl rfl
        have e58 : a'.eval (.tmp 58) = .agg #[.int .i64 (u : Int), .int .i64 ep] := hd ⟨3, Ground.data⟩ (by simp) rfl rfl
        have ec : ∀ v, a'.eval (.const v) = v := fun _ => rfl
        have ef : ∀ g, a'.eval (.func g) = .func (.func g) #[] #[] := fun _ => rfl
        clear hd hs
        refine wpc ?_ (Calls.mono (could_any p g.N g.E HA.out ⟨(f : Int), -1⟩ ⟨(u : Int), ep⟩ t W1.out W2.out l1 L1.out w' (HI.out.later (Grow.trans' H37.out hg))) fun e w2 ⟨v, he, hb, hv⟩ => ⟨v, he, _, rfl, hb, hv⟩)
        (generalize a'.eval = ev at ec ef e55 e56 e57 e58 ⊢; simp [execOp, go_sem, *])
      · refine stepK_run hstab trivial (by intro j b h; cases h) ?_
        intro a' w' hg hs hd
        have e4 : a'.eval (.tmp 4) = .pointer (some ⟨PT, 0, none⟩) := hs.rest 4 rfl
        have ec : ∀ v, a'.eval (.const v) = v := fun _ => rfl
        have ef : ∀ g, a'.eval (.func g) = .func (.func g) #[] #[] := fun _ => rfl
        clear hd hs
        obtain ⟨t0, t1, t2, t3, t4⟩ := KT7.out.later hg
        refine wpv (v := .agg #[.int .i64 t.e, .int .i64 t.d, .int .i64 t.x, .int .i64 t.y, .int .i64 t.z]) ?_ ⟨_, rfl, Grow.rfl' _, rfl⟩
        (generalize a'.eval = ev at ec ef e4 ⊢; simp [execOp, go_sem, *])
      · refine stepK_run hstab trivial (by intro j b h; cases h) ?_
        intro a' w' hg hs hd
        obtain ⟨sl59, nl59, cl59, e59, h59⟩ : IsRowT (chainO kinT (madeL l1 t)) (a'.eval (.tmp 59)) w' := hd ⟨4, Ground.data⟩ (by simp) rfl rfl
        have e60 : a'.eval (.tmp 60) = .agg #[.int .i64 t.e, .int .i64 t.d, .int .i64 t.x, .int .i64 t.y, .int .i64 t.z] := hd ⟨5, Ground.data⟩ (by simp) rfl rfl
        have ec : ∀ v, a'.eval (.const v) = v := fun _ => rfl
        have ef : ∀ g, a'.eval (.func g) = .func (.func g) #[] #[] := fun _ => rfl
        clear hd hs
        refine wpc ?_ (Calls.mono (refCovT_any sl59 nl59 cl59 (chainO kinT (madeL l1 t)) t CVH.out w' (by have := h59.1; omega) h59) fun e w2 ⟨he, hb⟩ => ⟨_, he, _, rfl, hb, rfl⟩)
        (generalize a'.eval = ev at ec ef e59 e60 ⊢; simp [execOp, go_sem, *])
      · refine stepK_run hstab trivial (by intro j b h; cases h) ?_
        intro a' w' hg hs hd
        have e61 : a'.eval (.tmp 61) = .bool cv := hd ⟨6, Ground.data⟩ (by simp) rfl rfl
        have ec : ∀ v, a'.eval (.const v) = v := fun _ => rfl
        have ef : ∀ g, a'.eval (.func g) = .func (.func g) #[] #[] := fun _ => rfl
        clear hd hs
        refine wpv (v := .bool cv) ?_ ⟨_, rfl, Grow.rfl' _, rfl⟩
        (generalize a'.eval = ev at ec ef e61 ⊢; simp [execOp, go_sem, *])
    · intro a' w' hg hs hd
      have G8 := hide (Grow.trans' G7.out hg)
      have H38 := hide (Grow.trans' H37.out hg)
      have KE8 := hide (KE7.out.later hg)
      have KB8 := hide (KB7.out.later hg)
      have KT8 := hide (KT7.out.later hg)
      have KG8 := hide (KG7.out.later hg)
      clear hg G7 H37 KE7 KA7 KB7 KT7 KG7
      have fz55 : a'.tmps.getD 55 undef = .pointer (some ⟨p, 0, none⟩) := hd 0 (by simp) (by intro k h; cases h); have fz56 : a'.tmps.getD 56 undef = .agg #[.int .i64 (f : Int), .int .i64 (-1)] := hd 1 (by simp) (by intro k h; cases h); have fz57 : a'.tmps.getD 57 undef = .agg #[.int .i64 t.e, .int .i64 t.d, .int .i64 t.x, .int .i64 t.y, .int .i64 t.z] := hd 2 (by simp) (by intro k h; cases h); have fz58 : a'.tmps.getD 58 undef = .agg #[.int .i64 (u : Int), .int .i64 ep] := hd 3 (by simp) (by intro k h; cases h); have fz60 : a'.tmps.getD 60 undef = .agg #[.int .i64 t.e, .int .i64 t.d, .int .i64 t.x, .int .i64 t.y, .int .i64 t.z] := hd 5 (by simp) (by intro k h; cases h); have fz61 : a'.tmps.getD 61 undef = .bool cv := hd 6 (by simp) (by intro k h; cases h); have fz14 : a'.tmps.getD 14 undef = .bool cv := hd 7 (by simp) (by intro k h; cases h); rw [frame_eq hs [false, false, false, false, false, false, false, false, false, false, false, false, false, false, true, false, false, false, false, false, false, false, false, false, false, false, false, false, false, false, false, false, false, false, false, false, false, false, false, false, false, false, false, false, false, false, false, false, false, false, false, false, false, false, false, true, true, true, true, true, true, true, false, false, false, false, false, false, false, false, false, false, false, false, false, false, false, false, false, false, false, false, false, false, false, false, false, false, false, false, false, false, false, false, false, false, false, false, false, false, false, false, false, false, false, false, false, false, false, false, false, false, false, false] (by kernel_rfl)]; simp only [mergeL, fz55, fz56, fz57, fz58, fz60, fz61, fz14]; clear hs hd hstab fz55 fz56 fz57 fz58 fz60 fz61 fz14; generalize a'.tmps = TT at *
      generalize w' = w8 at *
      have hcase : qm = false ∨ (qm = true ∧ ¬ t.d = nf.d) ∨ (qm = true ∧ nf.d = t.d ∧ cv = true) := by
        cases qm
        · exact .inl rfl
        · by_cases h : t.d = nf.d
          · exact .inr (.inr ⟨rfl, h.symm, CVH.out.symm.trans (could_edge HA.out HM.out L1.out QM.out (h.trans (by show nf.d = (nth g.N (f : Int).toNat).d; rw [Ef.out])))⟩)
          · exact .inr (.inl ⟨rfl, h⟩)
      obtain ⟨g0, g1⟩ := KG8.out
      rw [hns] at g0
      obtain ⟨n0, n1, n2, n3⟩ := HNf.out w8 H38.out
      obtain ⟨e0, e1, e2⟩ := KE8.out
      obtain ⟨t0, t1, t2, t3, t4⟩ := KT8.out
      have sg0 := cell_regrown g0
      have sn3 := cell_regrown n3
      have se0 := cell_regrown e0
      have st1 := cell_regrown t1
      dsimp only at se0 e0
      obtain ⟨dn, hdn⟩ : ∃ d, d = nf.d := ⟨_, rfl⟩
      rw [← hdn] at hcase n3 sn3
      clear hdn
      rcases hcase with rfl | ⟨rfl, hd⟩ | ⟨rfl, rfl, rfl⟩
      all_goals
        go_wp2_with fail
        refine wp_region_quiet_below (by kernel_rfl) (by kernel_rfl) ?_
        repeat (go_big_quiet_step (fail))
        try
          simp only [beq_eq_false_iff_ne.2 hd]
          repeat (go_big_quiet_step (fail))
        refine wpQuiet_nil ?_
        intro _ hw'
        obtain ⟨⟨dq, osq⟩, hw''⟩ := hw'
        subst hw''
        have GB := hide (below_regrown w8 dq osq)
        try clear hd
        clear sg0 sn3 se0 st1 g0 g1 n0 n1 n2 n3 e0 e1 e2 t0 t1 t2 t3 t4
        generalize grow (redrawn w8 dq) osq = w9 at *
        have G9 := hide (Grow.trans' G8.out GB.out)
        have H39 := hide (Grow.trans' H38.out GB.out)
        have KE9 := hide (KE8.out.later GB.out)
        have KB9 := hide (KB8.out.later GB.out)
        have KT9 := hide (KT8.out.later GB.out)
        have KG9 := hide (KG8.out.later GB.out)
        clear GB G8 H38 KE8 KB8 KT8 KG8
        obtain ⟨g0, g1⟩ := KG9.out
        rw [hns] at g0
        obtain ⟨n0, n1, n2, n3⟩ := HNu.out w9 H39.out
        obtain ⟨e0, e1, e2⟩ := KE9.out
        dsimp only at n0 n1 n2 n3 e0 e1 e2
        go_wp2_with (refine wpList_putN rfl _ _ rfl w9.heap.size ⟨yk, ya, yb, yd⟩ rfl rfl (BlkN.new w9) w9 (Grow.alloc' _ _) (Nat.le_refl _) ?_)
        intro w10 hg10 hb10
        have G := hide (Grow.trans' G9.out hg10)
        have H310 := hide (Grow.trans' H39.out hg10)
        have KE10 := hide (KE9.out.later hg10)
        have KB10 := hide (KB9.out.later hg10)
        have KT : Box w10 PT t := KT9.out.later hg10
        have KN := hide hb10
        clear hg10 hb10 G9 H39 KE9 KB9 KT9 KG9 g0 g1 n0 n1 n2 n3 e0 e1 e2
        obtain ⟨PN, hPN⟩ : ∃ PN, PN = w9.heap.size := ⟨_, rfl⟩
        rw [← hPN] at KN ⊢
        clear hPN
        obtain ⟨z, hz⟩ : ∃ z, innP ⟨yk, ya, yb, yd⟩ = z := ⟨_, rfl⟩
        obtain ⟨q, hq1⟩ : ∃ q, applyT z t = q := ⟨_, rfl⟩
        obtain ⟨er, hq2⟩ : ∃ e, applyE z t = e := ⟨_, rfl⟩
        have HZ := hide hz
        have HQ1 := hide hq1
        have HQ2 := hide hq2
        clear hz hq1 hq2
        have KN0 : Hid (∀ w', Grow w10 w' → w'.cell? ⟨PN, 0, none⟩ = some (.int .i64 yk)) := hide fun w' h => (KN.out.later h).1
        have KN1 : Hid (∀ w', Grow w10 w' → w'.cell? ⟨PN, 1, none⟩ = some (.int .i64 ya)) := hide fun w' h => (KN.out.later h).2.1
        have KN2 : Hid (∀ w', Grow w10 w' → w'.cell? ⟨PN, 2, none⟩ = some (.int .i64 yb)) := hide fun w' h => (KN.out.later h).2.2.1
        have KN3 : Hid (∀ w', Grow w10 w' → w'.cell? ⟨PN, 3, none⟩ = some (.int .i64 yd)) := hide fun w' h => (KN.out.later h).2.2.2
        have HT : Hid (Box w10 (PT) t) := hide KT
        clear KT
        have HH : ∀ w', Grow w10 w' → (fun w' => Grow w10 w' ∧ w'.cell? ⟨PT, 0, none⟩ = some (.int .i64 t.e) ∧ w'.cell? ⟨PT, 1, none⟩ = some (.int .i64 t.d) ∧ w'.cell? ⟨PT, 2, none⟩ = some (.int .i64 t.x) ∧ w'.cell? ⟨PT, 3, none⟩ = some (.int .i64 t.y) ∧ w'.cell? ⟨PT, 4, none⟩ = some (.int .i64 t.z) ∧ w'.cell? ⟨PN, 0, none⟩ = some (.int .i64 yk) ∧ w'.cell? ⟨PN, 1, none⟩ = some (.int .i64 ya) ∧ w'.cell? ⟨PN, 2, none⟩ = some (.int .i64 yb) ∧ w'.cell? ⟨PN, 3, none⟩ = some (.int .i64 yd)) w' := fun w' hq => by
          obtain ⟨qT0, qT1, qT2, qT3, qT4⟩ := HT.out.later hq
          exact ⟨hq, qT0, qT1, qT2, qT3, qT4, KN0.out _ hq, KN1.out _ hq, KN2.out _ hq, KN3.out _ hq⟩
        have HK := hide HH
        clear HH
        go_wp2_with fail
        go_region_held3 (fun w' => Grow w10 w' ∧ w'.cell? ⟨PT, 0, none⟩ = some (.int .i64 t.e) ∧ w'.cell? ⟨PT, 1, none⟩ = some (.int .i64 t.d) ∧ w'.cell? ⟨PT, 2, none⟩ = some (.int .i64 t.x) ∧ w'.cell? ⟨PT, 3, none⟩ = some (.int .i64 t.y) ∧ w'.cell? ⟨PT, 4, none⟩ = some (.int .i64 t.z) ∧ w'.cell? ⟨PN, 0, none⟩ = some (.int .i64 yk) ∧ w'.cell? ⟨PN, 1, none⟩ = some (.int .i64 ya) ∧ w'.cell? ⟨PN, 2, none⟩ = some (.int .i64 yb) ∧ w'.cell? ⟨PN, 3, none⟩ = some (.int .i64 yd)) (first | (refine HK.out _ ?_; simp (maxDischargeDepth := 30) only [growR, growA, growD]; done) | (with_reducible exact HK.out _ gu00) | (refine HK.out _ ?_; simp (maxDischargeDepth := 30) [growA, gu00]; done) | (with_reducible exact HK.out _ gu01) | (refine HK.out _ ?_; simp (maxDischargeDepth := 30) [growA, growS', zu00, gu01]; done)) (first | (go_at_call 26; refine (rinn_at yk ya yb yd z HZ.out _).mono ?_; rintro e u00 ⟨rfl, hbu00⟩; have gu00 : Below w10.heap.size w10 u00 := Grow.trans' (‹Grow w10 _ ∧ _›).1 hbu00; have zu00 := gu00.size; have yu00 := hbu00.size; (try simp at yu00); (try (refine (fun v000 : w10.heap.size < u00.heap.size => ?_) ?_; rotate_left; focus omega)); obtain ⟨hcu00, hfu00⟩ := bcell hbu00) | (go_at_call 25; refine (refApply_at z t q er HQ1.out HQ2.out _).mono ?_; rintro e u01 ⟨rfl, hbu01⟩; have gu01 : Below w10.heap.size w10 u01 := Grow.trans' (‹Grow w10 _ ∧ _›).1 hbu01; have zu01 := gu01.size; have yu01 := hbu01.size; (try simp at yu01); (try (refine (fun v010 : w10.heap.size < u01.heap.size => ?_) ?_; rotate_left; focus omega)); (try (refine (fun v011 : u00.heap.size < u01.heap.size => ?_) ?_; rotate_left; focus omega)); obtain ⟨hcu01, hfu01⟩ := bcell hbu01))
        all_goals
          obtain ⟨X0, hX⟩ := world_of (‹Grow w10 _ ∧ _›).1
          have HGW := (‹Grow w10 _ ∧ _›).1
          rw [← hX] at HGW ⊢
          first
            | (refine cutP (P := Box X0 u01.heap.size (q)) ?_ ?_; (focus (rw [hX]; simp (maxDischargeDepth := 30) [Box, go_sem, *]; done)); intro KQ; obtain ⟨bQ, hbl⟩ : ∃ b, b = u01.heap.size := ⟨_, rfl⟩; rw [← hbl] at KQ ⊢; clear hbl)
            | (refine cutP (P := Box X0 u00.heap.size (q)) ?_ ?_; (focus (rw [hX]; simp (maxDischargeDepth := 30) [Box, go_sem, *]; done)); intro KQ; obtain ⟨bQ, hbl⟩ : ∃ b, b = u00.heap.size := ⟨_, rfl⟩; rw [← hbl] at KQ ⊢; clear hbl)
            | (refine cutP (P := Box X0 w10.heap.size (q)) ?_ ?_; (focus (rw [hX]; simp (maxDischargeDepth := 30) [Box, go_sem, *]; done)); intro KQ; obtain ⟨bQ, hbl⟩ : ∃ b, b = w10.heap.size := ⟨_, rfl⟩; rw [← hbl] at KQ ⊢; clear hbl)
          have KT : Box X0 (PT) t := HT.out.later HGW
          have G : Hid (Grow w X0) := hide (Grow.trans' G.out HGW)
          have HGX := hide HGW
          clear hX HGW HK
          clear hcu00 hfu00 hbu00 gu00 zu00 yu00
          clear hcu01 hfu01 hbu01 gu01 zu01 yu01
        all_goals
          have H3X := hide (Grow.trans' H310.out HGX.out)
          have KEx := hide (KE10.out.later HGX.out)
          have KBx := hide (KB10.out.later HGX.out)
          have KTx := hide KT
          have KQx := hide KQ
          obtain ⟨n0, n1, n2, n3⟩ := KN.out.later HGX.out
          dsimp only at n0 n1 n2 n3
          clear KT KQ HT KN0 KN1 KN2 KN3 KN H310 KE10 KB10 HGX
          by_cases h0 : er = 0
          rotate_left
          · go_wp2_with fail
            go_ret
            exact ⟨rfl, G.out⟩
          subst h0
          obtain ⟨qo, hqo⟩ : ∃ q, hasP yk = q := ⟨_, rfl⟩
          have QO := hide hqo
          clear hqo
          go_wp2_with fail
          refine (rhas_at yk QO.out _).mono ?_
          rintro _ wy ⟨rfl, rfl⟩
          cases qo
          · go_wp2_with fail
            go_ret
            exact ⟨rfl, G.out⟩
          have HCV : Hid (coverB kinT (chainO kinT (madeL l2 t)) q = true) := hide (by
            have h := could_node (t := t) HA.out HM.out (by show hasP (nth g.N (u : Int).toNat).k = true; rw [Eu.out]; exact QO.out) L2.out (by show applyE (innP (nth g.N (u : Int).toNat)) t = 0; rw [Eu.out, HZ.out]; exact HQ2.out)
            have e : applyT (innP (nth g.N (u : Int).toNat)) t = q := by rw [Eu.out, HZ.out]; exact HQ1.out
            rw [← e]; exact h)
          have hll2 : (chainO kinT (madeL l2 t)).length ≤ 4012012004 := by
            rw [← BIG_eq]
            exact Nat.le_trans (chainO_len kinT _) (Nat.le_trans (madeL_len _ _) (sumsOf_len HA.out L2.out))
          clear n0 n1 n2 n3 CVH L1 HNf HNu Ef Eu HZ HQ1 HQ2 QO
          go_wp2_with fail
          let FF : Nat → Value → World → Prop := fun i vF wF => match i with | 0 => vF = .pointer (some ⟨p, 0, none⟩) | 1 => vF = .agg #[.int .i64 (u : Int), .int .i64 ep] | 2 => vF = .agg #[.int .i64 t.e, .int .i64 t.d, .int .i64 t.x, .int .i64 t.y, .int .i64 t.z] | 3 => vF = .pointer (some ⟨PE, 1, none⟩) | 4 => vF = .int .i64 (u : Int) | 5 => vF = .agg #[.int .i64 (u : Int), .int .i64 (-1)] | 6 => IsRowT (chainO kinT (madeL l2 t)) vF wF | 7 => vF = .agg #[.int .i64 q.e, .int .i64 q.d, .int .i64 q.x, .int .i64 q.y, .int .i64 q.z] | 8 => vF = .bool true | 9 => vF = .bool true | _ => True
          have hstab : ∀ k v w1 w2, Grow w1 w2 → FF k v w1 → FF k v w2 := by
            intro k v w1 w2 hg h
            match k with
            | 0 => exact h
            | 1 => exact h
            | 2 => exact h
            | 3 => exact h
            | 4 => exact h
            | 5 => exact h
            | 6 => exact IsRowT.later hg h
            | 7 => exact h
            | 8 => exact h
            | 9 => exact h
            | k + 10 => exact trivial
          refine wp_region_invK FF (fun _ => none) (by kernel_rfl) (by kernel_rfl) ?_ ?_
          · refine ⟨?_, ?_, ?_, ?_, ?_, ?_, ?_, ?_, ?_, ?_, trivial⟩
            · refine stepK_run hstab trivial (by intro j b h; cases h) ?_
              intro a' w' hg hs hd
              have e9 : a'.eval (.tmp 9) = .pointer (some ⟨p, 0, none⟩) := hs.rest 9 rfl
              have ec : ∀ v, a'.eval (.const v) = v := fun _ => rfl
              have ef : ∀ g, a'.eval (.func g) = .func (.func g) #[] #[] := fun _ => rfl
              clear hd hs
              refine wpv (v := .pointer (some ⟨p, 0, none⟩)) ?_ ⟨_, rfl, Grow.rfl' _, rfl⟩
              (generalize a'.eval = ev at ec ef e9 ⊢; simp [execOp, go_sem, *])
            · refine stepK_run hstab trivial (by intro j b h; cases h) ?_
              intro a' w' hg hs hd
              have e12 : a'.eval (.tmp 12) = .pointer (some ⟨PB, 0, none⟩) := hs.rest 12 rfl
              have ec : ∀ v, a'.eval (.const v) = v := fun _ => rfl
              have ef : ∀ g, a'.eval (.func g) = .func (.func g) #[] #[] := fun _ => rfl
              clear hd hs
              obtain ⟨x0, x1⟩ := KBx.out.later hg
              refine wpv (v := .agg #[.int .i64 (u : Int), .int .i64 ep]) ?_ ⟨_, rfl, Grow.rfl' _, rfl⟩
              (generalize a'.eval = ev at ec ef e12 ⊢; simp [execOp, go_sem, *])
            · refine stepK_run hstab trivial (by intro j b h; cases h) ?_
              intro a' w' hg hs hd
              have e4 : a'.eval (.tmp 4) = .pointer (some ⟨PT, 0, none⟩) := hs.rest 4 rfl
              have ec : ∀ v, a'.eval (.const v) = v := fun _ => rfl
              have ef : ∀ g, a'.eval (.func g) = .func (.func g) #[] #[] := fun _ => rfl
              clear hd hs
              obtain ⟨t0, t1, t2, t3, t4⟩ := KTx.out.later hg
              refine wpv (v := .agg #[.int .i64 t.e, .int .i64 t.d, .int .i64 t.x, .int .i64 t.y, .int .i64 t.z]) ?_ ⟨_, rfl, Grow.rfl' _, rfl⟩
              (generalize a'.eval = ev at ec ef e4 ⊢; simp [execOp, go_sem, *])
            · refine stepK_run hstab trivial (by intro j b h; cases h) ?_
              intro a' w' hg hs hd
              have e10 : a'.eval (.tmp 10) = .pointer (some ⟨PE, 0, none⟩) := hs.rest 10 rfl
              have ec : ∀ v, a'.eval (.const v) = v := fun _ => rfl
              have ef : ∀ g, a'.eval (.func g) = .func (.func g) #[] #[] := fun _ => rfl
              clear hd hs
              refine wpv (v := .pointer (some ⟨PE, 1, none⟩)) ?_ ⟨_, rfl, Grow.rfl' _, rfl⟩
              (generalize a'.eval = ev at ec ef e10 ⊢; simp [execOp, go_sem, *])
            · refine stepK_run hstab trivial (by intro j b h; cases h) ?_
              intro a' w' hg hs hd
              have e104 : a'.eval (.tmp 104) = .pointer (some ⟨PE, 1, none⟩) := hd ⟨3, Ground.data⟩ (by simp) rfl rfl
              have ec : ∀ v, a'.eval (.const v) = v := fun _ => rfl
              have ef : ∀ g, a'.eval (.func g) = .func (.func g) #[] #[] := fun _ => rfl
              clear hd hs
              obtain ⟨x0, x1, x2⟩ := KEx.out.later hg; dsimp only at x0 x1 x2
              refine wpv (v := .int .i64 (u : Int)) ?_ ⟨_, rfl, Grow.rfl' _, rfl⟩
              (generalize a'.eval = ev at ec ef e104 ⊢; simp [execOp, go_sem, *])
            · refine stepK_run hstab trivial (by intro j b h; cases h) ?_
              intro a' w' hg hs hd
              have e105 : a'.eval (.tmp 105) = .int .i64 (u : Int) := hd ⟨4, Ground.data⟩ (by simp) rfl rfl
              have ec : ∀ v, a'.eval (.const v) = v := fun _ => rfl
              have ef : ∀ g, a'.eval (.func g) = .func (.func g) #[] #[] := fun _ => rfl
              clear hd hs
              refine wpv (v := .agg #[.int .i64 (u : Int), .int .i64 (-1)]) ?_ ⟨_, rfl, Grow.rfl' _, rfl⟩
              (generalize a'.eval = ev at ec ef e105 ⊢; simp [execOp, go_sem, *])
            · refine stepK_run hstab trivial (by intro j b h; cases h) ?_
              intro a' w' hg hs hd
              have e101 : a'.eval (.tmp 101) = .pointer (some ⟨p, 0, none⟩) := hd ⟨0, Ground.data⟩ (by simp) rfl rfl
              have e102 : a'.eval (.tmp 102) = .agg #[.int .i64 (u : Int), .int .i64 ep] := hd ⟨1, Ground.data⟩ (by simp) rfl rfl
              have e103 : a'.eval (.tmp 103) = .agg #[.int .i64 t.e, .int .i64 t.d, .int .i64 t.x, .int .i64 t.y, .int .i64 t.z] := hd ⟨2, Ground.data⟩ (by simp) rfl rfl
              have e106 : a'.eval (.tmp 106) = .agg #[.int .i64 (u : Int), .int .i64 (-1)] := hd ⟨5, Ground.data⟩ (by simp) rfl rfl
              have ec : ∀ v, a'.eval (.const v) = v := fun _ => rfl
              have ef : ∀ g, a'.eval (.func g) = .func (.func g) #[] #[] := fun _ => rfl
              clear hd hs
              refine wpc ?_ (Calls.mono (could_any p g.N g.E HA.out ⟨(u : Int), ep⟩ ⟨(u : Int), -1⟩ t W2.out W3.out l2 L2.out w' (HI.out.later (Grow.trans' H3X.out hg))) fun e w2 ⟨v, he, hb, hv⟩ => ⟨v, he, _, rfl, hb, hv⟩)
              (generalize a'.eval = ev at ec ef e101 e102 e103 e106 ⊢; simp [execOp, go_sem, *])
            · refine stepK_run hstab trivial (by intro j b h; cases h) ?_
              intro a' w' hg hs hd
              have e16 : a'.eval (.tmp 16) = .pointer (some ⟨bQ, 0, none⟩) := hs.rest 16 rfl
              have ec : ∀ v, a'.eval (.const v) = v := fun _ => rfl
              have ef : ∀ g, a'.eval (.func g) = .func (.func g) #[] #[] := fun _ => rfl
              clear hd hs
              obtain ⟨t0, t1, t2, t3, t4⟩ := KQx.out.later hg
              refine wpv (v := .agg #[.int .i64 q.e, .int .i64 q.d, .int .i64 q.x, .int .i64 q.y, .int .i64 q.z]) ?_ ⟨_, rfl, Grow.rfl' _, rfl⟩
              (generalize a'.eval = ev at ec ef e16 ⊢; simp [execOp, go_sem, *])
            · refine stepK_run hstab trivial (by intro j b h; cases h) ?_
              intro a' w' hg hs hd
              obtain ⟨sl107, nl107, cl107, e107, h107⟩ : IsRowT (chainO kinT (madeL l2 t)) (a'.eval (.tmp 107)) w' := hd ⟨6, Ground.data⟩ (by simp) rfl rfl
              have e108 : a'.eval (.tmp 108) = .agg #[.int .i64 q.e, .int .i64 q.d, .int .i64 q.x, .int .i64 q.y, .int .i64 q.z] := hd ⟨7, Ground.data⟩ (by simp) rfl rfl
              have ec : ∀ v, a'.eval (.const v) = v := fun _ => rfl
              have ef : ∀ g, a'.eval (.func g) = .func (.func g) #[] #[] := fun _ => rfl
              clear hd hs
              refine wpc ?_ (Calls.mono (refCovT_any sl107 nl107 cl107 (chainO kinT (madeL l2 t)) q HCV.out w' (by have := h107.1; omega) h107) fun e w2 ⟨he, hb⟩ => ⟨_, he, _, rfl, hb, rfl⟩)
              (generalize a'.eval = ev at ec ef e107 e108 ⊢; simp [execOp, go_sem, *])
            · refine stepK_run hstab trivial (by intro j b h; cases h) ?_
              intro a' w' hg hs hd
              have e109 : a'.eval (.tmp 109) = .bool true := hd ⟨8, Ground.data⟩ (by simp) rfl rfl
              have ec : ∀ v, a'.eval (.const v) = v := fun _ => rfl
              have ef : ∀ g, a'.eval (.func g) = .func (.func g) #[] #[] := fun _ => rfl
              clear hd hs
              refine wpv (v := .bool true) ?_ ⟨_, rfl, Grow.rfl' _, rfl⟩
              (generalize a'.eval = ev at ec ef e109 ⊢; simp [execOp, go_sem, *])
          · intro a' w' hg hs hd
            have GY := hide (Grow.trans' G.out hg)
            clear hg
            have fz101 : a'.tmps.getD 101 undef = .pointer (some ⟨p, 0, none⟩) := hd 0 (by simp) (by intro k h; cases h); have fz102 : a'.tmps.getD 102 undef = .agg #[.int .i64 (u : Int), .int .i64 ep] := hd 1 (by simp) (by intro k h; cases h); have fz103 : a'.tmps.getD 103 undef = .agg #[.int .i64 t.e, .int .i64 t.d, .int .i64 t.x, .int .i64 t.y, .int .i64 t.z] := hd 2 (by simp) (by intro k h; cases h); have fz104 : a'.tmps.getD 104 undef = .pointer (some ⟨PE, 1, none⟩) := hd 3 (by simp) (by intro k h; cases h); have fz105 : a'.tmps.getD 105 undef = .int .i64 (u : Int) := hd 4 (by simp) (by intro k h; cases h); have fz106 : a'.tmps.getD 106 undef = .agg #[.int .i64 (u : Int), .int .i64 (-1)] := hd 5 (by simp) (by intro k h; cases h); have fz108 : a'.tmps.getD 108 undef = .agg #[.int .i64 q.e, .int .i64 q.d, .int .i64 q.x, .int .i64 q.y, .int .i64 q.z] := hd 7 (by simp) (by intro k h; cases h); have fz109 : a'.tmps.getD 109 undef = .bool true := hd 8 (by simp) (by intro k h; cases h); have fz18 : a'.tmps.getD 18 undef = .bool true := hd 9 (by simp) (by intro k h; cases h); rw [frame_eq hs [false, false, false, false, false, false, false, false, false, false, false, false, false, false, false, false, false, false, true, false, false, false, false, false, false, false, false, false, false, false, false, false, false, false, false, false, false, false, false, false, false, false, false, false, false, false, false, false, false, false, false, false, false, false, false, false, false, false, false, false, false, false, false, false, false, false, false, false, false, false, false, false, false, false, false, false, false, false, false, false, false, false, false, false, false, false, false, false, false, false, false, false, false, false, false, false, false, false, false, false, false, true, true, true, true, true, true, true, true, true, false, false, false, false] (by kernel_rfl)]; simp only [mergeL, fz101, fz102, fz103, fz104, fz105, fz106, fz108, fz109, fz18]; clear hs hd hstab fz101 fz102 fz103 fz104 fz105 fz106 fz108 fz109 fz18; generalize a'.tmps = TT at *
            go_wp2_with fail
            go_ret
            exact ⟨rfl, GY.out⟩

set_option maxRecDepth 100000 in
theorem PathsSteps_lifted (os : Os) (started : os.Started) (H : Type) (enc : TypeId × Value → H) :
    ReturnsInHanded {} Tryz.checked os 7 .any (Rows.pathsStepsSpec.pre6 enc Tryz.prog Tryz.f7 Rows.pathsStepsRow.domain false) (Rows.pathsStepsSpec.post enc Tryz.prog Tryz.f7 false true false false) := by
  refine returnsInHanded_of_change (C := Tryz.checked) own started (by kernel_rfl) Tryz.func7
    (ChangeSpec.witness6 (enc := enc) (C := Tryz.checked) false ⟨#[], #[.agg #[.slice none 0 0, .slice none 0 0], .agg #[.int .i64 0, .int .i64 0, .int .i64 0, .int .i64 0, .int .i64 0], .int .i64 0], []⟩ 8 (by kernel_rfl) (by kernel_rfl) (by kernel_rfl) (by kernel_rfl)) ?_
  intro W base args ds gs before hval0 hW hcnd _
  have hval : ∀ (j : Nat) t v, Tryz.f7.params[j]? = some t → args[j]? = some v → Value.okWide Tryz.prog W .any base t v := hval0
  have hW' := hW
  obtain ⟨p, q, hA0, hV, rfl, hfz, hnd⟩ := hW
  have hA : DataW.TrodAll enc Tryz.prog W 0 (fun _ => true) true Tryz.f7.params.toList args.toList ds p := hA0
  rw [Tryz.params7] at hA hval
  obtain ⟨v0, vs0, d0, ds0, p0, q0, hargs, rfl, rfl, h0, r0⟩ := trodAll_cons hA
  obtain ⟨v1, vs1, d1, ds1, p1, q1, rfl, rfl, rfl, h1, r1⟩ := trodAll_cons r0
  obtain ⟨v2, vs2, d2, ds2, p2, q2, rfl, rfl, rfl, h2, r2⟩ := trodAll_cons r1
  obtain ⟨rfl, rfl, rfl⟩ := trodAll_nil r2
  obtain rfl : args = #[v0, v1, v2] := by cases args; simp_all
  obtain ⟨rfl, rfl⟩ := trodVars_none hV
  have k0 := h0
  have lt0 : ∀ x ∈ p0, x.block < W.heap.size := by obtain ⟨m, hm⟩ := k0; exact DataW.trod_lt m _ _ _ hm
  obtain ⟨t0, rfl, w0⟩ := open_gr (hval 0 25 v0 rfl rfl) h0
  have k1 := h1
  have lt1 : ∀ x ∈ p1, x.block < W.heap.size := by obtain ⟨m, hm⟩ := k1; exact DataW.trod_lt m _ _ _ hm
  obtain ⟨t1, rfl, w1⟩ := open_tm (hval 1 43 v1 rfl rfl) h1
  obtain ⟨a2, rfl, rfl, rfl, w2⟩ := open_int Tryz.underlying3 (hval 2 3 v2 rfl rfl) h2
  clear hA0 hval0
  refine (PathsSteps_any t0 t1 a2 W w0).mono fun e W' ⟨he, bel⟩ => ?_
  subst he
  exact ⟨_, rfl, _, _, _, [], _, [], hW', trodAll_mk1 (shut_bool Tryz.underlying4 _), (trodAll_cons_mk (Below.trod laidOut (by kernel_rfl) (of_decide_eq_true (by kernel_rfl)) k0 bel lt0) (trodAll_cons_mk (Below.trod laidOut (by kernel_rfl) (of_decide_eq_true (by kernel_rfl)) k1 bel lt1) (trodAll_cons_mk (shut_int Tryz.underlying3 w2) trodAll_mk0))), rfl, bel.frame _, fun h => by cases h⟩

/-- The given statement. -/
theorem PathsSteps_holds : Rows.PathsStepsSaid :=
  OpenClaim.holds_of_wide 7 Tryz.f7 rfl rfl rfl rfl rfl rfl rfl ⟨rfl, rfl, rfl, rfl, rfl⟩ rfl rfl rfl rfl rfl (by kernel_rfl) Tryz.func7 (by kernel_rfl)
    (of_decide_eq_true (by kernel_rfl)) (by unfold Func.isWrapper; first | (rw [if_pos (by decide +kernel)]; kernel_rfl) | (rw [if_neg (by decide +kernel)]; exact ⟨rfl, rfl⟩))
    (fun os started H enc _ => PathsSteps_lifted os started H enc)



end Go.Proofs.YtehianjfpmbfpaaGreat
