/-
  Of every graph that is accepted, every time and every three places, what could come at the third of what could come of the time at the second is covered by what could come of it at the third; of another graph nothing is asked.
-/
import Derived.Test.YtehianjfpmbfpaaGreatQHdZ
import Derived.Test.YtehianjfpmbfpaaGreatQOpZ
import Derived.Test.YtehianjfpmbfpaaGreatRCovZ
import Derived.Test.YtehianjfpmbfpaaGreatEndGZ
namespace Go.Proofs.YtehianjfpmbfpaaGreat
set_option maxRecDepth 100000
open Go.ChangeShapes Go.WideShapes Go.ChangeAt Go.RowKit Go.Deep
set_option linter.unusedVariables false
set_option linter.unusedSimpArgs false

set_option maxHeartbeats 4000000 in
theorem PathsChain_any (g : GA) (t : Tm) (x : Lc × Lc × Lc) (w : World) (hg : IsG w g) (h1 : LcWf x.1) (h2 : LcWf x.2.1) (h3 : LcWf x.2.2) :
    Calls Tryz.prog 5 #[.agg #[.slice g.s g.n g.c, .slice g.t g.m g.q], .agg #[.int .i64 t.e, .int .i64 t.d, .int .i64 t.x, .int .i64 t.y, .int .i64 t.z], .agg #[.int .i64 x.1.n, .int .i64 x.1.p, .int .i64 x.2.1.n, .int .i64 x.2.1.p, .int .i64 x.2.2.n, .int .i64 x.2.2.p]] w fun r w' => r = .returned (.bool true) ∧ Grow w w' := by
  have GG : Hid (Grow w (((w.alloc (.cells #[.slice g.s g.n g.c, .slice g.t g.m g.q] 25)).alloc (.cells #[.int .i64 t.e, .int .i64 t.d, .int .i64 t.x, .int .i64 t.y, .int .i64 t.z] 43)).alloc (.cells #[.int .i64 x.1.n, .int .i64 x.1.p, .int .i64 x.2.1.n, .int .i64 x.2.1.p, .int .i64 x.2.2.n, .int .i64 x.2.2.p] 50))) := hide (Grow.trans' (Grow.trans' (Grow.alloc' _ _) (Grow.alloc' _ _)) (Grow.alloc' _ _))
  have KG : Hid (BoxG (((w.alloc (.cells #[.slice g.s g.n g.c, .slice g.t g.m g.q] 25)).alloc (.cells #[.int .i64 t.e, .int .i64 t.d, .int .i64 t.x, .int .i64 t.y, .int .i64 t.z] 43)).alloc (.cells #[.int .i64 x.1.n, .int .i64 x.1.p, .int .i64 x.2.1.n, .int .i64 x.2.1.p, .int .i64 x.2.2.n, .int .i64 x.2.2.p] 50)) w.heap.size g) := hide ((BoxG.new w g).later (Grow.trans' (Grow.alloc' _ _) (Grow.alloc' _ _)))
  have KT : Hid (Box (((w.alloc (.cells #[.slice g.s g.n g.c, .slice g.t g.m g.q] 25)).alloc (.cells #[.int .i64 t.e, .int .i64 t.d, .int .i64 t.x, .int .i64 t.y, .int .i64 t.z] 43)).alloc (.cells #[.int .i64 x.1.n, .int .i64 x.1.p, .int .i64 x.2.1.n, .int .i64 x.2.1.p, .int .i64 x.2.2.n, .int .i64 x.2.2.p] 50)) (w.heap.size + 1) t) := hide (by simp [Box, go_sem])
  have KX : Hid (Boxlc3 (((w.alloc (.cells #[.slice g.s g.n g.c, .slice g.t g.m g.q] 25)).alloc (.cells #[.int .i64 t.e, .int .i64 t.d, .int .i64 t.x, .int .i64 t.y, .int .i64 t.z] 43)).alloc (.cells #[.int .i64 x.1.n, .int .i64 x.1.p, .int .i64 x.2.1.n, .int .i64 x.2.1.p, .int .i64 x.2.2.n, .int .i64 x.2.2.p] 50)) (w.heap.size + 1 + 1) x) := hide (by simp [Boxlc3, go_sem])
  have HN := hide (hg.nodes.later GG.out)
  have HE := hide (hg.edges.later GG.out)
  have F1 := hide h1
  have F2 := hide h2
  have F3 := hide h3
  clear hg h1 h2 h3
  go_enter Tryz.func5, Tryz.ntmps5
  go_wp2_with fail
  refine (shown_any _).mono ?_
  rintro _ w1 ⟨rfl, hb⟩
  have G1 := hide (Grow.trans' GG.out hb)
  have KG1 := hide (KG.out.later hb)
  have KT1 := hide (KT.out.later hb)
  have KX1 := hide (KX.out.later hb)
  have HN1 := hide (HN.out.later hb)
  have HE1 := hide (HE.out.later hb)
  obtain ⟨PG, hPG⟩ : ∃ PG, PG = w.heap.size := ⟨_, rfl⟩
  obtain ⟨PT, hPT⟩ : ∃ PT, PT = w.heap.size + 1 := ⟨_, rfl⟩
  obtain ⟨PX, hPX⟩ : ∃ PX, PX = w.heap.size + 1 + 1 := ⟨_, rfl⟩
  rw [← hPG] at KG1
  rw [← hPT] at KT1
  rw [← hPX] at KX1
  clear hb GG KG KT KX HN HE
  obtain ⟨g0, g1⟩ := KG1.out
  rw [hPG] at g0 g1
  obtain ⟨q, hq⟩ : ∃ q, decide (errG g.N g.E = 0) = q := ⟨_, rfl⟩
  have CA := hide (accepted_at g.s g.n g.c g.t g.m g.q g.N g.E hq w1 HN1.out HE1.out)
  have HQ := hide hq
  clear hq
  go_wp2_with fail
  refine CA.out.mono ?_
  rintro _ w2 ⟨rfl, hb⟩
  have G2 := hide (Grow.trans' G1.out hb)
  have KG2 := hide (KG1.out.later hb)
  have KT2 := hide (KT1.out.later hb)
  have KX2 := hide (KX1.out.later hb)
  have HN2 := hide (HN1.out.later hb)
  have HE2 := hide (HE1.out.later hb)
  clear hb CA G1 KG1 KT1 KX1 HN1 HE1 g0 g1
  cases q
  · go_wp2_with fail
    go_ret
    exact ⟨rfl, G2.out⟩
  · have HA : Hid (AccG g.N g.E) := hide (errG_zero.1 (of_decide_eq_true HQ.out))
    obtain ⟨g0, g1⟩ := KG2.out
    rw [hPG] at g0 g1
    have CN := hide (new_any g.s g.n g.c g.t g.m g.q g.N g.E HA.out w2 HN2.out HE2.out)
    go_wp2_with fail
    refine CN.out.mono ?_
    rintro _ w3 ⟨p, rfl, hb, hI⟩
    have G3 := hide (Grow.trans' G2.out hb)
    have KT3 := hide (KT2.out.later hb)
    have KX3 := hide (KX2.out.later hb)
    have HI := hide hI
    clear hb hI CN G2 KG2 KT2 KX2 HN2 HE2 g0 g1
    obtain ⟨l1, hl1⟩ := HI.out.has x.1 x.2.1 F1.out F2.out
    obtain ⟨l2, hl2⟩ := HI.out.has x.2.1 x.2.2 F2.out F3.out
    obtain ⟨l3, hl3⟩ := HI.out.has x.1 x.2.2 F1.out F3.out
    have L1 := hide hl1
    have L2 := hide hl2
    have L3 := hide hl3
    clear hl1 hl2 hl3
    obtain ⟨t0, t1, t2, t3, t4⟩ := KT3.out
    obtain ⟨x0, x1, x2, x3, x4, x5⟩ := KX3.out
    rw [hPT] at t0 t1 t2 t3 t4
    rw [hPX] at x0 x1 x2 x3 x4 x5
    have C1 := hide (could_any p g.N g.E HA.out x.1 x.2.1 t F1.out F2.out l1 L1.out w3 HI.out)
    go_wp2_with fail
    refine C1.out.mono ?_
    rintro _ w4 ⟨v, rfl, hb, sa, na, ca, rfl, hra⟩
    have G4 := hide (Grow.trans' G3.out hb)
    have KT4 := hide (KT3.out.later hb)
    have KX4 := hide (KX3.out.later hb)
    have HI4 := hide (HI.out.later hb)
    have RA := hide hra
    clear hb hra C1 G3 KT3 KX3 HI t0 t1 t2 t3 t4 x0 x1 x2 x3 x4 x5
    obtain ⟨t0, t1, t2, t3, t4⟩ := KT4.out
    obtain ⟨x0, x1, x2, x3, x4, x5⟩ := KX4.out
    rw [hPT] at t0 t1 t2 t3 t4
    rw [hPX] at x0 x1 x2 x3 x4 x5
    have C2 := hide (could_any p g.N g.E HA.out x.1 x.2.2 t F1.out F3.out l3 L3.out w4 HI4.out)
    go_wp2_with fail
    refine C2.out.mono ?_
    rintro _ w5 ⟨v, rfl, hb, sb, nb, cb, rfl, hrb⟩
    have G5 := hide (Grow.trans' G4.out hb)
    have KX5 := hide (KX4.out.later hb)
    have HI5 := hide (HI4.out.later hb)
    have RA5 := hide (RA.out.later hb)
    have RB := hide hrb
    clear hb hrb C2 G4 KT4 KX4 HI4 RA t0 t1 t2 t3 t4 x0 x1 x2 x3 x4 x5
    have hna : na ≤ 4012012004 := by
      rw [← RA5.out.1, ← BIG_eq]
      exact Nat.le_trans (chainO_len kinT _) (Nat.le_trans (madeL_len _ _) (sumsOf_len HA.out L1.out))
    have hnb : nb ≤ 4012012004 := by
      rw [← RB.out.1, ← BIG_eq]
      exact Nat.le_trans (chainO_len kinT _) (Nat.le_trans (madeL_len _ _) (sumsOf_len HA.out L3.out))
    go_wp2_with fail
    rw [← hPX, ← hPT, ← hPG]
    clear hPX hPT hPG
    go_loopw [12] (fun i wr => ∃ k : Nat, k ≤ na ∧ i = .int .i64 k ∧ Grow w5 wr) (fun i _ => na - (intOf i).toNat)
    case atStart => exact ⟨0, Nat.zero_le _, rfl, Grow.rfl' _⟩
    case round =>
      obtain ⟨k, hk, rfl, hg⟩ := hrel
      have HG := hide hg
      by_cases hlt : k < na
      · have hkd : k < (chainO kinT (madeL l1 t)).length := by rw [RA5.out.1]; exact hlt
        have hne : ¬ chainO kinT (madeL l1 t) = [] := fun h => by rw [h] at hkd; simp at hkd
        obtain ⟨ba, oa, rfl, hra⟩ := RA5.out.2.2.resolve_left hne
        have HU : Hid ((chainO kinT (madeL l1 t))[k] ∈ chainO kinT (madeL l1 t)) := hide (List.getElem_mem hkd)
        have HAt : ∀ w', Grow w5 w' → _ := fun w' h => (hra.later h).at k hkd
        obtain ⟨u, hu⟩ : ∃ u, u = (chainO kinT (madeL l1 t))[k] := ⟨_, rfl⟩
        rw [← hu] at HU HAt
        have HAT := hide HAt
        have hi1 : (0 : Int) ≤ (k : Int) := by omega
        have hi2 : (k : Int) < (na : Int) := by omega
        have HI6 := hide (HI5.out.later hg)
        have hlen2 : (chainO kinT (madeL l2 u)).length ≤ 4012012004 := by
          rw [← BIG_eq]
          exact Nat.le_trans (chainO_len kinT _) (Nat.le_trans (madeL_len _ _) (sumsOf_len HA.out L2.out))
        clear hra hne hu hkd HAt hg
        obtain ⟨w6, rfl⟩ : ∃ w6 : World, w6 = wr := ⟨_, rfl⟩
        go_wp2_with fail
        let FF : Nat → Value → World → Prop := fun i vF wF => match i with | 0 => vF = .pointer (some ⟨p, 0, none⟩) | 1 => vF = .pointer (some ⟨PX, 2, none⟩) | 2 => vF = .agg #[.int .i64 x.2.1.n, .int .i64 x.2.1.p] | 3 => vF = .slice (some ⟨ba, oa, none⟩) na ca | 4 => vF = .int .i64 (k : Int) | 5 => vF = .pointer (some ⟨ba, oa + k * 5, none⟩) | 6 => vF = .agg #[.int .i64 u.e, .int .i64 u.d, .int .i64 u.x, .int .i64 u.y, .int .i64 u.z] | 7 => vF = .pointer (some ⟨PX, 4, none⟩) | 8 => vF = .agg #[.int .i64 x.2.2.n, .int .i64 x.2.2.p] | 9 => IsRowT (chainO kinT (madeL l2 u)) vF wF | 10 => IsRowT (chainO kinT (madeL l2 u)) vF wF | _ => True
        have hstab : ∀ k v w1 w2, Grow w1 w2 → FF k v w1 → FF k v w2 := by
          intro k v w1 w2 hg h
          match k with
          | 0 => exact h
          | 1 => exact h
          | 2 => exact h
          | 3 => exact h
          | 4 => exact h
          | 5 => exact h
          | 6 => exact h
          | 7 => exact h
          | 8 => exact h
          | 9 => exact IsRowT.later hg h
          | 10 => exact IsRowT.later hg h
          | k + 11 => exact trivial
        refine wp_region_invK FF (fun _ => none) (by kernel_rfl) (by kernel_rfl) ?_ ?_
        · refine ⟨?_, ?_, ?_, ?_, ?_, ?_, ?_, ?_, ?_, ?_, ?_, trivial⟩
          · refine stepK_run hstab trivial (by intro j b h; cases h) ?_
            intro a' w' hg hs hd
            have e9 : a'.eval (.tmp 9) = .pointer (some ⟨p, 0, none⟩) := hs.rest 9 rfl
            have ec : ∀ v, a'.eval (.const v) = v := fun _ => rfl
            have ef : ∀ g, a'.eval (.func g) = .func (.func g) #[] #[] := fun _ => rfl
            clear hd hs
            refine wpv (v := .pointer (some ⟨p, 0, none⟩)) ?_ ⟨_, rfl, Grow.rfl' _, rfl⟩
            (generalize a'.eval = ev at ec ef e9 ⊢; simp [execOp, go_sem, *])
          · refine stepK_run hstab trivial (by intro j b h; cases h) ?_
            intro a' w' hg hs hd
            have e5 : a'.eval (.tmp 5) = .pointer (some ⟨PX, 0, none⟩) := hs.rest 5 rfl
            have ec : ∀ v, a'.eval (.const v) = v := fun _ => rfl
            have ef : ∀ g, a'.eval (.func g) = .func (.func g) #[] #[] := fun _ => rfl
            clear hd hs
            refine wpv (v := .pointer (some ⟨PX, 2, none⟩)) ?_ ⟨_, rfl, Grow.rfl' _, rfl⟩
            (generalize a'.eval = ev at ec ef e5 ⊢; simp [execOp, go_sem, *])
          · refine stepK_run hstab trivial (by intro j b h; cases h) ?_
            intro a' w' hg hs hd
            have e47 : a'.eval (.tmp 47) = .pointer (some ⟨PX, 2, none⟩) := hd ⟨1, Ground.data⟩ (by simp) rfl rfl
            have ec : ∀ v, a'.eval (.const v) = v := fun _ => rfl
            have ef : ∀ g, a'.eval (.func g) = .func (.func g) #[] #[] := fun _ => rfl
            clear hd hs
            obtain ⟨x0, x1, x2, x3, x4, x5⟩ := KX5.out.later (Grow.trans' HG.out hg)
            refine wpv (v := .agg #[.int .i64 x.2.1.n, .int .i64 x.2.1.p]) ?_ ⟨_, rfl, Grow.rfl' _, rfl⟩
            (generalize a'.eval = ev at ec ef e47 ⊢; simp [execOp, go_sem, *])
          · refine stepK_run hstab trivial (by intro j b h; cases h) ?_
            intro a' w' hg hs hd
            have e10 : a'.eval (.tmp 10) = .slice (some ⟨ba, oa, none⟩) na ca := hs.rest 10 rfl
            have ec : ∀ v, a'.eval (.const v) = v := fun _ => rfl
            have ef : ∀ g, a'.eval (.func g) = .func (.func g) #[] #[] := fun _ => rfl
            clear hd hs
            refine wpv (v := .slice (some ⟨ba, oa, none⟩) na ca) ?_ ⟨_, rfl, Grow.rfl' _, rfl⟩
            (generalize a'.eval = ev at ec ef e10 ⊢; simp [execOp, go_sem, *])
          · refine stepK_run hstab trivial (by intro j b h; cases h) ?_
            intro a' w' hg hs hd
            have e12 : a'.eval (.tmp 12) = .int .i64 (k : Int) := hs.rest 12 rfl
            have ec : ∀ v, a'.eval (.const v) = v := fun _ => rfl
            have ef : ∀ g, a'.eval (.func g) = .func (.func g) #[] #[] := fun _ => rfl
            clear hd hs
            refine wpv (v := .int .i64 (k : Int)) ?_ ⟨_, rfl, Grow.rfl' _, rfl⟩
            (generalize a'.eval = ev at ec ef e12 ⊢; simp [execOp, go_sem, *])
          · refine stepK_run hstab trivial (by intro j b h; cases h) ?_
            intro a' w' hg hs hd
            have e49 : a'.eval (.tmp 49) = .slice (some ⟨ba, oa, none⟩) na ca := hd ⟨3, Ground.data⟩ (by simp) rfl rfl
            have e50 : a'.eval (.tmp 50) = .int .i64 (k : Int) := hd ⟨4, Ground.data⟩ (by simp) rfl rfl
            have ec : ∀ v, a'.eval (.const v) = v := fun _ => rfl
            have ef : ∀ g, a'.eval (.func g) = .func (.func g) #[] #[] := fun _ => rfl
            clear hd hs
            refine wpv (v := .pointer (some ⟨ba, oa + k * 5, none⟩)) ?_ ⟨_, rfl, Grow.rfl' _, rfl⟩
            (generalize a'.eval = ev at ec ef e49 e50 ⊢; simp [execOp, go_sem, *])
          · refine stepK_run hstab trivial (by intro j b h; cases h) ?_
            intro a' w' hg hs hd
            have e51 : a'.eval (.tmp 51) = .pointer (some ⟨ba, oa + k * 5, none⟩) := hd ⟨5, Ground.data⟩ (by simp) rfl rfl
            have ec : ∀ v, a'.eval (.const v) = v := fun _ => rfl
            have ef : ∀ g, a'.eval (.func g) = .func (.func g) #[] #[] := fun _ => rfl
            clear hd hs
            obtain ⟨u0, u1, u2, u3, u4⟩ := HAT.out w' (Grow.trans' HG.out hg)
            refine wpv (v := .agg #[.int .i64 u.e, .int .i64 u.d, .int .i64 u.x, .int .i64 u.y, .int .i64 u.z]) ?_ ⟨_, rfl, Grow.rfl' _, rfl⟩
            (generalize a'.eval = ev at ec ef e51 ⊢; simp [execOp, go_sem, *])
          · refine stepK_run hstab trivial (by intro j b h; cases h) ?_
            intro a' w' hg hs hd
            have e5 : a'.eval (.tmp 5) = .pointer (some ⟨PX, 0, none⟩) := hs.rest 5 rfl
            have ec : ∀ v, a'.eval (.const v) = v := fun _ => rfl
            have ef : ∀ g, a'.eval (.func g) = .func (.func g) #[] #[] := fun _ => rfl
            clear hd hs
            refine wpv (v := .pointer (some ⟨PX, 4, none⟩)) ?_ ⟨_, rfl, Grow.rfl' _, rfl⟩
            (generalize a'.eval = ev at ec ef e5 ⊢; simp [execOp, go_sem, *])
          · refine stepK_run hstab trivial (by intro j b h; cases h) ?_
            intro a' w' hg hs hd
            have e53 : a'.eval (.tmp 53) = .pointer (some ⟨PX, 4, none⟩) := hd ⟨7, Ground.data⟩ (by simp) rfl rfl
            have ec : ∀ v, a'.eval (.const v) = v := fun _ => rfl
            have ef : ∀ g, a'.eval (.func g) = .func (.func g) #[] #[] := fun _ => rfl
            clear hd hs
            obtain ⟨x0, x1, x2, x3, x4, x5⟩ := KX5.out.later (Grow.trans' HG.out hg)
            refine wpv (v := .agg #[.int .i64 x.2.2.n, .int .i64 x.2.2.p]) ?_ ⟨_, rfl, Grow.rfl' _, rfl⟩
            (generalize a'.eval = ev at ec ef e53 ⊢; simp [execOp, go_sem, *])
          · refine stepK_run hstab trivial (by intro j b h; cases h) ?_
            intro a' w' hg hs hd
            have e46 : a'.eval (.tmp 46) = .pointer (some ⟨p, 0, none⟩) := hd ⟨0, Ground.data⟩ (by simp) rfl rfl
            have e48 : a'.eval (.tmp 48) = .agg #[.int .i64 x.2.1.n, .int .i64 x.2.1.p] := hd ⟨2, Ground.data⟩ (by simp) rfl rfl
            have e52 : a'.eval (.tmp 52) = .agg #[.int .i64 u.e, .int .i64 u.d, .int .i64 u.x, .int .i64 u.y, .int .i64 u.z] := hd ⟨6, Ground.data⟩ (by simp) rfl rfl
            have e54 : a'.eval (.tmp 54) = .agg #[.int .i64 x.2.2.n, .int .i64 x.2.2.p] := hd ⟨8, Ground.data⟩ (by simp) rfl rfl
            have ec : ∀ v, a'.eval (.const v) = v := fun _ => rfl
            have ef : ∀ g, a'.eval (.func g) = .func (.func g) #[] #[] := fun _ => rfl
            clear hd hs
            refine wpc ?_ (Calls.mono (could_any p g.N g.E HA.out x.2.1 x.2.2 u F2.out F3.out l2 L2.out w' (HI6.out.later hg)) fun e w2 ⟨v, he, hb, hv⟩ => ⟨v, he, _, rfl, hb, hv⟩)
            (generalize a'.eval = ev at ec ef e46 e48 e52 e54 ⊢; simp [execOp, go_sem, *])
          · refine stepK_run hstab trivial (by intro j b h; cases h) ?_
            intro a' w' hg hs hd
            have hq : IsRowT (chainO kinT (madeL l2 u)) (a'.eval (.tmp 55)) w' := hd ⟨9, Ground.data⟩ (by simp) rfl rfl
            have ec : ∀ v, a'.eval (.const v) = v := fun _ => rfl
            have ef : ∀ g, a'.eval (.func g) = .func (.func g) #[] #[] := fun _ => rfl
            clear hd hs
            refine wpv (v := a'.eval (.tmp 55)) ?_ ⟨_, rfl, Grow.rfl' _, hq⟩
            simp [execOp, go_sem]
        · intro a' w' hg hs hd
          obtain ⟨sc, nc, cc, e13, h13⟩ : IsRowT (chainO kinT (madeL l2 u)) (a'.eval (.tmp 13)) w' := hd 10 (by simp) (by intro k h; cases h)
          have z13 : a'.tmps.getD 13 undef = .slice sc nc cc := e13
          have HG7 := hide (Grow.trans' HG.out hg)
          have RC := hide h13
          have hnc : nc ≤ 4012012004 := by rw [← h13.1]; exact hlen2
          clear hg h13 e13 HG
          have fz46 : a'.tmps.getD 46 undef = .pointer (some ⟨p, 0, none⟩) := hd 0 (by simp) (by intro k h; cases h); have fz47 : a'.tmps.getD 47 undef = .pointer (some ⟨PX, 2, none⟩) := hd 1 (by simp) (by intro k h; cases h); have fz48 : a'.tmps.getD 48 undef = .agg #[.int .i64 x.2.1.n, .int .i64 x.2.1.p] := hd 2 (by simp) (by intro k h; cases h); have fz49 : a'.tmps.getD 49 undef = .slice (some ⟨ba, oa, none⟩) na ca := hd 3 (by simp) (by intro k h; cases h); have fz50 : a'.tmps.getD 50 undef = .int .i64 (k : Int) := hd 4 (by simp) (by intro k h; cases h); have fz51 : a'.tmps.getD 51 undef = .pointer (some ⟨ba, oa + k * 5, none⟩) := hd 5 (by simp) (by intro k h; cases h); have fz52 : a'.tmps.getD 52 undef = .agg #[.int .i64 u.e, .int .i64 u.d, .int .i64 u.x, .int .i64 u.y, .int .i64 u.z] := hd 6 (by simp) (by intro k h; cases h); have fz53 : a'.tmps.getD 53 undef = .pointer (some ⟨PX, 4, none⟩) := hd 7 (by simp) (by intro k h; cases h); have fz54 : a'.tmps.getD 54 undef = .agg #[.int .i64 x.2.2.n, .int .i64 x.2.2.p] := hd 8 (by simp) (by intro k h; cases h); rw [frame_eq hs [false, false, false, false, false, false, false, false, false, false, false, false, false, true, false, false, false, false, false, false, false, false, false, false, false, false, false, false, false, false, false, false, false, false, false, false, false, false, false, false, false, false, false, false, false, false, true, true, true, true, true, true, true, true, true, true, false, false, false, false, false, false, false, false, false, false, false, false, false, false, false] (by kernel_rfl)]; simp only [mergeL, z13, fz46, fz47, fz48, fz49, fz50, fz51, fz52, fz53, fz54]; clear hs hd hstab fz46 fz47 fz48 fz49 fz50 fz51 fz52 fz53 fz54; generalize a'.tmps = TT at *
          generalize w' = w7 at *
          go_wp2_with fail
          try simp only [Array.getD_eq_getD_getElem?, Nat.zero_add, Nat.reduceAdd]
          go_loopw [14] (fun i wr => ∃ j : Nat, j ≤ nc ∧ i = .int .i64 j ∧ Grow w7 wr) (fun i _ => nc - (intOf i).toNat)
          case atStart => exact ⟨0, Nat.zero_le _, rfl, Grow.rfl' _⟩
          case round =>
            obtain ⟨j, hj, rfl, hg⟩ := hrel
            have HG8 := hide (Grow.trans' HG7.out hg)
            have HGW := hide hg
            by_cases hlt2 : j < nc
            · have hjd : j < (chainO kinT (madeL l2 u)).length := by rw [RC.out.1]; exact hlt2
              have hne : ¬ chainO kinT (madeL l2 u) = [] := fun h => by rw [h] at hjd; simp at hjd
              obtain ⟨bc, oc, rfl, hrc⟩ := RC.out.2.2.resolve_left hne
              obtain ⟨y0, y1, y2, y3, y4⟩ := (hrc.later hg).at j hjd
              have HV : Hid (coverB kinT (chainO kinT (madeL l3 t)) (chainO kinT (madeL l2 u))[j] = true) := hide (could_chain HA.out L1.out L2.out L3.out HU.out (List.getElem_mem hjd))
              obtain ⟨y, hy⟩ : ∃ y, y = (chainO kinT (madeL l2 u))[j] := ⟨_, rfl⟩
              rw [← hy] at y0 y1 y2 y3 y4 HV
              have hj1 : (0 : Int) ≤ (j : Int) := by omega
              have hj2 : (j : Int) < (nc : Int) := by omega
              have CV := hide (refCovT_any sb nb cb (chainO kinT (madeL l3 t)) y HV.out wr (by omega) (RB.out.later HG8.out))
              clear hrc hne hy hjd hg
              go_wp2_with fail
              refine CV.out.mono ?_
              rintro _ w9 ⟨rfl, hb⟩
              have HG9 := hide (Grow.trans' HGW.out hb)
              clear hb CV y0 y1 y2 y3 y4
              go_wp2_with fail
              go_roundw
              case rel => exact ⟨j + 1, by omega, by go_num, HG9.out⟩
              case measure => simp [intOf]; omega
            · have hj2 : ¬ (j : Int) < (nc : Int) := by omega
              clear hg
              go_wp2_with fail
              go_roundw
              case rel => exact ⟨k + 1, by omega, by go_num, HG8.out⟩
              case measure => simp [intOf]; omega
      · have hi2 : ¬ (k : Int) < (na : Int) := by omega
        clear hg
        go_wp2_with fail
        go_ret
        exact ⟨rfl, Grow.trans' G5.out HG.out⟩

set_option maxRecDepth 100000 in
theorem PathsChain_lifted (os : Os) (started : os.Started) (H : Type) (enc : TypeId × Value → H) :
    ReturnsInHanded {} Tryz.checked os 5 .any (Rows.pathsChainSpec.pre6 enc Tryz.prog Tryz.f5 Rows.pathsChainRow.domain false) (Rows.pathsChainSpec.post enc Tryz.prog Tryz.f5 false true false false) := by
  refine returnsInHanded_of_change (C := Tryz.checked) own started (by kernel_rfl) Tryz.func5
    (ChangeSpec.witness6 (enc := enc) (C := Tryz.checked) false ⟨#[], #[.agg #[.slice none 0 0, .slice none 0 0], .agg #[.int .i64 0, .int .i64 0, .int .i64 0, .int .i64 0, .int .i64 0], .agg #[.int .i64 0, .int .i64 0, .int .i64 0, .int .i64 0, .int .i64 0, .int .i64 0]], []⟩ 8 (by kernel_rfl) (by kernel_rfl) (by kernel_rfl) (by kernel_rfl)) ?_
  intro W base args ds gs before hval0 hW hcnd _
  have hval : ∀ (j : Nat) t v, Tryz.f5.params[j]? = some t → args[j]? = some v → Value.okWide Tryz.prog W .any base t v := hval0
  have hW' := hW
  obtain ⟨p, q, hA0, hV, rfl, hfz, hnd⟩ := hW
  have hA : DataW.TrodAll enc Tryz.prog W 0 (fun _ => true) true Tryz.f5.params.toList args.toList ds p := hA0
  rw [Tryz.params5] at hA hval
  obtain ⟨v0, vs0, d0, ds0, p0, q0, hargs, rfl, rfl, h0, r0⟩ := trodAll_cons hA
  obtain ⟨v1, vs1, d1, ds1, p1, q1, rfl, rfl, rfl, h1, r1⟩ := trodAll_cons r0
  obtain ⟨v2, vs2, d2, ds2, p2, q2, rfl, rfl, rfl, h2, r2⟩ := trodAll_cons r1
  obtain ⟨rfl, rfl, rfl⟩ := trodAll_nil r2
  obtain rfl : args = #[v0, v1, v2] := by cases args; simp_all
  obtain ⟨rfl, rfl⟩ := trodVars_none hV
  have k0 := h0
  have lt0 : ∀ x ∈ p0, x.block < W.heap.size := by obtain ⟨m, hm⟩ := k0; exact DataW.trod_lt m _ _ _ hm
  obtain ⟨t0, rfl, w0⟩ := open_gr (hval 0 25 v0 rfl rfl) h0
  have k1 := h1
  have lt1 : ∀ x ∈ p1, x.block < W.heap.size := by obtain ⟨m, hm⟩ := k1; exact DataW.trod_lt m _ _ _ hm
  obtain ⟨t1, rfl, w1⟩ := open_tm (hval 1 43 v1 rfl rfl) h1
  have k2 := h2
  have lt2 : ∀ x ∈ p2, x.block < W.heap.size := by obtain ⟨m, hm⟩ := k2; exact DataW.trod_lt m _ _ _ hm
  obtain ⟨t2, rfl, w2⟩ := open_lc3 (hval 2 50 v2 rfl rfl) h2
  clear hA0 hval0
  refine (PathsChain_any t0 t1 t2 W w0 w2.1 w2.2.1 w2.2.2).mono fun e W' ⟨he, bel⟩ => ?_
  subst he
  exact ⟨_, rfl, _, _, _, [], _, [], hW', trodAll_mk1 (shut_bool Tryz.underlying4 _), (trodAll_cons_mk (Below.trod laidOut (by kernel_rfl) (of_decide_eq_true (by kernel_rfl)) k0 bel lt0) (trodAll_cons_mk (Below.trod laidOut (by kernel_rfl) (of_decide_eq_true (by kernel_rfl)) k1 bel lt1) (trodAll_cons_mk (Below.trod laidOut (by kernel_rfl) (of_decide_eq_true (by kernel_rfl)) k2 bel lt2) trodAll_mk0))), rfl, bel.frame _, fun h => by cases h⟩

/-- The given statement. -/
theorem PathsChain_holds : Rows.PathsChainSaid :=
  OpenClaim.holds_of_wide 5 Tryz.f5 rfl rfl rfl rfl rfl rfl rfl ⟨rfl, rfl, rfl, rfl, rfl⟩ rfl rfl rfl rfl rfl (by kernel_rfl) Tryz.func5 (by kernel_rfl)
    (of_decide_eq_true (by kernel_rfl)) (by unfold Func.isWrapper; first | (rw [if_pos (by decide +kernel)]; kernel_rfl) | (rw [if_neg (by decide +kernel)]; exact ⟨rfl, rfl⟩))
    (fun os started H enc _ => PathsChain_lifted os started H enc)


end Go.Proofs.YtehianjfpmbfpaaGreat
