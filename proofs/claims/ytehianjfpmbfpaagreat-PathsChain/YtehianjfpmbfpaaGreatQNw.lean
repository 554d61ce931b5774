/-
  What New does to the world: of a graph that is accepted it makes, from each place, the fronts of what ways do, in maps of the call's own; what was there stays as it was.
-/
import Derived.Test.YtehianjfpmbfpaaGreatQSt
namespace Go.Proofs.YtehianjfpmbfpaaGreat
set_option maxRecDepth 100000
open Go.RowKit Go.Maps Go.Deep
set_option linter.unusedVariables false
set_option linter.unusedSimpArgs false
attribute [local go_sem ↓] run_makeMap

/-- A map of the fronts of all places, as seen from x. -/
def LowM (w : World) (N : List Nd) (E : List Ed) (x : Lc) (lb : Nat) : Prop := ∃ fl L, InF w lb (locs N) fl L ∧ ∀ b, Front (Way (stepsG N E) x (sameS (depP N x)) b) (L b)
theorem LowM.later {w w' : World} {N : List Nd} {E : List Ed} {x : Lc} {lb : Nat} (hg : Grow w w') : LowM w N E x lb → LowM w' N E x lb := fun ⟨fl, L, h, k⟩ => ⟨fl, L, h.later hg, k⟩
theorem LowM.mapTurn {w w' : World} {N : List Nd} {E : List Ed} {x : Lc} {lb g : Nat} (h : LowM w N E x lb) (hg : w.grownBy w' (some g)) {es : Array MapEntry} {cl : Nat} (hm : w.heap[g]? = some (.map es cl)) (hne : lb ≠ g) : LowM w' N E x lb := by
  obtain ⟨fl, L, h, k⟩ := h
  exact ⟨fl, L, h.mapTurn hg hm hne, k⟩
/-- A value is such a map, beyond B. -/
def LowV (N : List Nd) (E : List Ed) (x : Lc) (B : Nat) (v : Value) (w : World) : Prop := ∃ lb, v = .map (some lb) ∧ B ≤ lb ∧ LowM w N E x lb
theorem LowV.later {N : List Nd} {E : List Ed} {x : Lc} {B : Nat} {v : Value} {w w' : World} (hg : Grow w w') : LowV N E x B v w → LowV N E x B v w' := fun ⟨lb, e, h, k⟩ => ⟨lb, e, h, k.later hg⟩
/-- The maps of the places that are through. -/
structure PthK (w : World) (pb : Nat) (N : List Nd) (E : List Ed) (ff : Lc → Option Value) (left : Lit → Bool) : Prop where
  map : MapL w pb (locs N) ff
  row : ∀ x ∈ locs N, left (klL x) = false → ∃ lb, ff x = some (.map (some lb)) ∧ lb ≠ pb ∧ LowM w N E x lb
theorem PthK.later {w w' : World} {pb : Nat} {N : List Nd} {E : List Ed} {ff : Lc → Option Value} {left : Lit → Bool} (hg : Grow w w') (h : PthK w pb N E ff left) : PthK w' pb N E ff left :=
  ⟨h.map.later hg, fun x hx hl => by obtain ⟨lb, e, k, hI⟩ := h.row x hx hl; exact ⟨lb, e, k, hI.later hg⟩⟩
theorem PthK.iterTurn {w w' : World} {pb r : Nat} {N : List Nd} {E : List Ed} {ff : Lc → Option Value} {left : Lit → Bool} (h : PthK w pb N E ff left) (hg : w.grownBy w' (some r)) (hm : ∃ m x y z, w.heap[r]? = some (.mapIter m x y z)) : PthK w' pb N E ff left := by
  refine ⟨?_, fun x hx hl => by obtain ⟨lb, e, k, fl, L, hI, hF⟩ := h.row x hx hl; exact ⟨lb, e, k, fl, L, hI.iterTurn hg hm, hF⟩⟩
  obtain ⟨es, cl, hb⟩ := h.map.isMap
  obtain ⟨m, x0, y0, z0, hm⟩ := hm
  refine h.map.keep (hg.block pb h.map.lt fun e => ?_)
  simp at e
  rw [e, hm] at hb
  cases hb
theorem PthK.set {w : World} {pb lb : Nat} {N : List Nd} {E : List Ed} {ff : Lc → Option Value} {left : Lit → Bool} (h : PthK w pb N E ff left) (hwf : ∀ x ∈ locs N, LcWf x) (hP : (locs N).length < 1000000000) {x : Lc} (hx : x ∈ locs N) (hne : lb ≠ pb) (hL : LowM w N E x lb) :
    ∃ w', (Instr.mapUpdate 77 (.map (some pb)) (.agg #[.int .i64 x.n, .int .i64 x.p]) (.map (some lb))).run Tryz.prog w = .ok () w' ∧ PthK w' pb N E (putV ff x (.map (some lb))) (fun z => left z && !z.sameKey (klL x)) ∧ w.grownBy w' (some pb) := by
  obtain ⟨w', h1, h2, h3⟩ := h.map.set Tryz.underlying77 hP hx (.map (some lb))
  obtain ⟨es, cl, hb⟩ := h.map.isMap
  refine ⟨w', h1, ⟨h2, fun y hy hl => ?_⟩, h3⟩
  by_cases e : y = x
  · subst e
    rw [putV_same]
    exact ⟨lb, rfl, hne, hL.mapTurn h3 hb hne⟩
  · rw [putV_other ff _ e]
    obtain ⟨lb', e', k, hI⟩ := h.row y hy ((strikeL_other (left := left) (hwf x hx) (hwf y hy) e).symm.trans hl)
    exact ⟨lb', e', k, hI.mapTurn h3 hb k⟩
theorem StpM.mapTurn {w w' : World} {b g : Nat} {P : List Lc} {f : Lc → Option Value} {T : Lc → List Sp} (h : StpM w b P f T) (hg : w.grownBy w' (some g)) {es : Array MapEntry} {cl : Nat} (hm : w.heap[g]? = some (.map es cl)) (hne : b ≠ g) : StpM w' b P f T :=
  ⟨h.map.keep (hg.block b h.map.lt (by simpa using hne)), fun x hx => by obtain ⟨s, n, c, e, hI⟩ := h.row x hx; exact ⟨s, n, c, e, hI.mapTurn hg hm⟩⟩
/-- What New has made. -/
def IsPth (w : World) (p : Nat) (N : List Nd) (E : List Ed) : Prop := ∃ pb ff, w.cell? ⟨p, 0, none⟩ = some (.map (some pb)) ∧ PthK w pb N E ff (fun _ => false)
theorem IsPth.later {w w' : World} {p : Nat} {N : List Nd} {E : List Ed} (hg : Grow w w') : IsPth w p N E → IsPth w' p N E := fun ⟨pb, ff, h, k⟩ => ⟨pb, ff, cell_later hg h, k.later hg⟩
theorem stpS_of {N : List Nd} {E : List Ed} (hA : AccG N E) : StpS (locs N) (stepsAt N E) (stepsG N E) where
  mem y := by rw [mem_stepsG, mem_locs]
  to x hx y hy := by
    have h1 := (step_is hA (mem_stepsG.2 ⟨(mem_locs N x).1 hx, hy⟩ : (⟨x, y.b, y.r⟩ : Stp) ∈ stepsG N E)).1.2
    exact (mem_locs N _).2 h1
  few := steps_few' hA
theorem same_may {N : List Nd} {E : List Ed} (hA : AccG N E) {x : Lc} (hx : x ∈ locs N) : mayS (sameS (depP N x)) = true := (way_dep hA ((mem_locs N x).1 hx) .none).2.1
theorem low_at (gs : Option Addr) (gn gc : Nat) (gt : Option Addr) (gm gq : Nat) (N : List Nd) (E : List Ed) (hA : AccG N E) (sb : Nat) (fs : Lc → Option Value) (x : Lc) (hx : x ∈ locs N) {s0 : Sm} (hs : sameS (depP N x) = s0) (B : Nat) (w : World) (hB : B ≤ w.heap.size) (hM : StpM w sb (locs N) fs (stepsAt N E)) :
    Calls Tryz.prog 32 #[.map (some sb), .agg #[.int .i64 x.n, .int .i64 x.p], .agg #[.int .i64 s0.f, .int .i64 s0.t, .int .i64 s0.k, .int .i64 s0.ep, .int .i64 s0.x, .int .i64 s0.y, .int .i64 s0.z]] w fun e w' => ∃ v, e = .returned v ∧ Grow w w' ∧ LowV N E x B v w' := by
  subst hs
  have hl : (locs N).length ≤ 60 := Nat.le_trans locs_len (by have := hA.big; omega)
  refine (lowest_any sb (locs N) fs (stepsAt N E) (stepsG N E) x (sameS (depP N x)) (depP N x) (depP N) w hl hM (stpS_of hA) hx (same_may hA hx) (fun b s h => ?_)).mono fun e w' ⟨lb, fl, L, h1, h2, h3, h4, h5⟩ => ⟨_, h1, h2, lb, rfl, Nat.le_trans hB h3, fl, L, h4, h5⟩
  obtain ⟨h1, h2⟩ := way_dep hA ((mem_locs N x).1 hx) h
  exact ⟨(mem_locs N b).2 h1, h2⟩
set_option maxHeartbeats 4000000 in
theorem new_any (gs : Option Addr) (gn gc : Nat) (gt : Option Addr) (gm gq : Nat) (N : List Nd) (E : List Ed) (hA : AccG N E) (w : World) (hg : IsNds w gs gn gc N) (he : IsEds w gt gm gq E) :
    Calls Tryz.prog 11 #[.agg #[.slice gs gn gc, .slice gt gm gq]] w fun e w' => ∃ p, e = .returned (.pointer (some ⟨p, 0, none⟩)) ∧ Grow w w' ∧ IsPth w' p N E := by
  have hn : gn ≤ 20 := by rw [← hg.1]; have := hA.big; omega
  have hm : gm ≤ 40 := by rw [← he.1]; have := hA.big; omega
  have hNl : N.length ≤ 20 := by rw [hg.1]; exact hn
  have hPl : (locs N).length < 1000000000 := Nat.lt_of_le_of_lt locs_len (by omega)
  have GG : Hid (Grow w (w.alloc (.cells #[.slice gs gn gc, .slice gt gm gq] 25))) := hide (Grow.alloc' _ _)
  have KG : Hid (BoxG (w.alloc (.cells #[.slice gs gn gc, .slice gt gm gq] 25)) w.heap.size ⟨gs, gn, gc, gt, gm, gq, [], []⟩) := hide (BoxG.new w ⟨gs, gn, gc, gt, gm, gq, [], []⟩)
  have HN0 := hide hg
  have HE0 := hide he
  have C := hide (stepsOf_any gs gn gc gt gm gq N E (w.alloc (.cells #[.slice gs gn gc, .slice gt gm gq] 25)) hn hm (hg.later GG.out) (he.later GG.out))
  have HA := hide hA
  have hwf := hide (locs_wf hNl)
  obtain ⟨g0, g1⟩ := KG.out
  dsimp only at g0 g1
  obtain ⟨PG, hPG⟩ : ∃ PG, PG = w.heap.size := ⟨_, rfl⟩
  clear hg he hA
  go_enter Tryz.func11, Tryz.ntmps11
  go_wp2_with fail
  refine C.out.mono ?_
  rintro _ w1 ⟨sb, fs, rfl, hb, hS⟩
  have GW1 := hide (Grow.trans' GG.out hb)
  have KG1 := hide (KG.out.later hb)
  have HS1 := hide hS
  have hsb1 : sb < w1.heap.size := hS.map.lt
  rw [← hPG] at KG1
  clear hb hS g0 g1 KG C GG
  obtain ⟨D, hMD⟩ := HS1.out.map
  have HMD := hide (hMD.keep (w' := (w1.alloc (.map #[] 0)).alloc (.cells #[.map (some w1.heap.size)] 79)) ((Grow.trans' (Grow.alloc' _ _) (Grow.alloc' _ _)).block sb hsb1))
  have HMDk := hide hMD
  clear hMD
  go_wp2_with (at_range; refine wpList_range_L rfl _ 75 _ Tryz.underlying75 rfl sb (locs N) fs D rfl HMD.out ?_; intro w0 hrg0 hg0 hs0)
  try go_frame
  obtain ⟨pb, hpb⟩ : ∃ pb, pb = w1.heap.size := ⟨_, rfl⟩
  obtain ⟨p, hp⟩ : ∃ p, p = w1.heap.size + 1 := ⟨_, rfl⟩
  have hpbw : w1.heap.size ≤ pb := by omega
  have hne : sb ≠ pb := by omega
  have hpw : w1.heap.size ≤ p := by omega
  obtain ⟨r, hr⟩ : ∃ r, r = ((w1.alloc (.map #[] 0)).alloc (.cells #[.map (some w1.heap.size)] 79)).heap.size := ⟨_, rfl⟩
  have hrw : w1.heap.size ≤ r := by rw [hr]; simp; omega
  have hz : (w1.alloc (.map #[] 0)).heap.size = w1.heap.size + 1 := by simp
  rw [← hr] at hrg0
  have HK0 : Hid (KeepR w1 w0 sb r (cntV (locs N) fs) D (Maps.has D) (cntV (locs N) fs)) := hide ⟨hrg0, Grow.trans' (Grow.trans' (Grow.alloc' _ _) (Grow.alloc' _ _)) hg0⟩
  have HC0 : Hid (w0.cell? ⟨p, 0, none⟩ = some (.map (some pb))) := hide (by rw [hp, hpb]; exact cell_later hg0 (by rw [← hz]; simp [go_sem]))
  have HP0 : Hid (PthK w0 pb N E (fun _ => none) (Maps.has D)) := hide ⟨by rw [hpb]; exact ((MapL.new w1 (locs N) (locs_nodup N) hwf.out).later (Grow.alloc' _ _)).later hg0, fun x hx hl => by
    have h1 := HMDk.out.has x (hwf.out x hx)
    rw [hl] at h1
    obtain ⟨s', n', c', e, _⟩ := HS1.out.row x hx
    rw [e] at h1; cases h1⟩
  rw [← hr, ← hp, ← hpb, ← hPG]
  clear hrg0 hg0 hs0 HMD hr hz hp hpb hPG
  go_loopw [] (fun wr => ∃ (left : Lit → Bool) (cnt : Nat) (ff : Lc → Option Value), KeepR w1 wr sb r (cntV (locs N) fs) D left cnt ∧ wr.cell? ⟨p, 0, none⟩ = some (.map (some pb)) ∧ PthK wr pb N E ff left) (fun wr => wr.rangeLeft sb r)
  case atStart => exact ⟨_, _, _, HK0.out, HC0.out, HP0.out⟩
  case round =>
    obtain ⟨left, cnt, ff, hK, hC, hP⟩ := hrel
    have HK := hide hK
    have HC := hide hC
    have HP := hide hP
    clear hK hC hP HK0 HC0 HP0
    go_wp2_with (at_next; refine wpList_next_L rfl _ rfl sb r (locs N) fs D w1 HMDk.out left cnt rfl HK.out.rg ?_ ?_)
    · intro hl
      have HL := hide hl
      clear hl
      go_wp2_with fail
      go_ret
      have HF : IsPth wr p N E := ⟨pb, ff, HC.out, HP.out.map, fun x hx _ => HP.out.row x hx (HL.out _)⟩
      exact ⟨p, rfl, Grow.trans' GW1.out HK.out.gr, HF⟩
    · intro x v wi cnt1 hwx hfx hlx hrg1 hlt hg1 hs1 hen
      have hx : x ∈ locs N := HMDk.out.keys x (by rw [hfx]; simp)
      obtain ⟨left1, hL'⟩ : ∃ left1, left1 = fun z : Lit => left z && !z.sameKey (klL x) := ⟨_, rfl⟩
      rw [← hL'] at hrg1
      have hiter := (ranges_iter HK.out.rg).2
      have HK1 : Hid (KeepR w1 wi sb r (cntV (locs N) fs) D left1 cnt1) := hide ⟨hrg1, growL_step HK.out.gr hg1 hrw⟩
      have HP1 := hide (HP.out.iterTurn hg1 hiter)
      have HC1 : Hid (wi.cell? ⟨p, 0, none⟩ = some (.map (some pb))) := hide (cell_turn HC.out hg1 (fun e => by
        obtain ⟨m, x0, y0, z0, hm⟩ := hiter
        have h2 := HC.out
        rw [e] at h2
        simp [World.cell?, hm] at h2))
      have HLE := hide HK.out.rg.left_eq
      have HX := hide hx
      have HLT := hide hlt
      have HL1 := hide hL'
      clear hwx hlx hrg1 hlt hg1 hs1 HK HP HC hL' hx hiter
      go_wp2_with (refine wpList_putL rfl _ _ rfl wi.heap.size x rfl rfl (BlkL.new wi) wi (Grow.alloc' _ _) (Nat.le_refl _) ?_)
      intro w2 hg2 hb2
      have HK2 := hide (HK1.out.later hg2)
      have HP2 := hide (HP1.out.later hg2)
      have HC2 : Hid (w2.cell? ⟨p, 0, none⟩ = some (.map (some pb))) := hide (cell_later hg2 HC1.out)
      have KX := hide hb2
      have KG2 := hide (KG1.out.later HK2.out.gr)
      have HN2 := hide (HN0.out.later (Grow.trans' GW1.out HK2.out.gr))
      have HS2 := hide (HS1.out.later HK2.out.gr)
      have hpl : p < w2.heap.size := World.block_lt_of_cell? _ _ HC2.out
      have hpbl : pb < w2.heap.size := HP2.out.map.lt
      obtain ⟨PX, hPX⟩ : ∃ PX, PX = wi.heap.size := ⟨_, rfl⟩
      rw [← hPX] at KX
      obtain ⟨s0, hs0⟩ : ∃ s0, sameS (depP N x) = s0 := ⟨_, rfl⟩
      have HS0 := hide hs0
      clear hg2 hb2 hen HK1 HP1 HC1 hs0
      obtain ⟨wo, rfl⟩ : ∃ wo : World, wo = wr := ⟨_, rfl⟩
      go_wp2_with fail
      rw [← hPX]
      clear hPX
      have HGG : ∀ wa wb, Grow w2 wa → Grow wa wb → Grow w2 wb := fun _ _ h q => Grow.trans' h q
      have HBG : ∀ wa wb, Grow wa wb → True → True := fun _ _ _ h => h
      have HG0 : ∀ w', Grow w2 w' → w'.heap = w2.heap → Grow w2 w' := fun _ h _ => h
      have HB0 : ∀ w', Grow w2 w' → w'.heap = w2.heap → True := fun _ _ _ => trivial
      let FF : Nat → Value → World → Prop := fun i vF wF => match i with | 0 => vF = .pointer (some ⟨p, 0, none⟩) | 1 => vF = .pointer (some ⟨p, 0, none⟩) | 2 => vF = .pointer (some ⟨p, 0, none⟩) | 3 => vF = .map (some pb) | 4 => vF = .agg #[.int .i64 x.n, .int .i64 x.p] | 5 => vF = .map (some sb) | 6 => vF = .agg #[.int .i64 x.n, .int .i64 x.p] | 7 => vF = .agg #[.slice gs gn gc, .slice gt gm gq] | 8 => vF = .agg #[.int .i64 x.n, .int .i64 x.p] | 9 => vF = .int .i64 (depP N x) | 10 => vF = .agg #[.int .i64 s0.f, .int .i64 s0.t, .int .i64 s0.k, .int .i64 s0.ep, .int .i64 s0.x, .int .i64 s0.y, .int .i64 s0.z] | 11 => LowV N E x w2.heap.size vF wF | _ => True
      let GG : World → Prop := fun w' => Grow w2 w'
      let BB : World → Prop := fun w' => True
      have hstab : ∀ k v w1 w2, Grow w1 w2 → FF k v w1 → FF k v w2 := by
        intro k v w1 w2 hg h
        match k with
        | 0 => exact h
        | 1 => exact h
        | 2 => exact h
        | 3 => exact h
        | 4 => exact h
        | 5 => exact h
        | 6 => exact h
        | 7 => exact h
        | 8 => exact h
        | 9 => exact h
        | 10 => exact h
        | 11 => exact LowV.later hg h
        | k + 12 => exact trivial
      have hGg : ∀ w1 w2, GG w1 → Grow w1 w2 → GG w2 := HGG
      have hBg : ∀ w1 w2, Grow w1 w2 → BB w1 → BB w2 := HBG
      refine wp_region_endG FF GG BB (fun _ => none) 999 12 _ rfl rfl rfl (by kernel_rfl) (by kernel_rfl) HG0 HB0 ?_ ?_
      · refine ⟨?_, ?_, ?_, ?_, ?_, ?_, ?_, ?_, ?_, ?_, ?_, ?_, trivial⟩
        · refine stepG_run hGg hBg hstab rfl ?_
          intro a' w' hg hs hd hb
          have e4 : a'.eval (.tmp 4) = .pointer (some ⟨p, 0, none⟩) := hs.rest 4 rfl
          have ec : ∀ v, a'.eval (.const v) = v := fun _ => rfl
          have ef : ∀ g, a'.eval (.func g) = .func (.func g) #[] #[] := fun _ => rfl
          clear hd hs
          refine wpv (v := .pointer (some ⟨p, 0, none⟩)) ?_ ⟨_, rfl, Grow.rfl' _, rfl⟩
          (generalize a'.eval = ev at ec ef e4 ⊢; simp [execOp, go_sem, *])
        · refine stepG_run hGg hBg hstab rfl ?_
          intro a' w' hg hs hd hb
          have e17 : a'.eval (.tmp 17) = .pointer (some ⟨p, 0, none⟩) := hd ⟨0, Ground.data⟩ (by simp) rfl rfl
          have ec : ∀ v, a'.eval (.const v) = v := fun _ => rfl
          have ef : ∀ g, a'.eval (.func g) = .func (.func g) #[] #[] := fun _ => rfl
          clear hd hs
          refine wpv (v := .pointer (some ⟨p, 0, none⟩)) ?_ ⟨_, rfl, Grow.rfl' _, rfl⟩
          (generalize a'.eval = ev at ec ef e17 ⊢; simp [execOp, go_sem, *])
        · refine stepG_run hGg hBg hstab rfl ?_
          intro a' w' hg hs hd hb
          have e18 : a'.eval (.tmp 18) = .pointer (some ⟨p, 0, none⟩) := hd ⟨1, Ground.data⟩ (by simp) rfl rfl
          have ec : ∀ v, a'.eval (.const v) = v := fun _ => rfl
          have ef : ∀ g, a'.eval (.func g) = .func (.func g) #[] #[] := fun _ => rfl
          clear hd hs
          refine wpv (v := .pointer (some ⟨p, 0, none⟩)) ?_ ⟨_, rfl, Grow.rfl' _, rfl⟩
          (generalize a'.eval = ev at ec ef e18 ⊢; simp [execOp, go_sem, *])
        · refine stepG_run hGg hBg hstab rfl ?_
          intro a' w' hg hs hd hb
          have e19 : a'.eval (.tmp 19) = .pointer (some ⟨p, 0, none⟩) := hd ⟨2, Ground.data⟩ (by simp) rfl rfl
          have ec : ∀ v, a'.eval (.const v) = v := fun _ => rfl
          have ef : ∀ g, a'.eval (.func g) = .func (.func g) #[] #[] := fun _ => rfl
          have pc := cell_later hg HC2.out
          clear hd hs
          refine wpv (v := .map (some pb)) ?_ ⟨_, rfl, Grow.rfl' _, rfl⟩
          (generalize a'.eval = ev at ec ef e19 ⊢; simp [execOp, go_sem, *])
        · refine stepG_run hGg hBg hstab rfl ?_
          intro a' w' hg hs hd hb
          have e5 : a'.eval (.tmp 5) = .pointer (some ⟨PX, 0, none⟩) := hs.rest 5 rfl
          have ec : ∀ v, a'.eval (.const v) = v := fun _ => rfl
          have ef : ∀ g, a'.eval (.func g) = .func (.func g) #[] #[] := fun _ => rfl
          obtain ⟨y0, y1⟩ := KX.out.later hg
          clear hd hs
          refine wpv (v := .agg #[.int .i64 x.n, .int .i64 x.p]) ?_ ⟨_, rfl, Grow.rfl' _, rfl⟩
          (generalize a'.eval = ev at ec ef e5 ⊢; simp [execOp, go_sem, *])
        · refine stepG_run hGg hBg hstab rfl ?_
          intro a' w' hg hs hd hb
          have e3 : a'.eval (.tmp 3) = .map (some sb) := hs.rest 3 rfl
          have ec : ∀ v, a'.eval (.const v) = v := fun _ => rfl
          have ef : ∀ g, a'.eval (.func g) = .func (.func g) #[] #[] := fun _ => rfl
          clear hd hs
          refine wpv (v := .map (some sb)) ?_ ⟨_, rfl, Grow.rfl' _, rfl⟩
          (generalize a'.eval = ev at ec ef e3 ⊢; simp [execOp, go_sem, *])
        · refine stepG_run hGg hBg hstab rfl ?_
          intro a' w' hg hs hd hb
          have e5 : a'.eval (.tmp 5) = .pointer (some ⟨PX, 0, none⟩) := hs.rest 5 rfl
          have ec : ∀ v, a'.eval (.const v) = v := fun _ => rfl
          have ef : ∀ g, a'.eval (.func g) = .func (.func g) #[] #[] := fun _ => rfl
          obtain ⟨y0, y1⟩ := KX.out.later hg
          clear hd hs
          refine wpv (v := .agg #[.int .i64 x.n, .int .i64 x.p]) ?_ ⟨_, rfl, Grow.rfl' _, rfl⟩
          (generalize a'.eval = ev at ec ef e5 ⊢; simp [execOp, go_sem, *])
        · refine stepG_run hGg hBg hstab rfl ?_
          intro a' w' hg hs hd hb
          have e1 : a'.eval (.tmp 1) = .pointer (some ⟨PG, 0, none⟩) := hs.rest 1 rfl
          have ec : ∀ v, a'.eval (.const v) = v := fun _ => rfl
          have ef : ∀ g, a'.eval (.func g) = .func (.func g) #[] #[] := fun _ => rfl
          obtain ⟨g0, g1⟩ := KG2.out.later hg
          clear hd hs
          refine wpv (v := .agg #[.slice gs gn gc, .slice gt gm gq]) ?_ ⟨_, rfl, Grow.rfl' _, rfl⟩
          (generalize a'.eval = ev at ec ef e1 ⊢; simp [execOp, go_sem, *])
        · refine stepG_run hGg hBg hstab rfl ?_
          intro a' w' hg hs hd hb
          have e5 : a'.eval (.tmp 5) = .pointer (some ⟨PX, 0, none⟩) := hs.rest 5 rfl
          have ec : ∀ v, a'.eval (.const v) = v := fun _ => rfl
          have ef : ∀ g, a'.eval (.func g) = .func (.func g) #[] #[] := fun _ => rfl
          obtain ⟨y0, y1⟩ := KX.out.later hg
          clear hd hs
          refine wpv (v := .agg #[.int .i64 x.n, .int .i64 x.p]) ?_ ⟨_, rfl, Grow.rfl' _, rfl⟩
          (generalize a'.eval = ev at ec ef e5 ⊢; simp [execOp, go_sem, *])
        · refine stepG_run hGg hBg hstab rfl ?_
          intro a' w' hg hs hd hb
          have e24 : a'.eval (.tmp 24) = .agg #[.slice gs gn gc, .slice gt gm gq] := hd ⟨7, Ground.data⟩ (by simp) rfl rfl
          have e25 : a'.eval (.tmp 25) = .agg #[.int .i64 x.n, .int .i64 x.p] := hd ⟨8, Ground.data⟩ (by simp) rfl rfl
          have ec : ∀ v, a'.eval (.const v) = v := fun _ => rfl
          have ef : ∀ g, a'.eval (.func g) = .func (.func g) #[] #[] := fun _ => rfl
          clear hd hs
          refine wpc ?_ (Calls.mono (dep_raw gs gn gc gt gm gq N x.n x.p w' hn (HN2.out.later hg)) fun e w2 ⟨he, hb⟩ => ⟨_, he, _, rfl, hb, rfl⟩)
          (generalize a'.eval = ev at ec ef e24 e25 ⊢; simp [execOp, go_sem, *])
        · refine stepG_run hGg hBg hstab rfl ?_
          intro a' w' hg hs hd hb
          have e26 : a'.eval (.tmp 26) = .int .i64 (depP N x) := hd ⟨9, Ground.data⟩ (by simp) rfl rfl
          have ec : ∀ v, a'.eval (.const v) = v := fun _ => rfl
          have ef : ∀ g, a'.eval (.func g) = .func (.func g) #[] #[] := fun _ => rfl
          clear hd hs
          refine wpc ?_ (Calls.mono (samS_at (depP N x) HS0.out w') fun e w2 ⟨he, hb⟩ => ⟨_, he, _, rfl, hb, rfl⟩)
          (generalize a'.eval = ev at ec ef e26 ⊢; simp [execOp, go_sem, *])
        · refine stepG_run hGg hBg hstab rfl ?_
          intro a' w' hg hs hd hb
          have e22 : a'.eval (.tmp 22) = .map (some sb) := hd ⟨5, Ground.data⟩ (by simp) rfl rfl
          have e23 : a'.eval (.tmp 23) = .agg #[.int .i64 x.n, .int .i64 x.p] := hd ⟨6, Ground.data⟩ (by simp) rfl rfl
          have e27 : a'.eval (.tmp 27) = .agg #[.int .i64 s0.f, .int .i64 s0.t, .int .i64 s0.k, .int .i64 s0.ep, .int .i64 s0.x, .int .i64 s0.y, .int .i64 s0.z] := hd ⟨10, Ground.data⟩ (by simp) rfl rfl
          have ec : ∀ v, a'.eval (.const v) = v := fun _ => rfl
          have ef : ∀ g, a'.eval (.func g) = .func (.func g) #[] #[] := fun _ => rfl
          clear hd hs
          refine wpc ?_ (Calls.mono (low_at gs gn gc gt gm gq N E HA.out sb fs x HX.out HS0.out w2.heap.size w' hg.size (HS2.out.later hg)) fun e w2 ⟨v, he, hb, hv⟩ => ⟨v, he, _, rfl, hb, hv⟩)
          (generalize a'.eval = ev at ec ef e22 e23 e27 ⊢; simp [execOp, go_sem, *])
      · intro a' w' hg hs hd
        have e20 : a'.eval (.tmp 20) = .map (some pb) := hd 3 (by omega) rfl
        have e21 : a'.eval (.tmp 21) = .agg #[.int .i64 x.n, .int .i64 x.p] := hd 4 (by omega) rfl
        obtain ⟨lb28, e28, hl28, hm28⟩ : LowV N E x w2.heap.size (a'.eval (.tmp 28)) w' := hd 11 (by omega) rfl
        have ec : ∀ v, a'.eval (.const v) = v := fun _ => rfl
        have ef : ∀ g, a'.eval (.func g) = .func (.func g) #[] #[] := fun _ => rfl
        obtain ⟨w3, hrun, hP3, hg3⟩ := (HP2.out.later hg).set hwf.out hPl HX.out (by omega) hm28
        rw [← HL1.out] at hP3
        refine wps (w' := w3) ?_ ?_
        · (generalize a'.eval = ev at ec ef e20 e21 e28 ⊢; simp [execOp, go_sem, *])
        have hmm := (HP2.out.later hg).map.isMap
        have HK3 := hide ((HK2.out.later hg).mapTurn hg3 hmm hpbw hne)
        have HC3 : Hid (w3.cell? ⟨p, 0, none⟩ = some (.map (some pb))) := hide (cell_mapTurn (cell_later hg HC2.out) hg3 hmm.choose_spec.choose_spec)
        have HP3 := hide hP3
        clear hrun hP3 hg3 hm28 hl28 e28 e20 e21 ec ef hg HGG HBG HG0 HB0 hGg hBg hstab hmm
        rw [frame_eq hs [false, false, false, false, false, false, false, false, false, false, false, false, false, false, false, false, false, true, true, true, true, true, true, true, true, true, true, true, true, false] (by kernel_rfl)]; simp only [mergeL]; clear hs hd; generalize a'.tmps = TT at *; try go_frame
        go_wp2_with fail
        go_roundw
        case rel => exact ⟨left1, cnt1, _, HK3.out, HC3.out, HP3.out⟩
        case measure => rw [HK3.out.rg.left_eq, HLE.out]; exact HLT.out

end Go.Proofs.YtehianjfpmbfpaaGreat
