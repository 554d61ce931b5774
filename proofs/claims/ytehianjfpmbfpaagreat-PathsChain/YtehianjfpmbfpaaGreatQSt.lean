/-
  What along, through and stepsOf do to the world: the steps from each place of a graph, each place's in a row of its own, in a map of the call's own; what was there stays as it was.
-/
import Derived.Test.YtehianjfpmbfpaaGreatQLo
import Derived.Test.YtehianjfpmbfpaaGreatHNx
import Derived.Test.YtehianjfpmbfpaaGreatHIs
import Derived.Test.YtehianjfpmbfpaaGreatHInn
import Derived.Test.YtehianjfpmbfpaaGreatHLoc
import Derived.Test.YtehianjfpmbfpaaGreatSNd
import Derived.Test.YtehianjfpmbfpaaGreatEndG
namespace Go.Proofs.YtehianjfpmbfpaaGreat
set_option maxRecDepth 100000
open Go.RowKit Go.Maps Go.Deep
set_option linter.unusedVariables false
set_option linter.unusedSimpArgs false
attribute [local go_sem ↓] run_makeMap

/-- A slice of steps that the call owns, at the end of append. -/
def AppP (base n : Nat) (d : List Sp) (v : Value) (w : World) : Prop := ∃ s2 c2, v = .slice s2 n c2 ∧ OwnP w base s2 n c2 d ∧ True
theorem AppP.later {base n : Nat} {d : List Sp} {v : Value} {w w' : World} (hg : Grow w w') : AppP base n d v w → AppP base n d v w' := fun ⟨s2, c2, e, h, l⟩ => ⟨s2, c2, e, h.later hg, l⟩
/-- A new slice of one step. -/
def OneP (t : Sp) (v : Value) (w : World) : Prop := ∃ g, v = .slice (some ⟨g, 0, none⟩) 1 1 ∧ IsSps w (some ⟨g, 0, none⟩) 1 1 [t]
theorem OneP.later {t : Sp} {v : Value} {w w' : World} (hg : Grow w w') : OneP t v w → OneP t v w' := fun ⟨g, e, h⟩ => ⟨g, e, h.later hg⟩
theorem oneP_new (w : World) (t : Sp) : OneP t (.slice (some ⟨w.heap.size, 0, none⟩) 1 1) (w.alloc (.cells #[.int .i64 t.b.n, .int .i64 t.b.p, .int .i64 t.r.f, .int .i64 t.r.t, .int .i64 t.r.k, .int .i64 t.r.ep, .int .i64 t.r.x, .int .i64 t.r.y, .int .i64 t.r.z] 120)) := ⟨_, rfl, isSps_one w t⟩
theorem run_apP {ws w : World} (hg : Grow ws w) (rt : TypeId) (s : Option Addr) (n cap : Nat) (d e : List Sp) (hown : OwnP w ws.heap.size s n cap d) (s' : Option Addr) (m c : Nat) (he : IsSps w s' m c e) (hlen : n + m ≤ 1000000000000) :
    ∃ s2 c2 w2, (Builtin.append_ #[96, 96] rt #[.slice s n cap, .slice s' m c]).run Tryz.prog w = .ok (.slice s2 (n + m) c2) w2
      ∧ OwnP w2 ws.heap.size s2 (n + m) c2 (d ++ e) ∧ (Grow ws w2 ∧ ∀ q y, FixL w q y → FixL w2 q y) ∧ True := by
  obtain ⟨s2, c2, w2, h1, h2, h3⟩ := run_ap_sp w rt ws.heap.size s n cap d e hown s' m c he hlen hg.size
  refine ⟨s2, c2, w2, h1, h2, ⟨(GrewBut.mk h3 fun b hb => (hown.lt b hb).2).grow hg (Nat.le_refl _), fun q y h => h.keep ?_⟩, trivial⟩
  obtain ⟨cs, r, hq⟩ := h.2
  refine h3.block q (Array.getElem?_eq_some_iff.1 hq).1 fun k => ?_
  rcases hown.2.1.2 with ⟨h', _⟩ | ⟨g, cap', cur, h', hb, hgb, _⟩
  · simp only [Value.slice.injEq] at h'
    rw [h'.1] at k; cases k
  · simp only [Value.slice.injEq] at h'
    rw [h'.1] at k
    simp at k
    rw [k, hgb] at hq
    cases hq
theorem samS_at (d : Int) {r : Sm} (h : sameS d = r) (w : World) : Calls Tryz.prog 33 #[.int .i64 d] w fun e w' => e = .returned (.agg #[.int .i64 r.f, .int .i64 r.t, .int .i64 r.k, .int .i64 r.ep, .int .i64 r.x, .int .i64 r.y, .int .i64 r.z]) ∧ Grow w w' := by rw [← h]; exact same_any d w
def alongL (E : List Ed) (n : Int) (r : Sm) : List Sp := (nextP E n).map fun b => ⟨b, r⟩
set_option maxHeartbeats 4000000 in
theorem along_any (gs : Option Addr) (gn gc : Nat) (gt : Option Addr) (gm gq : Nat) (N : List Nd) (E : List Ed) (l : Lc) (w : World) (hn : gn ≤ 20) (hm : gm ≤ 40) (hg : IsNds w gs gn gc N) (he : IsEds w gt gm gq E) :
    Calls Tryz.prog 56 #[.agg #[.slice gs gn gc, .slice gt gm gq], .agg #[.int .i64 l.n, .int .i64 l.p]] w fun e w' => ∃ s n c, e = .returned (.slice s n c) ∧ Grow w w' ∧ OwnP w' w.heap.size s n c (alongL E l.n (sameS (depP N l))) := by
  have hz : (w.alloc (.cells #[.slice gs gn gc, .slice gt gm gq] 25)).heap.size = w.heap.size + 1 := by simp
  have GG : Hid (Grow w ((w.alloc (.cells #[.slice gs gn gc, .slice gt gm gq] 25)).alloc (.cells #[.int .i64 l.n, .int .i64 l.p] 27))) := hide (Grow.trans' (Grow.alloc' _ _) (Grow.alloc' _ _))
  have KG : Hid (BoxG ((w.alloc (.cells #[.slice gs gn gc, .slice gt gm gq] 25)).alloc (.cells #[.int .i64 l.n, .int .i64 l.p] 27)) w.heap.size ⟨gs, gn, gc, gt, gm, gq, [], []⟩) := hide ((BoxG.new w ⟨gs, gn, gc, gt, gm, gq, [], []⟩).later (Grow.alloc' _ _))
  have KL : Hid (BoxL ((w.alloc (.cells #[.slice gs gn gc, .slice gt gm gq] 25)).alloc (.cells #[.int .i64 l.n, .int .i64 l.p] 27)) (w.heap.size + 1) l) := hide (by rw [← hz]; exact BoxL.new _ l)
  have HN := hide (hg.later GG.out)
  have HE := hide (he.later GG.out)
  have C := hide (next_raw gs gn gc gt gm gq E l.n ((w.alloc (.cells #[.slice gs gn gc, .slice gt gm gq] 25)).alloc (.cells #[.int .i64 l.n, .int .i64 l.p] 27)) hm HE.out)
  obtain ⟨g0, g1⟩ := KG.out
  obtain ⟨l0, l1⟩ := KL.out
  dsimp only at g0 g1
  obtain ⟨r, hr⟩ : ∃ r, sameS (depP N l) = r := ⟨_, rfl⟩
  rw [hr]
  have HR := hide hr
  clear hg he hz hr
  go_enter Tryz.func56, Tryz.ntmps56
  go_wp2_with fail
  refine C.out.mono ?_
  rintro _ w1 ⟨sx, nx, cx, rfl, hb, hO⟩
  have G1 := hide (Grow.trans' GG.out hb)
  have KG1 := hide (KG.out.later hb)
  have KL1 := hide (KL.out.later hb)
  have HN1 := hide (HN.out.later hb)
  have HX := hide hO.is
  have hnx : nx ≤ 40 := by
    have h1 := nextP_len E l.n
    have h2 := HE.out.1
    rw [← hO.1]; omega
  obtain ⟨PG, hPG⟩ : ∃ PG, PG = w.heap.size := ⟨_, rfl⟩
  obtain ⟨PL, hPL⟩ : ∃ PL, PL = w.heap.size + 1 := ⟨_, rfl⟩
  rw [← hPG] at KG1
  rw [← hPL] at KL1
  clear hb hO g0 g1 l0 l1 KG KL HN HE C GG
  go_wp2_with fail
  rw [← hPL, ← hPG]
  clear hPL hPG
  obtain ⟨M, hM⟩ : ∃ M, M = nextP E l.n := ⟨_, rfl⟩
  rw [← hM] at HX
  have HMM := hide hM
  clear hM
  go_loopw [5, 13] (fun v ix wr => ∃ (k : Nat) (s : Option Addr) (m c : Nat), k ≤ nx ∧ m ≤ k ∧ v = .slice s m c ∧ ix = .int .i64 k ∧ Grow w1 wr ∧ OwnP wr w1.heap.size s m c ((M.take k).map fun b => ⟨b, r⟩)) (fun _ ix _ => nx - (intOf ix).toNat)
  case atStart => exact ⟨0, none, 0, 0, Nat.zero_le _, Nat.le_refl _, rfl, rfl, Grow.rfl' _, by simpa using OwnP.nil w1 w1.heap.size⟩
  case round =>
    obtain ⟨k, s, m, c, hk, hmk, rfl, rfl, hg, hO⟩ := hrel
    have HG := hide hg
    have HO := hide hO
    have hsz := hg.size
    clear hO
    by_cases hlt : k < nx
    · have hkd : k < M.length := by rw [HX.out.1]; exact hlt
      have hne : ¬ M = [] := fun h => by rw [h] at hkd; simp at hkd
      obtain ⟨be, o, rfl, hr1⟩ := HX.out.2.2.resolve_left hne
      obtain ⟨p0, p1⟩ := (hr1.later hg).at k hkd
      have HS : Hid ((M.take (k + 1)).map (fun b => (⟨b, r⟩ : Sp)) = (M.take k).map (fun b => (⟨b, r⟩ : Sp)) ++ [⟨M[k], r⟩]) := hide (by rw [← List.take_append_getElem hkd, List.map_append]; rfl)
      obtain ⟨y, hy⟩ : ∃ y, y = M[k] := ⟨_, rfl⟩
      rw [← hy] at p0 p1 HS
      have hi1 : (0 : Int) ≤ (k : Int) := by omega
      have hi2 : (k : Int) < (nx : Int) := by omega
      clear hne hr1 hy hkd hg
      obtain ⟨A, hA⟩ : ∃ A, A = (M.take k).map fun b => (⟨b, r⟩ : Sp) := ⟨_, rfl⟩
      rw [← hA] at HS HO
      clear hA
      go_wp2_with (refine wpList_putL' rfl _ _ rfl wr.heap.size y rfl rfl (BlkL.new wr) wr (Grow.alloc' _ _) (Nat.le_refl _) ?_)
      intro w2 hg2 hb2
      have G2 := hide (Grow.trans' HG.out hg2)
      have O2 := hide (HO.out.later hg2)
      have KY := hide hb2
      clear hg2 hb2 p0 p1 HG HO
      obtain ⟨PY, hPY⟩ : ∃ PY, PY = wr.heap.size := ⟨_, rfl⟩
      rw [← hPY] at KY
      go_wp2_with fail
      rw [← hPY]
      clear hPY
      have HGG : ∀ wa wb, Grow w1 wa ∧ FixL wa PY y → Grow wa wb → Grow w1 wb ∧ FixL wb PY y := fun _ _ h q => ⟨Grow.trans' h.1 q, h.2.later q⟩
      have HBG : ∀ wa wb, Grow wa wb → OwnP wa w1.heap.size s m c A → OwnP wb w1.heap.size s m c A := fun _ _ q h => h.later q
      have HG0 : ∀ w', Grow w2 w' → w'.heap = w2.heap → Grow w1 w' ∧ FixL w' PY y := fun _ h _ => ⟨Grow.trans' G2.out h, KY.out.later h⟩
      have HB0 : ∀ w', Grow w2 w' → w'.heap = w2.heap → OwnP w' w1.heap.size s m c A := fun _ h _ => O2.out.later h
      have HKG : ∀ w', Grow w1 w' → w'.cell? ⟨PG, 0, none⟩ = some (.slice gs gn gc) ∧ w'.cell? ⟨PG, 1, none⟩ = some (.slice gt gm gq) := fun w' h => KG1.out.later h
      have HKL : ∀ w', Grow w1 w' → w'.cell? ⟨PL, 0, none⟩ = some (.int .i64 l.n) ∧ w'.cell? ⟨PL, 1, none⟩ = some (.int .i64 l.p) := fun w' h => KL1.out.later h
      let FF : Nat → Value → World → Prop := fun i vF wF => match i with | 0 => vF = .slice s m c | 1 => vF = .agg #[.int .i64 y.n, .int .i64 y.p] | 2 => vF = .agg #[.slice gs gn gc, .slice gt gm gq] | 3 => vF = .agg #[.int .i64 l.n, .int .i64 l.p] | 4 => vF = .int .i64 (depP N l) | 5 => vF = .agg #[.int .i64 r.f, .int .i64 r.t, .int .i64 r.k, .int .i64 r.ep, .int .i64 r.x, .int .i64 r.y, .int .i64 r.z] | 6 => vF = .agg #[.int .i64 y.n, .int .i64 y.p, .int .i64 r.f, .int .i64 r.t, .int .i64 r.k, .int .i64 r.ep, .int .i64 r.x, .int .i64 r.y, .int .i64 r.z] | 7 => OneP ⟨y, r⟩ vF wF | 8 => AppP w1.heap.size (m + 1) (A ++ [⟨y, r⟩]) vF wF | _ => True
      let GG : World → Prop := fun w' => Grow w1 w' ∧ FixL w' PY y
      let BB : World → Prop := fun w' => OwnP w' w1.heap.size s m c A
      have hstab : ∀ k v w1 w2, Grow w1 w2 → FF k v w1 → FF k v w2 := by
        intro k v w1 w2 hg h
        match k with
        | 0 => exact h
        | 1 => exact h
        | 2 => exact h
        | 3 => exact h
        | 4 => exact h
        | 5 => exact h
        | 6 => exact h
        | 7 => exact OneP.later hg h
        | 8 => exact AppP.later hg h
        | k + 9 => exact trivial
      have hGg : ∀ w1 w2, GG w1 → Grow w1 w2 → GG w2 := HGG
      have hBg : ∀ w1 w2, Grow w1 w2 → BB w1 → BB w2 := HBG
      refine wp_region_endG FF GG BB (fun i => match i with | 7 => some 8 | _ => none) 8 9 _ rfl rfl rfl (by kernel_rfl) (by kernel_rfl) HG0 HB0 ?_ ?_
      · refine ⟨?_, ?_, ?_, ?_, ?_, ?_, ?_, ?_, ?_, trivial⟩
        · refine stepG_run hGg hBg hstab rfl ?_
          intro a' w' hg hs hd hb
          have e5 : a'.eval (.tmp 5) = .slice s m c := hs.rest 5 rfl
          have ec : ∀ v, a'.eval (.const v) = v := fun _ => rfl
          have ef : ∀ g, a'.eval (.func g) = .func (.func g) #[] #[] := fun _ => rfl
          clear hd hs
          refine wpv (v := .slice s m c) ?_ ⟨_, rfl, Grow.rfl' _, rfl⟩
          (generalize a'.eval = ev at ec ef e5 ⊢; simp [execOp, go_sem, *])
        · refine stepG_run hGg hBg hstab rfl ?_
          intro a' w' hg hs hd hb
          have e7 : a'.eval (.tmp 7) = .pointer (some ⟨PY, 0, none⟩) := hs.rest 7 rfl
          have ec : ∀ v, a'.eval (.const v) = v := fun _ => rfl
          have ef : ∀ g, a'.eval (.func g) = .func (.func g) #[] #[] := fun _ => rfl
          obtain ⟨y0, y1⟩ := hg.2.1
          clear hd hs
          refine wpv (v := .agg #[.int .i64 y.n, .int .i64 y.p]) ?_ ⟨_, rfl, Grow.rfl' _, rfl⟩
          (generalize a'.eval = ev at ec ef e7 ⊢; simp [execOp, go_sem, *])
        · refine stepG_run hGg hBg hstab rfl ?_
          intro a' w' hg hs hd hb
          have e2 : a'.eval (.tmp 2) = .pointer (some ⟨PG, 0, none⟩) := hs.rest 2 rfl
          have ec : ∀ v, a'.eval (.const v) = v := fun _ => rfl
          have ef : ∀ g, a'.eval (.func g) = .func (.func g) #[] #[] := fun _ => rfl
          obtain ⟨g0, g1⟩ := HKG w' hg.1
          clear hd hs
          refine wpv (v := .agg #[.slice gs gn gc, .slice gt gm gq]) ?_ ⟨_, rfl, Grow.rfl' _, rfl⟩
          (generalize a'.eval = ev at ec ef e2 ⊢; simp [execOp, go_sem, *])
        · refine stepG_run hGg hBg hstab rfl ?_
          intro a' w' hg hs hd hb
          have e3 : a'.eval (.tmp 3) = .pointer (some ⟨PL, 0, none⟩) := hs.rest 3 rfl
          have ec : ∀ v, a'.eval (.const v) = v := fun _ => rfl
          have ef : ∀ g, a'.eval (.func g) = .func (.func g) #[] #[] := fun _ => rfl
          obtain ⟨l0, l1⟩ := HKL w' hg.1
          clear hd hs
          refine wpv (v := .agg #[.int .i64 l.n, .int .i64 l.p]) ?_ ⟨_, rfl, Grow.rfl' _, rfl⟩
          (generalize a'.eval = ev at ec ef e3 ⊢; simp [execOp, go_sem, *])
        · refine stepG_run hGg hBg hstab rfl ?_
          intro a' w' hg hs hd hb
          have e19 : a'.eval (.tmp 19) = .agg #[.slice gs gn gc, .slice gt gm gq] := hd ⟨2, Ground.data⟩ (by simp) rfl rfl
          have e20 : a'.eval (.tmp 20) = .agg #[.int .i64 l.n, .int .i64 l.p] := hd ⟨3, Ground.data⟩ (by simp) rfl rfl
          have ec : ∀ v, a'.eval (.const v) = v := fun _ => rfl
          have ef : ∀ g, a'.eval (.func g) = .func (.func g) #[] #[] := fun _ => rfl
          clear hd hs
          refine wpc ?_ (Calls.mono (dep_raw gs gn gc gt gm gq N l.n l.p w' hn (HN1.out.later hg.1)) fun e w2 ⟨he, hb⟩ => ⟨_, he, _, rfl, hb, rfl⟩)
          (generalize a'.eval = ev at ec ef e19 e20 ⊢; simp [execOp, go_sem, *])
        · refine stepG_run hGg hBg hstab rfl ?_
          intro a' w' hg hs hd hb
          have e21 : a'.eval (.tmp 21) = .int .i64 (depP N l) := hd ⟨4, Ground.data⟩ (by simp) rfl rfl
          have ec : ∀ v, a'.eval (.const v) = v := fun _ => rfl
          have ef : ∀ g, a'.eval (.func g) = .func (.func g) #[] #[] := fun _ => rfl
          clear hd hs
          refine wpc ?_ (Calls.mono (samS_at (depP N l) HR.out w') fun e w2 ⟨he, hb⟩ => ⟨_, he, _, rfl, hb, rfl⟩)
          (generalize a'.eval = ev at ec ef e21 ⊢; simp [execOp, go_sem, *])
        · refine stepG_run hGg hBg hstab rfl ?_
          intro a' w' hg hs hd hb
          have e18 : a'.eval (.tmp 18) = .agg #[.int .i64 y.n, .int .i64 y.p] := hd ⟨1, Ground.data⟩ (by simp) rfl rfl
          have e22 : a'.eval (.tmp 22) = .agg #[.int .i64 r.f, .int .i64 r.t, .int .i64 r.k, .int .i64 r.ep, .int .i64 r.x, .int .i64 r.y, .int .i64 r.z] := hd ⟨5, Ground.data⟩ (by simp) rfl rfl
          have ec : ∀ v, a'.eval (.const v) = v := fun _ => rfl
          have ef : ∀ g, a'.eval (.func g) = .func (.func g) #[] #[] := fun _ => rfl
          clear hd hs
          refine wpv (v := .agg #[.int .i64 y.n, .int .i64 y.p, .int .i64 r.f, .int .i64 r.t, .int .i64 r.k, .int .i64 r.ep, .int .i64 r.x, .int .i64 r.y, .int .i64 r.z]) ?_ ⟨_, rfl, Grow.rfl' _, rfl⟩
          (generalize a'.eval = ev at ec ef e18 e22 ⊢; simp [execOp, go_sem, *])
        · refine stepG_run hGg hBg hstab rfl ?_
          intro a' w' hg hs hd hb
          have e23 : a'.eval (.tmp 23) = .agg #[.int .i64 y.n, .int .i64 y.p, .int .i64 r.f, .int .i64 r.t, .int .i64 r.k, .int .i64 r.ep, .int .i64 r.x, .int .i64 r.y, .int .i64 r.z] := hd ⟨6, Ground.data⟩ (by simp) rfl rfl
          have ec : ∀ v, a'.eval (.const v) = v := fun _ => rfl
          have ef : ∀ g, a'.eval (.func g) = .func (.func g) #[] #[] := fun _ => rfl
          clear hd hs
          refine wpv (v := .slice (some ⟨w'.heap.size, 0, none⟩) 1 1) (w' := w'.alloc (.cells #[.int .i64 y.n, .int .i64 y.p, .int .i64 r.f, .int .i64 r.t, .int .i64 r.k, .int .i64 r.ep, .int .i64 r.x, .int .i64 r.y, .int .i64 r.z] 120)) ?_ ⟨_, rfl, Grow.alloc' _ _, oneP_new w' ⟨y, r⟩⟩
          (generalize a'.eval = ev at ec ef e23 ⊢; simp [execOp, go_sem, *])
        · refine stepG_take rfl ?_
          intro a' w' hg hs hd hb
          have e17 : a'.eval (.tmp 17) = .slice s m c := hd ⟨0, Ground.data⟩ (by simp) rfl rfl
          obtain ⟨g24, e24, h24⟩ : OneP ⟨y, r⟩ (a'.eval (.tmp 24)) w' := hd ⟨7, Ground.data⟩ (by simp) rfl rfl
          have ec : ∀ v, a'.eval (.const v) = v := fun _ => rfl
          have ef : ∀ g, a'.eval (.func g) = .func (.func g) #[] #[] := fun _ => rfl
          clear hd hs
          obtain ⟨s2, c2, w2, hrun, hown, hgr, hlie⟩ := run_apP hg.1 96 s m c A [⟨y, r⟩] (hb rfl) (some ⟨g24, 0, none⟩) 1 1 h24 (by omega)
          refine wpv (v := .slice s2 _ c2) (w' := w2) ?_ ⟨_, rfl, ⟨hgr.1, hgr.2 _ _ hg.2⟩, ⟨s2, c2, rfl, hown, hlie⟩, ?_, fun h _ => absurd rfl h⟩
          rotate_left
          · intro j u hj h
            match j with
            | 0 => exact h
            | 1 => exact h
            | 2 => exact h
            | 3 => exact h
            | 4 => exact h
            | 5 => exact h
            | 6 => exact h
            | 7 => first | (cases hj; done) | exact OneP.turn hgr.2 (by decide) h
            | 8 => first | (cases hj; done) | exact AppP.turn hgr.2 (by decide) h
            | j + 9 => exact trivial
          · unfold execOp; simp only [resolve, invoke, builtin, Sem.run_bind, Sem.run_pure, Result.andThen_ok, List.map_toArray, List.map_cons, List.map_nil, e17, e24, hrun]
      · intro a' w' hg hs hd
        obtain ⟨sa25, ca25, e25, h25, t25⟩ : AppP w1.heap.size (m + 1) (A ++ [⟨y, r⟩]) (a'.eval (.tmp 25)) w' := hd 8 (by omega) rfl
        have ec : ∀ v, a'.eval (.const v) = v := fun _ => rfl
        have ef : ∀ g, a'.eval (.func g) = .func (.func g) #[] #[] := fun _ => rfl
        have HF := hide h25
        have HG3 := hide hg.1
        refine wpv (v := .slice sa25 (m + 1) ca25) (w' := w') ?_ ?_
        · (generalize a'.eval = ev at ec ef e25 ⊢; simp [execOp, go_sem, *])
        clear h25 t25 e25 ec ef hg HGG HBG HG0 HB0 hGg hBg hstab HKG HKL
        rw [frame_eq hs [false, false, false, false, false, true, false, false, false, false, false, false, false, false, false, false, false, true, true, true, true, true, true, true, true, true, false, false] (by kernel_rfl)]; simp only [mergeL]; clear hs hd; generalize a'.tmps = TT at *; try go_frame
        go_wp2_with fail
        go_roundw
        case rel => exact ⟨k + 1, sa25, m + 1, ca25, by omega, by omega, rfl, by go_num, HG3.out, by rw [HS.out]; exact HF.out⟩
        case measure => simp [intOf]; omega
    · have hkn : M.take k = M := List.take_of_length_le (by rw [HX.out.1]; omega)
      have hi2 : ¬ (k : Int) < (nx : Int) := by omega
      rw [hkn] at HO
      clear hkn hg
      go_wp2_with fail
      go_ret
      exact ⟨s, m, c, rfl, Grow.trans' G1.out HG.out, by unfold alongL; rw [← HMM.out]; exact HO.out.rebase G1.out.size⟩

def throughL (N : List Nd) (n : Int) : List Sp := if isP N ⟨n, -1⟩ = true then [⟨⟨n, -1⟩, innP (nth N n.toNat)⟩] else []
set_option maxHeartbeats 4000000 in
theorem through_any (gs : Option Addr) (gn gc : Nat) (gt : Option Addr) (gm gq : Nat) (N : List Nd) (E : List Ed) (l : Lc) (w : World) (hn : gn ≤ 20) (hg : IsNds w gs gn gc N) :
    Calls Tryz.prog 57 #[.agg #[.slice gs gn gc, .slice gt gm gq], .agg #[.int .i64 l.n, .int .i64 l.p]] w fun e w' => ∃ s n c, e = .returned (.slice s n c) ∧ Grow w w' ∧ IsSps w' s n c (throughL N l.n) ∧ ∀ a, s = some a → a.block < w'.heap.size := by
  have hz : (w.alloc (.cells #[.slice gs gn gc, .slice gt gm gq] 25)).heap.size = w.heap.size + 1 := by simp
  have GG : Hid (Grow w ((w.alloc (.cells #[.slice gs gn gc, .slice gt gm gq] 25)).alloc (.cells #[.int .i64 l.n, .int .i64 l.p] 27))) := hide (Grow.trans' (Grow.alloc' _ _) (Grow.alloc' _ _))
  have KG : Hid (BoxG ((w.alloc (.cells #[.slice gs gn gc, .slice gt gm gq] 25)).alloc (.cells #[.int .i64 l.n, .int .i64 l.p] 27)) w.heap.size ⟨gs, gn, gc, gt, gm, gq, [], []⟩) := hide ((BoxG.new w ⟨gs, gn, gc, gt, gm, gq, [], []⟩).later (Grow.alloc' _ _))
  have KL : Hid (BoxL ((w.alloc (.cells #[.slice gs gn gc, .slice gt gm gq] 25)).alloc (.cells #[.int .i64 l.n, .int .i64 l.p] 27)) (w.heap.size + 1) l) := hide (by rw [← hz]; exact BoxL.new _ l)
  have HN := hide (hg.later GG.out)
  obtain ⟨g0, g1⟩ := KG.out
  obtain ⟨l0, l1⟩ := KL.out
  dsimp only at g0 g1
  obtain ⟨PG, hPG⟩ : ∃ PG, PG = w.heap.size := ⟨_, rfl⟩
  obtain ⟨PL, hPL⟩ : ∃ PL, PL = w.heap.size + 1 := ⟨_, rfl⟩
  obtain ⟨TL, hTL⟩ : ∃ TL, throughL N l.n = TL := ⟨_, rfl⟩
  rw [hTL]
  have HTL := hide hTL
  clear hTL
  have HBK : Hid (BlkL (((w.alloc (.cells #[.slice gs gn gc, .slice gt gm gq] 25)).alloc (.cells #[.int .i64 l.n, .int .i64 l.p] 27)).alloc (.cells #[.int .i64 0, .int .i64 0] 27)) (w.heap.size + 1 + 1)) := hide (by have := BlkL.new ((w.alloc (.cells #[.slice gs gn gc, .slice gt gm gq] 25)).alloc (.cells #[.int .i64 l.n, .int .i64 l.p] 27)); simpa using this)
  clear hg hz
  go_enter Tryz.func57, Tryz.ntmps57
  go_wp2_with (refine wpList_putL rfl _ _ rfl (w.heap.size + 1 + 1) ⟨l.n, -1⟩ rfl rfl HBK.out ((w.alloc (.cells #[.slice gs gn gc, .slice gt gm gq] 25)).alloc (.cells #[.int .i64 l.n, .int .i64 l.p] 27)) (Grow.alloc' _ _) (by simp) ?_)
  intro w1 hg1 hb1
  obtain ⟨PO, hPO⟩ : ∃ PO, PO = w.heap.size + 1 + 1 := ⟨_, rfl⟩
  have G1 := hide (Grow.trans' GG.out hg1)
  have KG1 := hide (KG.out.later hg1)
  have KL1 := hide (KL.out.later hg1)
  have HN1 := hide (HN.out.later hg1)
  have KO1 := hide hb1
  rw [← hPG] at KG1
  rw [← hPL] at KL1
  rw [← hPO] at KO1
  have C := hide (is_raw gs gn gc gt gm gq N l.n (-1) w1 (by omega) HN1.out)
  clear g0 g1 l0 l1 hg1 hb1 KG KL HN GG
  obtain ⟨g0, g1⟩ := KG1.out
  obtain ⟨o0, o1⟩ := KO1.out
  dsimp only at g0 g1 o0 o1
  rw [hPG] at g0 g1
  rw [hPO] at o0 o1
  go_wp2_with fail
  refine C.out.mono ?_
  rintro _ w2 ⟨rfl, hb⟩
  have G2 := hide (Grow.trans' G1.out hb)
  have KG2 := hide (KG1.out.later hb)
  have KL2 := hide (KL1.out.later hb)
  have HN2 := hide (HN1.out.later hb)
  have KO2 := hide (KO1.out.later hb)
  clear hb g0 g1 o0 o1 G1 KG1 KL1 HN1 KO1 C
  cases hp : isP N ⟨l.n, -1⟩
  · have e : Hid (TL = []) := hide (by rw [← HTL.out]; unfold throughL; rw [hp]; rfl)
    clear hp
    go_wp2_with fail
    go_ret
    exact ⟨none, 0, 0, rfl, G2.out, by rw [e.out]; exact ⟨rfl, Nat.le_refl _, .inl rfl⟩, fun a q => by cases q⟩
  · obtain ⟨q1, q2⟩ := isP_node hp
    obtain ⟨ln, lp⟩ := l
    dsimp only at q1 q2 KL2 KO2 hp HTL ⊢
    obtain ⟨k, rfl⟩ : ∃ k : Nat, ln = (k : Int) := ⟨ln.toNat, by omega⟩
    have hkd : k < N.length := by omega
    have hkn : k < gn := by rw [← HN2.out.1]; exact hkd
    have hne : ¬ N = [] := fun h => by rw [h] at hkd; simp at hkd
    obtain ⟨b, o, rfl, hr1⟩ := HN2.out.2.2.resolve_left hne
    have HR := hide hr1
    have hi1 : (0 : Int) ≤ (k : Int) := by omega
    have hi2 : (k : Int) < (gn : Int) := by omega
    have HAt : ∀ w', Grow w2 w' → w'.cell? ⟨b, o + k * 4, none⟩ = some (.int .i64 (nth N k).k) ∧ w'.cell? ⟨b, o + k * 4 + 1, none⟩ = some (.int .i64 (nth N k).a) ∧ w'.cell? ⟨b, o + k * 4 + 2, none⟩ = some (.int .i64 (nth N k).b) ∧ w'.cell? ⟨b, o + k * 4 + 3, none⟩ = some (.int .i64 (nth N k).d) := fun w' h => by
      rw [nth_get N k hkd]
      exact (HR.out.later h).at k hkd
    have hk0 : ((k : Int)).toNat = k := by omega
    have e : TL = [⟨⟨(k : Int), -1⟩, innP (nth N k)⟩] := by
      rw [← HTL.out]
      unfold throughL
      rw [if_pos hp, hk0]
    obtain ⟨x, hx⟩ : ∃ x, x = nth N k := ⟨_, rfl⟩
    rw [← hx] at HAt e
    obtain ⟨xk, xa, xb, xd⟩ := x
    dsimp only at HAt
    obtain ⟨r, hr⟩ : ∃ r, innP ⟨xk, xa, xb, xd⟩ = r := ⟨_, rfl⟩
    have CI : ∀ w', Calls Tryz.prog 81 #[.agg #[.int .i64 xk, .int .i64 xa, .int .i64 xb, .int .i64 xd]] w' fun e w'' => e = .returned (.agg #[.int .i64 r.f, .int .i64 r.t, .int .i64 r.k, .int .i64 r.ep, .int .i64 r.x, .int .i64 r.y, .int .i64 r.z]) ∧ Grow w' w'' := fun w' => by rw [← hr]; exact inn_any xk xa xb xd w'
    have HCI := hide CI
    have HAT := hide HAt
    rw [hr] at e
    have HE := hide e
    clear e HTL hr hx hk0 hr1 hne hkd hkn q1 q2 hp HAt CI
    go_wp2_with fail
    rw [← hPO, ← hPL, ← hPG]
    clear hPO hPL hPG
    let FF : Nat → Value → World → Prop := fun i vF wF => match i with | 0 => vF = .agg #[.int .i64 (k : Int), .int .i64 (-1)] | 1 => vF = .pointer (some ⟨PG, 0, none⟩) | 2 => vF = .slice (some ⟨b, o, none⟩) gn gc | 3 => vF = .pointer (some ⟨PL, 0, none⟩) | 4 => vF = .int .i64 (k : Int) | 5 => vF = .pointer (some ⟨b, o + k * 4, none⟩) | 6 => vF = .agg #[.int .i64 xk, .int .i64 xa, .int .i64 xb, .int .i64 xd] | 7 => vF = .agg #[.int .i64 r.f, .int .i64 r.t, .int .i64 r.k, .int .i64 r.ep, .int .i64 r.x, .int .i64 r.y, .int .i64 r.z] | 8 => vF = .agg #[.int .i64 (k : Int), .int .i64 (-1), .int .i64 r.f, .int .i64 r.t, .int .i64 r.k, .int .i64 r.ep, .int .i64 r.x, .int .i64 r.y, .int .i64 r.z] | 9 => OneP ⟨⟨(k : Int), -1⟩, r⟩ vF wF | 10 => OneP ⟨⟨(k : Int), -1⟩, r⟩ vF wF | _ => True
    have hstab : ∀ k v w1 w2, Grow w1 w2 → FF k v w1 → FF k v w2 := by
      intro k v w1 w2 hg h
      match k with
      | 0 => exact h
      | 1 => exact h
      | 2 => exact h
      | 3 => exact h
      | 4 => exact h
      | 5 => exact h
      | 6 => exact h
      | 7 => exact h
      | 8 => exact h
      | 9 => exact OneP.later hg h
      | 10 => exact OneP.later hg h
      | k + 11 => exact trivial
    refine wp_region_invK FF (fun _ => none) (by kernel_rfl) (by kernel_rfl) ?_ ?_
    · refine ⟨?_, ?_, ?_, ?_, ?_, ?_, ?_, ?_, ?_, ?_, ?_, trivial⟩
      · refine stepK_run hstab trivial (by intro j b h; cases h) ?_
        intro a' w' hg hs hd
        have e5 : a'.eval (.tmp 5) = .pointer (some ⟨PO, 0, none⟩) := hs.rest 5 rfl
        have ec : ∀ v, a'.eval (.const v) = v := fun _ => rfl
        have ef : ∀ g, a'.eval (.func g) = .func (.func g) #[] #[] := fun _ => rfl
        clear hd hs
        obtain ⟨o0, o1⟩ := KO2.out.later hg
        refine wpv (v := .agg #[.int .i64 (k : Int), .int .i64 (-1)]) ?_ ⟨_, rfl, Grow.rfl' _, rfl⟩
        (generalize a'.eval = ev at ec ef e5 ⊢; simp [execOp, go_sem, *])
      · refine stepK_run hstab trivial (by intro j b h; cases h) ?_
        intro a' w' hg hs hd
        have e2 : a'.eval (.tmp 2) = .pointer (some ⟨PG, 0, none⟩) := hs.rest 2 rfl
        have ec : ∀ v, a'.eval (.const v) = v := fun _ => rfl
        have ef : ∀ g, a'.eval (.func g) = .func (.func g) #[] #[] := fun _ => rfl
        clear hd hs
        refine wpv (v := .pointer (some ⟨PG, 0, none⟩)) ?_ ⟨_, rfl, Grow.rfl' _, rfl⟩
        (generalize a'.eval = ev at ec ef e2 ⊢; simp [execOp, go_sem, *])
      · refine stepK_run hstab trivial (by intro j b h; cases h) ?_
        intro a' w' hg hs hd
        have e14 : a'.eval (.tmp 14) = .pointer (some ⟨PG, 0, none⟩) := hd ⟨1, Ground.data⟩ (by simp) rfl rfl
        have ec : ∀ v, a'.eval (.const v) = v := fun _ => rfl
        have ef : ∀ g, a'.eval (.func g) = .func (.func g) #[] #[] := fun _ => rfl
        clear hd hs
        obtain ⟨g0, g1⟩ := KG2.out.later hg
        refine wpv (v := .slice (some ⟨b, o, none⟩) gn gc) ?_ ⟨_, rfl, Grow.rfl' _, rfl⟩
        (generalize a'.eval = ev at ec ef e14 ⊢; simp [execOp, go_sem, *])
      · refine stepK_run hstab trivial (by intro j b h; cases h) ?_
        intro a' w' hg hs hd
        have e3 : a'.eval (.tmp 3) = .pointer (some ⟨PL, 0, none⟩) := hs.rest 3 rfl
        have ec : ∀ v, a'.eval (.const v) = v := fun _ => rfl
        have ef : ∀ g, a'.eval (.func g) = .func (.func g) #[] #[] := fun _ => rfl
        clear hd hs
        refine wpv (v := .pointer (some ⟨PL, 0, none⟩)) ?_ ⟨_, rfl, Grow.rfl' _, rfl⟩
        (generalize a'.eval = ev at ec ef e3 ⊢; simp [execOp, go_sem, *])
      · refine stepK_run hstab trivial (by intro j b h; cases h) ?_
        intro a' w' hg hs hd
        have e16 : a'.eval (.tmp 16) = .pointer (some ⟨PL, 0, none⟩) := hd ⟨3, Ground.data⟩ (by simp) rfl rfl
        have ec : ∀ v, a'.eval (.const v) = v := fun _ => rfl
        have ef : ∀ g, a'.eval (.func g) = .func (.func g) #[] #[] := fun _ => rfl
        clear hd hs
        obtain ⟨l0, l1⟩ := KL2.out.later hg
        refine wpv (v := .int .i64 (k : Int)) ?_ ⟨_, rfl, Grow.rfl' _, rfl⟩
        (generalize a'.eval = ev at ec ef e16 ⊢; simp [execOp, go_sem, *])
      · refine stepK_run hstab trivial (by intro j b h; cases h) ?_
        intro a' w' hg hs hd
        have e15 : a'.eval (.tmp 15) = .slice (some ⟨b, o, none⟩) gn gc := hd ⟨2, Ground.data⟩ (by simp) rfl rfl
        have e17 : a'.eval (.tmp 17) = .int .i64 (k : Int) := hd ⟨4, Ground.data⟩ (by simp) rfl rfl
        have ec : ∀ v, a'.eval (.const v) = v := fun _ => rfl
        have ef : ∀ g, a'.eval (.func g) = .func (.func g) #[] #[] := fun _ => rfl
        clear hd hs
        refine wpv (v := .pointer (some ⟨b, o + k * 4, none⟩)) ?_ ⟨_, rfl, Grow.rfl' _, rfl⟩
        (generalize a'.eval = ev at ec ef e15 e17 ⊢; simp [execOp, go_sem, *])
      · refine stepK_run hstab trivial (by intro j b h; cases h) ?_
        intro a' w' hg hs hd
        have e18 : a'.eval (.tmp 18) = .pointer (some ⟨b, o + k * 4, none⟩) := hd ⟨5, Ground.data⟩ (by simp) rfl rfl
        have ec : ∀ v, a'.eval (.const v) = v := fun _ => rfl
        have ef : ∀ g, a'.eval (.func g) = .func (.func g) #[] #[] := fun _ => rfl
        clear hd hs
        obtain ⟨x0, x1, x2, x3⟩ := HAT.out w' hg
        refine wpv (v := .agg #[.int .i64 xk, .int .i64 xa, .int .i64 xb, .int .i64 xd]) ?_ ⟨_, rfl, Grow.rfl' _, rfl⟩
        (generalize a'.eval = ev at ec ef e18 ⊢; simp [execOp, go_sem, *])
      · refine stepK_run hstab trivial (by intro j b h; cases h) ?_
        intro a' w' hg hs hd
        have e19 : a'.eval (.tmp 19) = .agg #[.int .i64 xk, .int .i64 xa, .int .i64 xb, .int .i64 xd] := hd ⟨6, Ground.data⟩ (by simp) rfl rfl
        have ec : ∀ v, a'.eval (.const v) = v := fun _ => rfl
        have ef : ∀ g, a'.eval (.func g) = .func (.func g) #[] #[] := fun _ => rfl
        clear hd hs
        refine wpc ?_ (Calls.mono (HCI.out w') fun e w2 ⟨he, hb⟩ => ⟨_, he, _, rfl, hb, rfl⟩)
        (generalize a'.eval = ev at ec ef e19 ⊢; simp [execOp, go_sem, *])
      · refine stepK_run hstab trivial (by intro j b h; cases h) ?_
        intro a' w' hg hs hd
        have e13 : a'.eval (.tmp 13) = .agg #[.int .i64 (k : Int), .int .i64 (-1)] := hd ⟨0, Ground.data⟩ (by simp) rfl rfl
        have e20 : a'.eval (.tmp 20) = .agg #[.int .i64 r.f, .int .i64 r.t, .int .i64 r.k, .int .i64 r.ep, .int .i64 r.x, .int .i64 r.y, .int .i64 r.z] := hd ⟨7, Ground.data⟩ (by simp) rfl rfl
        have ec : ∀ v, a'.eval (.const v) = v := fun _ => rfl
        have ef : ∀ g, a'.eval (.func g) = .func (.func g) #[] #[] := fun _ => rfl
        clear hd hs
        refine wpv (v := .agg #[.int .i64 (k : Int), .int .i64 (-1), .int .i64 r.f, .int .i64 r.t, .int .i64 r.k, .int .i64 r.ep, .int .i64 r.x, .int .i64 r.y, .int .i64 r.z]) ?_ ⟨_, rfl, Grow.rfl' _, rfl⟩
        (generalize a'.eval = ev at ec ef e13 e20 ⊢; simp [execOp, go_sem, *])
      · refine stepK_run hstab trivial (by intro j b h; cases h) ?_
        intro a' w' hg hs hd
        have e21 : a'.eval (.tmp 21) = .agg #[.int .i64 (k : Int), .int .i64 (-1), .int .i64 r.f, .int .i64 r.t, .int .i64 r.k, .int .i64 r.ep, .int .i64 r.x, .int .i64 r.y, .int .i64 r.z] := hd ⟨8, Ground.data⟩ (by simp) rfl rfl
        have ec : ∀ v, a'.eval (.const v) = v := fun _ => rfl
        have ef : ∀ g, a'.eval (.func g) = .func (.func g) #[] #[] := fun _ => rfl
        clear hd hs
        refine wpv (v := .slice (some ⟨w'.heap.size, 0, none⟩) 1 1) (w' := w'.alloc (.cells #[.int .i64 (k : Int), .int .i64 (-1), .int .i64 r.f, .int .i64 r.t, .int .i64 r.k, .int .i64 r.ep, .int .i64 r.x, .int .i64 r.y, .int .i64 r.z] 120)) ?_ ⟨_, rfl, Grow.alloc' _ _, oneP_new w' ⟨⟨(k : Int), -1⟩, r⟩⟩
        (generalize a'.eval = ev at ec ef e21 ⊢; simp [execOp, go_sem, *])
      · refine stepK_run hstab trivial (by intro j b h; cases h) ?_
        intro a' w' hg hs hd
        have hq : OneP ⟨⟨(k : Int), -1⟩, r⟩ (a'.eval (.tmp 22)) w' := hd ⟨9, Ground.data⟩ (by simp) rfl rfl
        have ec : ∀ v, a'.eval (.const v) = v := fun _ => rfl
        have ef : ∀ g, a'.eval (.func g) = .func (.func g) #[] #[] := fun _ => rfl
        clear hd hs
        refine wpv (v := a'.eval (.tmp 22)) ?_ ⟨_, rfl, Grow.rfl' _, hq⟩
        simp [execOp, go_sem]
    · intro a' w' hg hs hd
      obtain ⟨g4, e4, h4⟩ : OneP ⟨⟨(k : Int), -1⟩, r⟩ (a'.eval (.tmp 4)) w' := hd 10 (by simp) (by intro k h; cases h)
      go_wp2_with fail
      refine bodyPost_ret (v := .slice (some ⟨g4, 0, none⟩) 1 1) ?_ (by rw [hs.defers]) ⟨some ⟨g4, 0, none⟩, 1, 1, rfl, Grow.trans' G2.out hg, by rw [HE.out]; exact h4, fun a q => ?_⟩
      · clear hd hs hstab
        simpa [results, Tryz.results57, Act.eval] using e4
      · cases q
        rcases h4.2.2 with h5 | ⟨b5, o5, e5, hr5⟩
        · cases h5
        · cases e5
          exact World.block_lt_of_cell? _ _ (hr5.at 0 (by simp)).1

/-! The places of a graph, as keys. -/
theorem locs_nodup (N : List Nd) : (locs N).Nodup := by
  unfold List.Nodup locs
  refine List.Pairwise.imp ?_ (locsTo_rises N N.length)
  intro a b h e
  subst e
  rw [(ordL_zero a a).2 rfl] at h
  cases h
theorem locs_wf {N : List Nd} (hN : N.length ≤ 20) : ∀ x ∈ locs N, LcWf x := fun x hx => by
  have h1 := (mem_locs N x).1 hx
  unfold isP at h1
  simp only [Bool.and_eq_true, decide_eq_true_eq] at h1
  obtain ⟨⟨h2, h3⟩, h4⟩ := h1
  have h5 : -1 ≤ x.p ∧ x.p < 2 := by
    unfold portB at h4
    split at h4
    · omega
    · simp only [Bool.and_eq_true, decide_eq_true_eq] at h4
      have := insP_cases (nth N x.n.toNat).k
      omega
  exact ⟨WalkArith.wf_i64 ⟨by omega, by omega⟩, WalkArith.wf_i64 ⟨by omega, by omega⟩⟩
theorem locs_len {N : List Nd} : (locs N).length ≤ 3 * N.length := locsTo_len N N.length
theorem stepsAt_out (N : List Nd) (E : List Ed) (l : Lc) (h : l.p = -1) : stepsAt N E l = alongL E l.n (sameS (depP N l)) := by unfold stepsAt alongL; rw [if_pos h]
theorem stepsAt_in (N : List Nd) (E : List Ed) (l : Lc) (h : ¬ l.p = -1) : stepsAt N E l = throughL N l.n := by unfold stepsAt throughL; rw [if_neg h]
/-- A value is a row of steps. -/
def IsRowP (T : List Sp) (v : Value) (w : World) : Prop := ∃ s n c, v = .slice s n c ∧ IsSps w s n c T
theorem IsRowP.later {T : List Sp} {v : Value} {w w' : World} (hg : Grow w w') : IsRowP T v w → IsRowP T v w' := fun ⟨s, n, c, e, h⟩ => ⟨s, n, c, e, h.later hg⟩
/-- The rows of the first k places. -/
structure StpK (w : World) (b : Nat) (P : List Lc) (f : Lc → Option Value) (T : Lc → List Sp) (k : Nat) : Prop where
  map : MapL w b P f
  row : ∀ x ∈ P.take k, ∃ s n c, f x = some (.slice s n c) ∧ IsSps w s n c (T x)
theorem StpK.later {w w' : World} {b : Nat} {P : List Lc} {f : Lc → Option Value} {T : Lc → List Sp} {k : Nat} (hg : Grow w w') (h : StpK w b P f T k) : StpK w' b P f T k :=
  ⟨h.map.later hg, fun x hx => by obtain ⟨s, n, c, e, hI⟩ := h.row x hx; exact ⟨s, n, c, e, hI.later hg⟩⟩
theorem StpK.set {w : World} {b : Nat} {P : List Lc} {f : Lc → Option Value} {T : Lc → List Sp} {k : Nat} (h : StpK w b P f T k) (hP : P.length < 1000000000) (hk : k < P.length) {x0 : Lc} (hx0 : x0 = P[k]) {s : Option Addr} {n c : Nat} (hI : IsSps w s n c (T x0)) :
    ∃ w', (Instr.mapUpdate 75 (.map (some b)) (.agg #[.int .i64 x0.n, .int .i64 x0.p]) (.slice s n c)).run Tryz.prog w = .ok () w' ∧ StpK w' b P (putV f x0 (.slice s n c)) T (k + 1) ∧ w.grownBy w' (some b) := by
  subst hx0
  obtain ⟨w', h1, h2, h3⟩ := h.map.set Tryz.underlying75 hP (List.getElem_mem hk) (.slice s n c)
  obtain ⟨es, cl, hb⟩ := h.map.isMap
  refine ⟨w', h1, ⟨h2, fun x hx => ?_⟩, h3⟩
  by_cases e : x = P[k]
  · rw [e, putV_same]
    exact ⟨s, n, c, rfl, hI.mapTurn h3 hb⟩
  · rw [putV_other f _ e]
    have hx' : x ∈ P.take k := by
      rw [← List.take_append_getElem hk, List.mem_append, List.mem_singleton] at hx
      exact hx.resolve_right e
    obtain ⟨s', n', c', e', hI'⟩ := h.row x hx'
    exact ⟨s', n', c', e', hI'.mapTurn h3 hb⟩
theorem along_row (gs : Option Addr) (gn gc : Nat) (gt : Option Addr) (gm gq : Nat) (N : List Nd) (E : List Ed) (l : Lc) (hl : l.p = -1) (w : World) (hn : gn ≤ 20) (hm : gm ≤ 40) (hg : IsNds w gs gn gc N) (he : IsEds w gt gm gq E) :
    Calls Tryz.prog 56 #[.agg #[.slice gs gn gc, .slice gt gm gq], .agg #[.int .i64 l.n, .int .i64 l.p]] w fun e w' => ∃ v, e = .returned v ∧ Grow w w' ∧ IsRowP (stepsAt N E l) v w' := by
  rw [stepsAt_out N E l hl]
  exact (along_any gs gn gc gt gm gq N E l w hn hm hg he).mono fun e w' ⟨s, n, c, h1, h2, h3⟩ => ⟨_, h1, h2, s, n, c, rfl, h3.is⟩
theorem through_row (gs : Option Addr) (gn gc : Nat) (gt : Option Addr) (gm gq : Nat) (N : List Nd) (E : List Ed) (l : Lc) (hl : ¬ l.p = -1) (w : World) (hn : gn ≤ 20) (hg : IsNds w gs gn gc N) :
    Calls Tryz.prog 57 #[.agg #[.slice gs gn gc, .slice gt gm gq], .agg #[.int .i64 l.n, .int .i64 l.p]] w fun e w' => ∃ v, e = .returned v ∧ Grow w w' ∧ IsRowP (stepsAt N E l) v w' := by
  rw [stepsAt_in N E l hl]
  exact (through_any gs gn gc gt gm gq N E l w hn hg).mono fun e w' ⟨s, n, c, h1, h2, h3, _⟩ => ⟨_, h1, h2, s, n, c, rfl, h3⟩
set_option maxHeartbeats 4000000 in
theorem stepsOf_any (gs : Option Addr) (gn gc : Nat) (gt : Option Addr) (gm gq : Nat) (N : List Nd) (E : List Ed) (w : World) (hn : gn ≤ 20) (hm : gm ≤ 40) (hg : IsNds w gs gn gc N) (he : IsEds w gt gm gq E) :
    Calls Tryz.prog 31 #[.agg #[.slice gs gn gc, .slice gt gm gq]] w fun e w' => ∃ sb fs, e = .returned (.map (some sb)) ∧ Grow w w' ∧ StpM w' sb (locs N) fs (stepsAt N E) := by
  have hz : (w.alloc (.cells #[.slice gs gn gc, .slice gt gm gq] 25)).heap.size = w.heap.size + 1 := by simp
  have hNl : N.length ≤ 20 := by rw [hg.1]; exact hn
  have hPl : (locs N).length ≤ 60 := Nat.le_trans locs_len (by omega)
  have GG : Hid (Grow w (w.alloc (.cells #[.slice gs gn gc, .slice gt gm gq] 25))) := hide (Grow.alloc' _ _)
  have G1 : Hid (Grow (w.alloc (.cells #[.slice gs gn gc, .slice gt gm gq] 25)) ((w.alloc (.cells #[.slice gs gn gc, .slice gt gm gq] 25)).alloc (.map #[] 0))) := hide (Grow.alloc' _ _)
  have KG : Hid (BoxG (w.alloc (.cells #[.slice gs gn gc, .slice gt gm gq] 25)) w.heap.size ⟨gs, gn, gc, gt, gm, gq, [], []⟩) := hide (BoxG.new w ⟨gs, gn, gc, gt, gm, gq, [], []⟩)
  have HM : Hid (MapL ((w.alloc (.cells #[.slice gs gn gc, .slice gt gm gq] 25)).alloc (.map #[] 0)) (w.heap.size + 1) (locs N) fun _ => none) := hide (by rw [← hz]; exact MapL.new _ _ (locs_nodup N) (locs_wf hNl))
  have KG1 := hide (KG.out.later G1.out)
  have HN := hide (hg.later (Grow.trans' GG.out G1.out))
  have HE := hide (he.later (Grow.trans' GG.out G1.out))
  have C := hide (locs_raw gs gn gc gt gm gq N ((w.alloc (.cells #[.slice gs gn gc, .slice gt gm gq] 25)).alloc (.map #[] 0)) hn HN.out)
  obtain ⟨g0, g1⟩ := KG1.out
  dsimp only at g0 g1
  obtain ⟨P, hP⟩ : ∃ P, P = locs N := ⟨_, rfl⟩
  rw [← hP] at hPl HM C ⊢
  have HN0 := hide hg
  have HE0 := hide he
  have HPP := hide hP
  clear hg he hz hP hNl KG
  obtain ⟨PG, hPG⟩ : ∃ PG, PG = w.heap.size := ⟨_, rfl⟩
  obtain ⟨sb, hsb⟩ : ∃ sb, sb = w.heap.size + 1 := ⟨_, rfl⟩
  have hsbw : w.heap.size ≤ sb := by omega
  go_enter Tryz.func31, Tryz.ntmps31
  go_wp2_with fail
  refine C.out.mono ?_
  rintro _ w1 ⟨sx, nx, cx, rfl, hb, hO⟩
  have GW1 := hide (Grow.trans' (Grow.trans' GG.out G1.out) hb)
  have KG2 := hide (KG1.out.later hb)
  have HM1 := hide (HM.out.later hb)
  have HN1 := hide (HN.out.later hb)
  have HE1 := hide (HE.out.later hb)
  have HX := hide hO.is
  have hnx : nx ≤ 60 := by rw [← hO.1]; exact hPl
  rw [← hPG] at KG2
  rw [← hsb] at HM1
  clear hb hO g0 g1 KG1 HN HE HM C GG G1
  go_wp2_with fail
  rw [← hsb, ← hPG]
  have hgs : PG < sb := by omega
  clear hsb hPG
  have hPb : P.length < 1000000000 := by omega
  go_loopw [10] (fun ix wr => ∃ (k : Nat) (f : Lc → Option Value), k ≤ nx ∧ ix = .int .i64 k ∧ w1.grownBy wr (some sb) ∧ Grow w wr ∧ StpK wr sb P f (stepsAt N E) k) (fun ix _ => nx - (intOf ix).toNat)
  case atStart => exact ⟨0, _, Nat.zero_le _, rfl, grow_none (Grow.rfl' _) |>.but _, GW1.out, HM1.out, fun x hx => by simp at hx⟩
  case round =>
    obtain ⟨k, f, hk, rfl, hg, hgw, hS⟩ := hrel
    have HG := hide hg
    have HGW := hide hgw
    have HS := hide hS
    clear hg hgw hS
    have hmm := HM1.out.isMap
    have KG3 : Hid (BoxG wr PG ⟨gs, gn, gc, gt, gm, gq, [], []⟩) := hide ⟨cell_mapTurn KG2.out.1 HG.out hmm.choose_spec.choose_spec, cell_mapTurn KG2.out.2 HG.out hmm.choose_spec.choose_spec⟩
    by_cases hlt : k < nx
    · have hkd : k < P.length := by rw [HX.out.1]; exact hlt
      have hne : ¬ P = [] := fun h => by rw [h] at hkd; simp at hkd
      obtain ⟨be, o, rfl, hr1⟩ := HX.out.2.2.resolve_left hne
      have hr2 : RowL wr be o P := fun j v hj => cell_mapTurn (hr1 j v hj) HG.out hmm.choose_spec.choose_spec
      obtain ⟨p0, p1⟩ := hr2.at k hkd
      obtain ⟨y, hy⟩ : ∃ y, y = P[k] := ⟨_, rfl⟩
      have HY := hide hy
      rw [← hy] at p0 p1
      have hi1 : (0 : Int) ≤ (k : Int) := by omega
      have hi2 : (k : Int) < (nx : Int) := by omega
      clear hne hr1 hr2 hy hmm
      go_wp2_with (refine wpList_putL' rfl _ _ rfl wr.heap.size y rfl rfl (BlkL.new wr) wr (Grow.alloc' _ _) (Nat.le_refl _) ?_)
      intro w2 hg2 hb2
      have HG2 : Hid (w1.grownBy w2 (some sb)) := hide (HG.out.andThen (grow_none hg2) (fun j e => by cases e))
      have HW2 := hide (Grow.trans' HGW.out hg2)
      have HS2 := hide (HS.out.later hg2)
      have KG4 := hide (KG3.out.later hg2)
      have KY := hide hb2
      have HN2 := hide (HN0.out.later HW2.out)
      have HE2 := hide (HE0.out.later HW2.out)
      obtain ⟨PY, hPY⟩ : ∃ PY, PY = wr.heap.size := ⟨_, rfl⟩
      rw [← hPY] at KY
      obtain ⟨yn, yp⟩ := y
      obtain ⟨y0, y1⟩ := KY.out.1
      dsimp only at y0 y1
      rw [hPY] at y0 y1
      clear hg2 hb2 p0 p1 HG HGW HS KG3
      by_cases hpt : yp = -1
      · subst hpt
        go_wp2_with fail
        rw [← hPY]
        clear hPY y0 y1
        have HGG : ∀ wa wb, Grow w2 wa → Grow wa wb → Grow w2 wb := fun _ _ h q => Grow.trans' h q
        have HBG : ∀ wa wb, Grow wa wb → True → True := fun _ _ _ h => h
        have HG0 : ∀ w', Grow w2 w' → w'.heap = w2.heap → Grow w2 w' := fun _ h _ => h
        have HB0 : ∀ w', Grow w2 w' → w'.heap = w2.heap → True := fun _ _ _ => trivial
        let FF : Nat → Value → World → Prop := fun i vF wF => match i with | 0 => vF = .map (some sb) | 1 => vF = .agg #[.int .i64 yn, .int .i64 (-1)] | 2 => vF = .agg #[.slice gs gn gc, .slice gt gm gq] | 3 => vF = .agg #[.int .i64 yn, .int .i64 (-1)] | 4 => IsRowP (stepsAt N E ⟨yn, -1⟩) vF wF | _ => True
        let GG : World → Prop := fun w' => Grow w2 w'
        let BB : World → Prop := fun w' => True
        have hstab : ∀ k v w1 w2, Grow w1 w2 → FF k v w1 → FF k v w2 := by
          intro k v w1 w2 hg h
          match k with
          | 0 => exact h
          | 1 => exact h
          | 2 => exact h
          | 3 => exact h
          | 4 => exact IsRowP.later hg h
          | k + 5 => exact trivial
        have hGg : ∀ w1 w2, GG w1 → Grow w1 w2 → GG w2 := HGG
        have hBg : ∀ w1 w2, Grow w1 w2 → BB w1 → BB w2 := HBG
        refine wp_region_endG FF GG BB (fun _ => none) 999 5 _ rfl rfl rfl (by kernel_rfl) (by kernel_rfl) HG0 HB0 ?_ ?_
        · refine ⟨?_, ?_, ?_, ?_, ?_, trivial⟩
          · refine stepG_run hGg hBg hstab rfl ?_
            intro a' w' hg hs hd hb
            have e3 : a'.eval (.tmp 3) = .map (some sb) := hs.rest 3 rfl
            have ec : ∀ v, a'.eval (.const v) = v := fun _ => rfl
            have ef : ∀ g, a'.eval (.func g) = .func (.func g) #[] #[] := fun _ => rfl
            clear hd hs
            refine wpv (v := .map (some sb)) ?_ ⟨_, rfl, Grow.rfl' _, rfl⟩
            (generalize a'.eval = ev at ec ef e3 ⊢; simp [execOp, go_sem, *])
          · refine stepG_run hGg hBg hstab rfl ?_
            intro a' w' hg hs hd hb
            have e5 : a'.eval (.tmp 5) = .pointer (some ⟨PY, 0, none⟩) := hs.rest 5 rfl
            have ec : ∀ v, a'.eval (.const v) = v := fun _ => rfl
            have ef : ∀ g, a'.eval (.func g) = .func (.func g) #[] #[] := fun _ => rfl
            obtain ⟨y0, y1⟩ := (KY.out.later hg).1
            clear hd hs
            refine wpv (v := .agg #[.int .i64 yn, .int .i64 (-1)]) ?_ ⟨_, rfl, Grow.rfl' _, rfl⟩
            (generalize a'.eval = ev at ec ef e5 ⊢; simp [execOp, go_sem, *])
          · refine stepG_run hGg hBg hstab rfl ?_
            intro a' w' hg hs hd hb
            have e1 : a'.eval (.tmp 1) = .pointer (some ⟨PG, 0, none⟩) := hs.rest 1 rfl
            have ec : ∀ v, a'.eval (.const v) = v := fun _ => rfl
            have ef : ∀ g, a'.eval (.func g) = .func (.func g) #[] #[] := fun _ => rfl
            obtain ⟨g0, g1⟩ := KG4.out.later hg
            clear hd hs
            refine wpv (v := .agg #[.slice gs gn gc, .slice gt gm gq]) ?_ ⟨_, rfl, Grow.rfl' _, rfl⟩
            (generalize a'.eval = ev at ec ef e1 ⊢; simp [execOp, go_sem, *])
          · refine stepG_run hGg hBg hstab rfl ?_
            intro a' w' hg hs hd hb
            have e5 : a'.eval (.tmp 5) = .pointer (some ⟨PY, 0, none⟩) := hs.rest 5 rfl
            have ec : ∀ v, a'.eval (.const v) = v := fun _ => rfl
            have ef : ∀ g, a'.eval (.func g) = .func (.func g) #[] #[] := fun _ => rfl
            obtain ⟨y0, y1⟩ := (KY.out.later hg).1
            clear hd hs
            refine wpv (v := .agg #[.int .i64 yn, .int .i64 (-1)]) ?_ ⟨_, rfl, Grow.rfl' _, rfl⟩
            (generalize a'.eval = ev at ec ef e5 ⊢; simp [execOp, go_sem, *])
          · refine stepG_run hGg hBg hstab rfl ?_
            intro a' w' hg hs hd hb
            have e19 : a'.eval (.tmp 19) = .agg #[.slice gs gn gc, .slice gt gm gq] := hd ⟨2, Ground.data⟩ (by simp) rfl rfl
            have e20 : a'.eval (.tmp 20) = .agg #[.int .i64 yn, .int .i64 (-1)] := hd ⟨3, Ground.data⟩ (by simp) rfl rfl
            have ec : ∀ v, a'.eval (.const v) = v := fun _ => rfl
            have ef : ∀ g, a'.eval (.func g) = .func (.func g) #[] #[] := fun _ => rfl
            clear hd hs
            refine wpc ?_ (Calls.mono (along_row gs gn gc gt gm gq N E ⟨yn, -1⟩ rfl w' hn hm (HN2.out.later hg) (HE2.out.later hg)) fun e w2 ⟨v, he, hb, hv⟩ => ⟨v, he, _, rfl, hb, hv⟩)
            (generalize a'.eval = ev at ec ef e19 e20 ⊢; simp [execOp, go_sem, *])
        · intro a' w' hg hs hd
          have e17 : a'.eval (.tmp 17) = .map (some sb) := hd 0 (by omega) rfl
          have e18 : a'.eval (.tmp 18) = .agg #[.int .i64 yn, .int .i64 (-1)] := hd 1 (by omega) rfl
          obtain ⟨s21, n21, c21, e21, h21⟩ : IsRowP (stepsAt N E ⟨yn, -1⟩) (a'.eval (.tmp 21)) w' := hd 4 (by omega) rfl
          have ec : ∀ v, a'.eval (.const v) = v := fun _ => rfl
          have ef : ∀ g, a'.eval (.func g) = .func (.func g) #[] #[] := fun _ => rfl
          obtain ⟨w3, hrun, hS3, hg3⟩ := (HS2.out.later hg).set hPb hkd HY.out h21
          refine wps (w' := w3) ?_ ?_
          · (generalize a'.eval = ev at ec ef e17 e18 e21 ⊢; simp [execOp, go_sem, *])
          have HG3 : Hid (w1.grownBy w3 (some sb)) := hide ((HG2.out.andThen (grow_none hg) (fun j e => by cases e)).andThen hg3 (fun j e => .inr e))
          have HW3 := hide (growL_step (Grow.trans' HW2.out hg) hg3 hsbw)
          have HS3 := hide hS3
          clear hrun hS3 hg3 h21 e21 e18 ec ef hg HGG HBG HG0 HB0 hGg hBg hstab
          rw [frame_eq hs [false, false, false, false, false, false, false, false, false, false, false, false, false, false, false, false, false, true, true, true, true, true, false, false, false, false, false, false, false] (by kernel_rfl)]; simp only [mergeL]; clear hs hd; generalize a'.tmps = TT at *; try go_frame
          go_wp2_with fail
          go_roundw
          case rel => exact ⟨k + 1, _, by omega, by go_num, HG3.out, HW3.out, HS3.out⟩
          case measure => simp [intOf]; omega
      · skip
        go_wp2_with fail
        rw [← hPY]
        clear hPY y0 y1
        have HGG : ∀ wa wb, Grow w2 wa → Grow wa wb → Grow w2 wb := fun _ _ h q => Grow.trans' h q
        have HBG : ∀ wa wb, Grow wa wb → True → True := fun _ _ _ h => h
        have HG0 : ∀ w', Grow w2 w' → w'.heap = w2.heap → Grow w2 w' := fun _ h _ => h
        have HB0 : ∀ w', Grow w2 w' → w'.heap = w2.heap → True := fun _ _ _ => trivial
        let FF : Nat → Value → World → Prop := fun i vF wF => match i with | 0 => vF = .map (some sb) | 1 => vF = .agg #[.int .i64 yn, .int .i64 yp] | 2 => vF = .agg #[.slice gs gn gc, .slice gt gm gq] | 3 => vF = .agg #[.int .i64 yn, .int .i64 yp] | 4 => IsRowP (stepsAt N E ⟨yn, yp⟩) vF wF | _ => True
        let GG : World → Prop := fun w' => Grow w2 w'
        let BB : World → Prop := fun w' => True
        have hstab : ∀ k v w1 w2, Grow w1 w2 → FF k v w1 → FF k v w2 := by
          intro k v w1 w2 hg h
          match k with
          | 0 => exact h
          | 1 => exact h
          | 2 => exact h
          | 3 => exact h
          | 4 => exact IsRowP.later hg h
          | k + 5 => exact trivial
        have hGg : ∀ w1 w2, GG w1 → Grow w1 w2 → GG w2 := HGG
        have hBg : ∀ w1 w2, Grow w1 w2 → BB w1 → BB w2 := HBG
        refine wp_region_endG FF GG BB (fun _ => none) 999 5 _ rfl rfl rfl (by kernel_rfl) (by kernel_rfl) HG0 HB0 ?_ ?_
        · refine ⟨?_, ?_, ?_, ?_, ?_, trivial⟩
          · refine stepG_run hGg hBg hstab rfl ?_
            intro a' w' hg hs hd hb
            have e3 : a'.eval (.tmp 3) = .map (some sb) := hs.rest 3 rfl
            have ec : ∀ v, a'.eval (.const v) = v := fun _ => rfl
            have ef : ∀ g, a'.eval (.func g) = .func (.func g) #[] #[] := fun _ => rfl
            clear hd hs
            refine wpv (v := .map (some sb)) ?_ ⟨_, rfl, Grow.rfl' _, rfl⟩
            (generalize a'.eval = ev at ec ef e3 ⊢; simp [execOp, go_sem, *])
          · refine stepG_run hGg hBg hstab rfl ?_
            intro a' w' hg hs hd hb
            have e5 : a'.eval (.tmp 5) = .pointer (some ⟨PY, 0, none⟩) := hs.rest 5 rfl
            have ec : ∀ v, a'.eval (.const v) = v := fun _ => rfl
            have ef : ∀ g, a'.eval (.func g) = .func (.func g) #[] #[] := fun _ => rfl
            obtain ⟨y0, y1⟩ := (KY.out.later hg).1
            clear hd hs
            refine wpv (v := .agg #[.int .i64 yn, .int .i64 yp]) ?_ ⟨_, rfl, Grow.rfl' _, rfl⟩
            (generalize a'.eval = ev at ec ef e5 ⊢; simp [execOp, go_sem, *])
          · refine stepG_run hGg hBg hstab rfl ?_
            intro a' w' hg hs hd hb
            have e1 : a'.eval (.tmp 1) = .pointer (some ⟨PG, 0, none⟩) := hs.rest 1 rfl
            have ec : ∀ v, a'.eval (.const v) = v := fun _ => rfl
            have ef : ∀ g, a'.eval (.func g) = .func (.func g) #[] #[] := fun _ => rfl
            obtain ⟨g0, g1⟩ := KG4.out.later hg
            clear hd hs
            refine wpv (v := .agg #[.slice gs gn gc, .slice gt gm gq]) ?_ ⟨_, rfl, Grow.rfl' _, rfl⟩
            (generalize a'.eval = ev at ec ef e1 ⊢; simp [execOp, go_sem, *])
          · refine stepG_run hGg hBg hstab rfl ?_
            intro a' w' hg hs hd hb
            have e5 : a'.eval (.tmp 5) = .pointer (some ⟨PY, 0, none⟩) := hs.rest 5 rfl
            have ec : ∀ v, a'.eval (.const v) = v := fun _ => rfl
            have ef : ∀ g, a'.eval (.func g) = .func (.func g) #[] #[] := fun _ => rfl
            obtain ⟨y0, y1⟩ := (KY.out.later hg).1
            clear hd hs
            refine wpv (v := .agg #[.int .i64 yn, .int .i64 yp]) ?_ ⟨_, rfl, Grow.rfl' _, rfl⟩
            (generalize a'.eval = ev at ec ef e5 ⊢; simp [execOp, go_sem, *])
          · refine stepG_run hGg hBg hstab rfl ?_
            intro a' w' hg hs hd hb
            have e24 : a'.eval (.tmp 24) = .agg #[.slice gs gn gc, .slice gt gm gq] := hd ⟨2, Ground.data⟩ (by simp) rfl rfl
            have e25 : a'.eval (.tmp 25) = .agg #[.int .i64 yn, .int .i64 yp] := hd ⟨3, Ground.data⟩ (by simp) rfl rfl
            have ec : ∀ v, a'.eval (.const v) = v := fun _ => rfl
            have ef : ∀ g, a'.eval (.func g) = .func (.func g) #[] #[] := fun _ => rfl
            clear hd hs
            refine wpc ?_ (Calls.mono (through_row gs gn gc gt gm gq N E ⟨yn, yp⟩ hpt w' hn (HN2.out.later hg)) fun e w2 ⟨v, he, hb, hv⟩ => ⟨v, he, _, rfl, hb, hv⟩)
            (generalize a'.eval = ev at ec ef e24 e25 ⊢; simp [execOp, go_sem, *])
        · intro a' w' hg hs hd
          have e22 : a'.eval (.tmp 22) = .map (some sb) := hd 0 (by omega) rfl
          have e23 : a'.eval (.tmp 23) = .agg #[.int .i64 yn, .int .i64 yp] := hd 1 (by omega) rfl
          obtain ⟨s26, n26, c26, e26, h26⟩ : IsRowP (stepsAt N E ⟨yn, yp⟩) (a'.eval (.tmp 26)) w' := hd 4 (by omega) rfl
          have ec : ∀ v, a'.eval (.const v) = v := fun _ => rfl
          have ef : ∀ g, a'.eval (.func g) = .func (.func g) #[] #[] := fun _ => rfl
          obtain ⟨w3, hrun, hS3, hg3⟩ := (HS2.out.later hg).set hPb hkd HY.out h26
          refine wps (w' := w3) ?_ ?_
          · (generalize a'.eval = ev at ec ef e22 e23 e26 ⊢; simp [execOp, go_sem, *])
          have HG3 : Hid (w1.grownBy w3 (some sb)) := hide ((HG2.out.andThen (grow_none hg) (fun j e => by cases e)).andThen hg3 (fun j e => .inr e))
          have HW3 := hide (growL_step (Grow.trans' HW2.out hg) hg3 hsbw)
          have HS3 := hide hS3
          clear hrun hS3 hg3 h26 e26 e23 ec ef hg HGG HBG HG0 HB0 hGg hBg hstab
          rw [frame_eq hs [false, false, false, false, false, false, false, false, false, false, false, false, false, false, false, false, false, false, false, false, false, false, true, true, true, true, true, false, false] (by kernel_rfl)]; simp only [mergeL]; clear hs hd; generalize a'.tmps = TT at *; try go_frame
          go_wp2_with fail
          go_roundw
          case rel => exact ⟨k + 1, _, by omega, by go_num, HG3.out, HW3.out, HS3.out⟩
          case measure => simp [intOf]; omega
    · have hi2 : ¬ (k : Int) < (nx : Int) := by omega
      have hT : P.take k = P := List.take_of_length_le (by rw [HX.out.1]; omega)
      have HF : Hid (StpM wr sb P f (stepsAt N E)) := hide ⟨HS.out.map, fun x hx => HS.out.row x (by rw [hT]; exact hx)⟩
      clear hT
      go_wp2_with fail
      go_ret
      first
        | exact ⟨sb, f, rfl, HGW.out, HF.out⟩
        | exact ⟨sb, rfl, HGW.out, f, HF.out⟩

end Go.Proofs.YtehianjfpmbfpaaGreat
