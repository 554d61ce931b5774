import Derived.Test.YtehianjfpmbfpaaGreatQLoZ
import Derived.Test.YtehianjfpmbfpaaGreatHInnZ
import Derived.Test.YtehianjfpmbfpaaGreatSNdZ
import Derived.Test.YtehianjfpmbfpaaGreatEndGZ
import Derived.Test.YtehianjfpmbfpaaGreatSAp
import Derived.Lib.QuietBelow
section
/-
  What along, through and stepsOf do to the world: the steps from each place of a graph, each place's in a row of its own, in a map of the call's own; what was there stays as it was.
-/
namespace Go.Proofs.YtehianjfpmbfpaaGreat
set_option maxRecDepth 100000
open Go.RowKit Go.Maps Go.Deep
set_option linter.unusedVariables false
set_option linter.unusedSimpArgs false
attribute [local go_sem ↓] run_makeMap

/-- A slice of steps that the call owns, at the end of append. -/
def AppP (base n : Nat) (d : List Sp) (v : Value) (w : World) : Prop := ∃ s2 c2, v = .slice s2 n c2 ∧ OwnP w base s2 n c2 d ∧ True
theorem AppP.later {base n : Nat} {d : List Sp} {v : Value} {w w' : World} (hg : Grow w w') : AppP base n d v w → AppP base n d v w' := fun ⟨s2, c2, e, h, l⟩ => ⟨s2, c2, e, h.later hg, l⟩
/-- A new slice of one step. -/
def OneP (t : Sp) (v : Value) (w : World) : Prop := ∃ g, v = .slice (some ⟨g, 0, none⟩) 1 1 ∧ IsSps w (some ⟨g, 0, none⟩) 1 1 [t]
theorem OneP.later {t : Sp} {v : Value} {w w' : World} (hg : Grow w w') : OneP t v w → OneP t v w' := fun ⟨g, e, h⟩ => ⟨g, e, h.later hg⟩
theorem oneP_new (w : World) (t : Sp) : OneP t (.slice (some ⟨w.heap.size, 0, none⟩) 1 1) (w.alloc (.cells #[.int .i64 t.b.n, .int .i64 t.b.p, .int .i64 t.r.f, .int .i64 t.r.t, .int .i64 t.r.k, .int .i64 t.r.ep, .int .i64 t.r.x, .int .i64 t.r.y, .int .i64 t.r.z] 120)) := ⟨_, rfl, isSps_one w t⟩
theorem run_apP {ws w : World} (hg : Grow ws w) (rt : TypeId) (s : Option Addr) (n cap : Nat) (d e : List Sp) (hown : OwnP w ws.heap.size s n cap d) (s' : Option Addr) (m c : Nat) (he : IsSps w s' m c e) (hlen : n + m ≤ 1000000000000) :
    ∃ s2 c2 w2, (Builtin.append_ #[96, 96] rt #[.slice s n cap, .slice s' m c]).run Tryz.prog w = .ok (.slice s2 (n + m) c2) w2
      ∧ OwnP w2 ws.heap.size s2 (n + m) c2 (d ++ e) ∧ (Grow ws w2 ∧ ∀ q y, FixL w q y → FixL w2 q y) ∧ True := by
  obtain ⟨s2, c2, w2, h1, h2, h3⟩ := run_ap_sp w rt ws.heap.size s n cap d e hown s' m c he hlen hg.size
  refine ⟨s2, c2, w2, h1, h2, ⟨(GrewBut.mk h3 fun b hb => (hown.lt b hb).2).grow hg (Nat.le_refl _), fun q y h => h.keep ?_⟩, trivial⟩
  obtain ⟨cs, r, hq⟩ := h.2
  refine h3.block q (Array.getElem?_eq_some_iff.1 hq).1 fun k => ?_
  rcases hown.2.1.2 with ⟨h', _⟩ | ⟨g, cap', cur, h', hb, hgb, _⟩
  · simp only [Value.slice.injEq] at h'
    rw [h'.1] at k; cases k
  · simp only [Value.slice.injEq] at h'
    rw [h'.1] at k
    simp at k
    rw [k, hgb] at hq
    cases hq
theorem samS_at (d : Int) {r : Sm} (h : sameS d = r) (w : World) : Calls Tryz.prog 33 #[.int .i64 d] w fun e w' => e = .returned (.agg #[.int .i64 r.f, .int .i64 r.t, .int .i64 r.k, .int .i64 r.ep, .int .i64 r.x, .int .i64 r.y, .int .i64 r.z]) ∧ Grow w w' := by rw [← h]; exact same_any d w
def alongL (E : List Ed) (n : Int) (r : Sm) : List Sp := (nextP E n).map fun b => ⟨b, r⟩
set_option maxHeartbeats 4000000 in
theorem along_any (gs : Option Addr) (gn gc : Nat) (gt : Option Addr) (gm gq : Nat) (N : List Nd) (E : List Ed) (l : Lc) (w : World) (hn : gn ≤ 20) (hm : gm ≤ 40) (hg : IsNds w gs gn gc N) (he : IsEds w gt gm gq E) :
    Calls Tryz.prog 56 #[.agg #[.slice gs gn gc, .slice gt gm gq], .agg #[.int .i64 l.n, .int .i64 l.p]] w fun e w' => ∃ s n c, e = .returned (.slice s n c) ∧ Grow w w' ∧ OwnP w' w.heap.size s n c (alongL E l.n (sameS (depP N l))) := by
  have hz : (w.alloc (.cells #[.slice gs gn gc, .slice gt gm gq] 25)).heap.size = w.heap.size + 1 := by simp
  have GG : Hid (Grow w ((w.alloc (.cells #[.slice gs gn gc, .slice gt gm gq] 25)).alloc (.cells #[.int .i64 l.n, .int .i64 l.p] 27))) := hide (Grow.trans' (Grow.alloc' _ _) (Grow.alloc' _ _))
  have KG : Hid (BoxG ((w.alloc (.cells #[.slice gs gn gc, .slice gt gm gq] 25)).alloc (.cells #[.int .i64 l.n, .int .i64 l.p] 27)) w.heap.size ⟨gs, gn, gc, gt, gm, gq, [], []⟩) := hide ((BoxG.new w ⟨gs, gn, gc, gt, gm, gq, [], []⟩).later (Grow.alloc' _ _))
  have KL : Hid (BoxL ((w.alloc (.cells #[.slice gs gn gc, .slice gt gm gq] 25)).alloc (.cells #[.int .i64 l.n, .int .i64 l.p] 27)) (w.heap.size + 1) l) := hide (by rw [← hz]; exact BoxL.new _ l)
  have HN := hide (hg.later GG.out)
  have HE := hide (he.later GG.out)
  have C := hide (next_raw gs gn gc gt gm gq E l.n ((w.alloc (.cells #[.slice gs gn gc, .slice gt gm gq] 25)).alloc (.cells #[.int .i64 l.n, .int .i64 l.p] 27)) hm HE.out)
  obtain ⟨g0, g1⟩ := KG.out
  obtain ⟨l0, l1⟩ := KL.out
  dsimp only at g0 g1
  obtain ⟨r, hr⟩ : ∃ r, sameS (depP N l) = r := ⟨_, rfl⟩
  rw [hr]
  have HR := hide hr
  clear hg he hz hr
  go_enter Tryz.func56, Tryz.ntmps56
  go_wp2_with fail
  refine C.out.mono ?_
  rintro _ w1 ⟨sx, nx, cx, rfl, hb, hO⟩
  have G1 := hide (Grow.trans' GG.out hb)
  have KG1 := hide (KG.out.later hb)
  have KL1 := hide (KL.out.later hb)
  have HN1 := hide (HN.out.later hb)
  have HX := hide hO.is
  have hnx : nx ≤ 40 := by
    have h1 := nextP_len E l.n
    have h2 := HE.out.1
    rw [← hO.1]; omega
  obtain ⟨PG, hPG⟩ : ∃ PG, PG = w.heap.size := ⟨_, rfl⟩
  obtain ⟨PL, hPL⟩ : ∃ PL, PL = w.heap.size + 1 := ⟨_, rfl⟩
  rw [← hPG] at KG1
  rw [← hPL] at KL1
  clear hb hO g0 g1 l0 l1 KG KL HN HE C GG
  go_wp2_with fail
  rw [← hPL, ← hPG]
  clear hPL hPG
  obtain ⟨M, hM⟩ : ∃ M, M = nextP E l.n := ⟨_, rfl⟩
  rw [← hM] at HX
  have HMM := hide hM
  clear hM
  go_loopw [5, 13] (fun v ix wr => ∃ (k : Nat) (s : Option Addr) (m c : Nat), k ≤ nx ∧ m ≤ k ∧ v = .slice s m c ∧ ix = .int .i64 k ∧ Grow w1 wr ∧ OwnP wr w1.heap.size s m c ((M.take k).map fun b => ⟨b, r⟩)) (fun _ ix _ => nx - (intOf ix).toNat)
  case atStart => exact ⟨0, none, 0, 0, Nat.zero_le _, Nat.le_refl _, rfl, rfl, Grow.rfl' _, by simpa using OwnP.nil w1 w1.heap.size⟩
  case round =>
    obtain ⟨k, s, m, c, hk, hmk, rfl, rfl, hg, hO⟩ := hrel
    have HG := hide hg
    have HO := hide hO
    have hsz := hg.size
    clear hO
    by_cases hlt : k < nx
    · have hkd : k < M.length := by rw [HX.out.1]; exact hlt
      have hne : ¬ M = [] := fun h => by rw [h] at hkd; simp at hkd
      obtain ⟨be, o, rfl, hr1⟩ := HX.out.2.2.resolve_left hne
      obtain ⟨p0, p1⟩ := (hr1.later hg).at k hkd
      have HS : Hid ((M.take (k + 1)).map (fun b => (⟨b, r⟩ : Sp)) = (M.take k).map (fun b => (⟨b, r⟩ : Sp)) ++ [⟨M[k], r⟩]) := hide (by rw [← List.take_append_getElem hkd, List.map_append]; rfl)
      obtain ⟨y, hy⟩ : ∃ y, y = M[k] := ⟨_, rfl⟩
      rw [← hy] at p0 p1 HS
      have hi1 : (0 : Int) ≤ (k : Int) := by omega
      have hi2 : (k : Int) < (nx : Int) := by omega
      clear hne hr1 hy hkd hg
      obtain ⟨A, hA⟩ : ∃ A, A = (M.take k).map fun b => (⟨b, r⟩ : Sp) := ⟨_, rfl⟩
      rw [← hA] at HS HO
      clear hA
      go_wp2_with (refine wpList_putL' rfl _ _ rfl wr.heap.size y rfl rfl (BlkL.new wr) wr (Grow.alloc' _ _) (Nat.le_refl _) ?_)
      intro w2 hg2 hb2
      have G2 := hide (Grow.trans' HG.out hg2)
      have O2 := hide (HO.out.later hg2)
      have KY := hide hb2
      clear hg2 hb2 p0 p1 HG HO
      obtain ⟨PY, hPY⟩ : ∃ PY, PY = wr.heap.size := ⟨_, rfl⟩
      rw [← hPY] at KY
      go_wp2_with fail
      rw [← hPY]
      clear hPY
      have HGG : ∀ wa wb, Grow w1 wa ∧ FixL wa PY y → Grow wa wb → Grow w1 wb ∧ FixL wb PY y := fun _ _ h q => ⟨Grow.trans' h.1 q, h.2.later q⟩
      have HBG : ∀ wa wb, Grow wa wb → OwnP wa w1.heap.size s m c A → OwnP wb w1.heap.size s m c A := fun _ _ q h => h.later q
      have HG0 : ∀ w', Grow w2 w' → w'.heap = w2.heap → Grow w1 w' ∧ FixL w' PY y := fun _ h _ => ⟨Grow.trans' G2.out h, KY.out.later h⟩
      have HB0 : ∀ w', Grow w2 w' → w'.heap = w2.heap → OwnP w' w1.heap.size s m c A := fun _ h _ => O2.out.later h
      have HKG : ∀ w', Grow w1 w' → w'.cell? ⟨PG, 0, none⟩ = some (.slice gs gn gc) ∧ w'.cell? ⟨PG, 1, none⟩ = some (.slice gt gm gq) := fun w' h => KG1.out.later h
      have HKL : ∀ w', Grow w1 w' → w'.cell? ⟨PL, 0, none⟩ = some (.int .i64 l.n) ∧ w'.cell? ⟨PL, 1, none⟩ = some (.int .i64 l.p) := fun w' h => KL1.out.later h
      let FF : Nat → Value → World → Prop := fun i vF wF => match i with | 0 => vF = .slice s m c | 1 => vF = .agg #[.int .i64 y.n, .int .i64 y.p] | 2 => vF = .agg #[.slice gs gn gc, .slice gt gm gq] | 3 => vF = .agg #[.int .i64 l.n, .int .i64 l.p] | 4 => vF = .int .i64 (depP N l) | 5 => vF = .agg #[.int .i64 r.f, .int .i64 r.t, .int .i64 r.k, .int .i64 r.ep, .int .i64 r.x, .int .i64 r.y, .int .i64 r.z] | 6 => vF = .agg #[.int .i64 y.n, .int .i64 y.p, .int .i64 r.f, .int .i64 r.t, .int .i64 r.k, .int .i64 r.ep, .int .i64 r.x, .int .i64 r.y, .int .i64 r.z] | 7 => OneP ⟨y, r⟩ vF wF | 8 => AppP w1.heap.size (m + 1) (A ++ [⟨y, r⟩]) vF wF | _ => True
      let GG : World → Prop := fun w' => Grow w1 w' ∧ FixL w' PY y
      let BB : World → Prop := fun w' => OwnP w' w1.heap.size s m c A
      have hstab : ∀ k v w1 w2, Grow w1 w2 → FF k v w1 → FF k v w2 := by
        intro k v w1 w2 hg h
        match k with
        | 0 => exact h
        | 1 => exact h
        | 2 => exact h
        | 3 => exact h
        | 4 => exact h
        | 5 => exact h
        | 6 => exact h
        | 7 => exact OneP.later hg h
        | 8 => exact AppP.later hg h
        | k + 9 => exact trivial
      have hGg : ∀ w1 w2, GG w1 → Grow w1 w2 → GG w2 := HGG
      have hBg : ∀ w1 w2, Grow w1 w2 → BB w1 → BB w2 := HBG
      refine wp_region_endG FF GG BB (fun i => match i with | 7 => some 8 | _ => none) 8 9 _ rfl rfl rfl (by kernel_rfl) (by kernel_rfl) HG0 HB0 ?_ ?_
      · refine ⟨?_, ?_, ?_, ?_, ?_, ?_, ?_, ?_, ?_, trivial⟩
        · refine stepG_run hGg hBg hstab rfl ?_
          intro a' w' hg hs hd hb
          have e5 : a'.eval (.tmp 5) = .slice s m c := hs.rest 5 rfl
          have ec : ∀ v, a'.eval (.const v) = v := fun _ => rfl
          have ef : ∀ g, a'.eval (.func g) = .func (.func g) #[] #[] := fun _ => rfl
          clear hd hs
          refine wpv (v := .slice s m c) ?_ ⟨_, rfl, Grow.rfl' _, rfl⟩
          (generalize a'.eval = ev at ec ef e5 ⊢; simp [execOp, go_sem, *])
        · refine stepG_run hGg hBg hstab rfl ?_
          intro a' w' hg hs hd hb
          have e7 : a'.eval (.tmp 7) = .pointer (some ⟨PY, 0, none⟩) := hs.rest 7 rfl
          have ec : ∀ v, a'.eval (.const v) = v := fun _ => rfl
          have ef : ∀ g, a'.eval (.func g) = .func (.func g) #[] #[] := fun _ => rfl
          obtain ⟨y0, y1⟩ := hg.2.1
          clear hd hs
          refine wpv (v := .agg #[.int .i64 y.n, .int .i64 y.p]) ?_ ⟨_, rfl, Grow.rfl' _, rfl⟩
          (generalize a'.eval = ev at ec ef e7 ⊢; simp [execOp, go_sem, *])
        · refine stepG_run hGg hBg hstab rfl ?_
          intro a' w' hg hs hd hb
          have e2 : a'.eval (.tmp 2) = .pointer (some ⟨PG, 0, none⟩) := hs.rest 2 rfl
          have ec : ∀ v, a'.eval (.const v) = v := fun _ => rfl
          have ef : ∀ g, a'.eval (.func g) = .func (.func g) #[] #[] := fun _ => rfl
          obtain ⟨g0, g1⟩ := HKG w' hg.1
          clear hd hs
          refine wpv (v := .agg #[.slice gs gn gc, .slice gt gm gq]) ?_ ⟨_, rfl, Grow.rfl' _, rfl⟩
          (generalize a'.eval = ev at ec ef e2 ⊢; simp [execOp, go_sem, *])
        · refine stepG_run hGg hBg hstab rfl ?_
          intro a' w' hg hs hd hb
          have e3 : a'.eval (.tmp 3) = .pointer (some ⟨PL, 0, none⟩) := hs.rest 3 rfl
          have ec : ∀ v, a'.eval (.const v) = v := fun _ => rfl
          have ef : ∀ g, a'.eval (.func g) = .func (.func g) #[] #[] := fun _ => rfl
          obtain ⟨l0, l1⟩ := HKL w' hg.1
          clear hd hs
          refine wpv (v := .agg #[.int .i64 l.n, .int .i64 l.p]) ?_ ⟨_, rfl, Grow.rfl' _, rfl⟩
          (generalize a'.eval = ev at ec ef e3 ⊢; simp [execOp, go_sem, *])
        · refine stepG_run hGg hBg hstab rfl ?_
          intro a' w' hg hs hd hb
          have e19 : a'.eval (.tmp 19) = .agg #[.slice gs gn gc, .slice gt gm gq] := hd ⟨2, Ground.data⟩ (by simp) rfl rfl
          have e20 : a'.eval (.tmp 20) = .agg #[.int .i64 l.n, .int .i64 l.p] := hd ⟨3, Ground.data⟩ (by simp) rfl rfl
          have ec : ∀ v, a'.eval (.const v) = v := fun _ => rfl
          have ef : ∀ g, a'.eval (.func g) = .func (.func g) #[] #[] := fun _ => rfl
          clear hd hs
          refine wpc ?_ (Calls.mono (dep_raw gs gn gc gt gm gq N l.n l.p w' hn (HN1.out.later hg.1)) fun e w2 ⟨he, hb⟩ => ⟨_, he, _, rfl, hb, rfl⟩)
          (generalize a'.eval = ev at ec ef e19 e20 ⊢; simp [execOp, go_sem, *])
        · refine stepG_run hGg hBg hstab rfl ?_
          intro a' w' hg hs hd hb
          have e21 : a'.eval (.tmp 21) = .int .i64 (depP N l) := hd ⟨4, Ground.data⟩ (by simp) rfl rfl
          have ec : ∀ v, a'.eval (.const v) = v := fun _ => rfl
          have ef : ∀ g, a'.eval (.func g) = .func (.func g) #[] #[] := fun _ => rfl
          clear hd hs
          refine wpc ?_ (Calls.mono (samS_at (depP N l) HR.out w') fun e w2 ⟨he, hb⟩ => ⟨_, he, _, rfl, hb, rfl⟩)
          (generalize a'.eval = ev at ec ef e21 ⊢; simp [execOp, go_sem, *])
        · refine stepG_run hGg hBg hstab rfl ?_
          intro a' w' hg hs hd hb
          have e18 : a'.eval (.tmp 18) = .agg #[.int .i64 y.n, .int .i64 y.p] := hd ⟨1, Ground.data⟩ (by simp) rfl rfl
          have e22 : a'.eval (.tmp 22) = .agg #[.int .i64 r.f, .int .i64 r.t, .int .i64 r.k, .int .i64 r.ep, .int .i64 r.x, .int .i64 r.y, .int .i64 r.z] := hd ⟨5, Ground.data⟩ (by simp) rfl rfl
          have ec : ∀ v, a'.eval (.const v) = v := fun _ => rfl
          have ef : ∀ g, a'.eval (.func g) = .func (.func g) #[] #[] := fun _ => rfl
          clear hd hs
          refine wpv (v := .agg #[.int .i64 y.n, .int .i64 y.p, .int .i64 r.f, .int .i64 r.t, .int .i64 r.k, .int .i64 r.ep, .int .i64 r.x, .int .i64 r.y, .int .i64 r.z]) ?_ ⟨_, rfl, Grow.rfl' _, rfl⟩
          (generalize a'.eval = ev at ec ef e18 e22 ⊢; simp [execOp, go_sem, *])
        · refine stepG_run hGg hBg hstab rfl ?_
          intro a' w' hg hs hd hb
          have e23 : a'.eval (.tmp 23) = .agg #[.int .i64 y.n, .int .i64 y.p, .int .i64 r.f, .int .i64 r.t, .int .i64 r.k, .int .i64 r.ep, .int .i64 r.x, .int .i64 r.y, .int .i64 r.z] := hd ⟨6, Ground.data⟩ (by simp) rfl rfl
          have ec : ∀ v, a'.eval (.const v) = v := fun _ => rfl
          have ef : ∀ g, a'.eval (.func g) = .func (.func g) #[] #[] := fun _ => rfl
          clear hd hs
          refine wpv (v := .slice (some ⟨w'.heap.size, 0, none⟩) 1 1) (w' := w'.alloc (.cells #[.int .i64 y.n, .int .i64 y.p, .int .i64 r.f, .int .i64 r.t, .int .i64 r.k, .int .i64 r.ep, .int .i64 r.x, .int .i64 r.y, .int .i64 r.z] 120)) ?_ ⟨_, rfl, Grow.alloc' _ _, oneP_new w' ⟨y, r⟩⟩
          (generalize a'.eval = ev at ec ef e23 ⊢; simp [execOp, go_sem, *])
        · refine stepG_take rfl ?_
          intro a' w' hg hs hd hb
          have e17 : a'.eval (.tmp 17) = .slice s m c := hd ⟨0, Ground.data⟩ (by simp) rfl rfl
          obtain ⟨g24, e24, h24⟩ : OneP ⟨y, r⟩ (a'.eval (.tmp 24)) w' := hd ⟨7, Ground.data⟩ (by simp) rfl rfl
          have ec : ∀ v, a'.eval (.const v) = v := fun _ => rfl
          have ef : ∀ g, a'.eval (.func g) = .func (.func g) #[] #[] := fun _ => rfl
          clear hd hs
          obtain ⟨s2, c2, w2, hrun, hown, hgr, hlie⟩ := run_apP hg.1 96 s m c A [⟨y, r⟩] (hb rfl) (some ⟨g24, 0, none⟩) 1 1 h24 (by omega)
          refine wpv (v := .slice s2 _ c2) (w' := w2) ?_ ⟨_, rfl, ⟨hgr.1, hgr.2 _ _ hg.2⟩, ⟨s2, c2, rfl, hown, hlie⟩, ?_, fun h _ => absurd rfl h⟩
          rotate_left
          · intro j u hj h
            match j with
            | 0 => exact h
            | 1 => exact h
            | 2 => exact h
            | 3 => exact h
            | 4 => exact h
            | 5 => exact h
            | 6 => exact h
            | 7 => first | (cases hj; done) | exact OneP.turn hgr.2 (by decide) h
            | 8 => first | (cases hj; done) | exact AppP.turn hgr.2 (by decide) h
            | j + 9 => exact trivial
          · unfold execOp; simp only [resolve, invoke, builtin, Sem.run_bind, Sem.run_pure, Result.andThen_ok, List.map_toArray, List.map_cons, List.map_nil, e17, e24, hrun]
      · intro a' w' hg hs hd
        obtain ⟨sa25, ca25, e25, h25, t25⟩ : AppP w1.heap.size (m + 1) (A ++ [⟨y, r⟩]) (a'.eval (.tmp 25)) w' := hd 8 (by omega) rfl
        have ec : ∀ v, a'.eval (.const v) = v := fun _ => rfl
        have ef : ∀ g, a'.eval (.func g) = .func (.func g) #[] #[] := fun _ => rfl
        have HF := hide h25
        have HG3 := hide hg.1
        refine wpv (v := .slice sa25 (m + 1) ca25) (w' := w') ?_ ?_
        · (generalize a'.eval = ev at ec ef e25 ⊢; simp [execOp, go_sem, *])
        clear h25 t25 e25 ec ef hg HGG HBG HG0 HB0 hGg hBg hstab HKG HKL
        rw [frame_eq hs [false, false, false, false, false, true, false, false, false, false, false, false, false, false, false, false, false, true, true, true, true, true, true, true, true, true, false, false] (by kernel_rfl)]; simp only [mergeL]; clear hs hd; generalize a'.tmps = TT at *; try go_frame
        go_wp2_with fail
        go_roundw
        case rel => exact ⟨k + 1, sa25, m + 1, ca25, by omega, by omega, rfl, by go_num, HG3.out, by rw [HS.out]; exact HF.out⟩
        case measure => simp [intOf]; omega
    · have hkn : M.take k = M := List.take_of_length_le (by rw [HX.out.1]; omega)
      have hi2 : ¬ (k : Int) < (nx : Int) := by omega
      rw [hkn] at HO
      clear hkn hg
      go_wp2_with fail
      go_ret
      exact ⟨s, m, c, rfl, Grow.trans' G1.out HG.out, by unfold alongL; rw [← HMM.out]; exact HO.out.rebase G1.out.size⟩

def throughL (N : List Nd) (n : Int) : List Sp := if isP N ⟨n, -1⟩ = true then [⟨⟨n, -1⟩, innP (nth N n.toNat)⟩] else []
set_option maxHeartbeats 4000000 in
theorem through_any (gs : Option Addr) (gn gc : Nat) (gt : Option Addr) (gm gq : Nat) (N : List Nd) (E : List Ed) (l : Lc) (w : World) (hn : gn ≤ 20) (hg : IsNds w gs gn gc N) :
    Calls Tryz.prog 57 #[.agg #[.slice gs gn gc, .slice gt gm gq], .agg #[.int .i64 l.n, .int .i64 l.p]] w fun e w' => ∃ s n c, e = .returned (.slice s n c) ∧ Grow w w' ∧ IsSps w' s n c (throughL N l.n) ∧ ∀ a, s = some a → a.block < w'.heap.size := by
  have hz : (w.alloc (.cells #[.slice gs gn gc, .slice gt gm gq] 25)).heap.size = w.heap.size + 1 := by simp
  have GG : Hid (Grow w ((w.alloc (.cells #[.slice gs gn gc, .slice gt gm gq] 25)).alloc (.cells #[.int .i64 l.n, .int .i64 l.p] 27))) := hide (Grow.trans' (Grow.alloc' _ _) (Grow.alloc' _ _))
  have KG : Hid (BoxG ((w.alloc (.cells #[.slice gs gn gc, .slice gt gm gq] 25)).alloc (.cells #[.int .i64 l.n, .int .i64 l.p] 27)) w.heap.size ⟨gs, gn, gc, gt, gm, gq, [], []⟩) := hide ((BoxG.new w ⟨gs, gn, gc, gt, gm, gq, [], []⟩).later (Grow.alloc' _ _))
  have KL : Hid (BoxL ((w.alloc (.cells #[.slice gs gn gc, .slice gt gm gq] 25)).alloc (.cells #[.int .i64 l.n, .int .i64 l.p] 27)) (w.heap.size + 1) l) := hide (by rw [← hz]; exact BoxL.new _ l)
  have HN := hide (hg.later GG.out)
  obtain ⟨g0, g1⟩ := KG.out
  obtain ⟨l0, l1⟩ := KL.out
  dsimp only at g0 g1
  obtain ⟨PG, hPG⟩ : ∃ PG, PG = w.heap.size := ⟨_, rfl⟩
  obtain ⟨PL, hPL⟩ : ∃ PL, PL = w.heap.size + 1 := ⟨_, rfl⟩
  obtain ⟨TL, hTL⟩ : ∃ TL, throughL N l.n = TL := ⟨_, rfl⟩
  rw [hTL]
  have HTL := hide hTL
  clear hTL
  have HBK : Hid (BlkL (((w.alloc (.cells #[.slice gs gn gc, .slice gt gm gq] 25)).alloc (.cells #[.int .i64 l.n, .int .i64 l.p] 27)).alloc (.cells #[.int .i64 0, .int .i64 0] 27)) (w.heap.size + 1 + 1)) := hide (by have := BlkL.new ((w.alloc (.cells #[.slice gs gn gc, .slice gt gm gq] 25)).alloc (.cells #[.int .i64 l.n, .int .i64 l.p] 27)); simpa using this)
  clear hg hz
  go_enter Tryz.func57, Tryz.ntmps57
  go_wp2_with (refine wpList_putL rfl _ _ rfl (w.heap.size + 1 + 1) ⟨l.n, -1⟩ rfl rfl HBK.out ((w.alloc (.cells #[.slice gs gn gc, .slice gt gm gq] 25)).alloc (.cells #[.int .i64 l.n, .int .i64 l.p] 27)) (Grow.alloc' _ _) (by simp) ?_)
  intro w1 hg1 hb1
  obtain ⟨PO, hPO⟩ : ∃ PO, PO = w.heap.size + 1 + 1 := ⟨_, rfl⟩
  have G1 := hide (Grow.trans' GG.out hg1)
  have KG1 := hide (KG.out.later hg1)
  have KL1 := hide (KL.out.later hg1)
  have HN1 := hide (HN.out.later hg1)
  have KO1 := hide hb1
  rw [← hPG] at KG1
  rw [← hPL] at KL1
  rw [← hPO] at KO1
  have C := hide (is_raw gs gn gc gt gm gq N l.n (-1) w1 (by omega) HN1.out)
  clear g0 g1 l0 l1 hg1 hb1 KG KL HN GG
  obtain ⟨g0, g1⟩ := KG1.out
  obtain ⟨o0, o1⟩ := KO1.out
  dsimp only at g0 g1 o0 o1
  rw [hPG] at g0 g1
  rw [hPO] at o0 o1
  go_wp2_with fail
  refine C.out.mono ?_
  rintro _ w2 ⟨rfl, hb⟩
  have G2 := hide (Grow.trans' G1.out hb)
  have KG2 := hide (KG1.out.later hb)
  have KL2 := hide (KL1.out.later hb)
  have HN2 := hide (HN1.out.later hb)
  have KO2 := hide (KO1.out.later hb)
  clear hb g0 g1 o0 o1 G1 KG1 KL1 HN1 KO1 C
  cases hp : isP N ⟨l.n, -1⟩
  · have e : Hid (TL = []) := hide (by rw [← HTL.out]; unfold throughL; rw [hp]; rfl)
    clear hp
    go_wp2_with fail
    go_ret
    exact ⟨none, 0, 0, rfl, G2.out, by rw [e.out]; exact ⟨rfl, Nat.le_refl _, .inl rfl⟩, fun a q => by cases q⟩
  · obtain ⟨q1, q2⟩ := isP_node hp
    obtain ⟨ln, lp⟩ := l
    dsimp only at q1 q2 KL2 KO2 hp HTL ⊢
    obtain ⟨k, rfl⟩ : ∃ k : Nat, ln = (k : Int) := ⟨ln.toNat, by omega⟩
    have hkd : k < N.length := by omega
    have hkn : k < gn := by rw [← HN2.out.1]; exact hkd
    have hne : ¬ N = [] := fun h => by rw [h] at hkd; simp at hkd
    obtain ⟨b, o, rfl, hr1⟩ := HN2.out.2.2.resolve_left hne
    have HR := hide hr1
    have hi1 : (0 : Int) ≤ (k : Int) := by omega
    have hi2 : (k : Int) < (gn : Int) := by omega
    have HAt : ∀ w', Grow w2 w' → w'.cell? ⟨b, o + k * 4, none⟩ = some (.int .i64 (nth N k).k) ∧ w'.cell? ⟨b, o + k * 4 + 1, none⟩ = some (.int .i64 (nth N k).a) ∧ w'.cell? ⟨b, o + k * 4 + 2, none⟩ = some (.int .i64 (nth N k).b) ∧ w'.cell? ⟨b, o + k * 4 + 3, none⟩ = some (.int .i64 (nth N k).d) := fun w' h => by
      rw [nth_get N k hkd]
      exact (HR.out.later h).at k hkd
    have hk0 : ((k : Int)).toNat = k := by omega
    have e : TL = [⟨⟨(k : Int), -1⟩, innP (nth N k)⟩] := by
      rw [← HTL.out]
      unfold throughL
      rw [if_pos hp, hk0]
    obtain ⟨x, hx⟩ : ∃ x, x = nth N k := ⟨_, rfl⟩
    rw [← hx] at HAt e
    obtain ⟨xk, xa, xb, xd⟩ := x
    dsimp only at HAt
    obtain ⟨r, hr⟩ : ∃ r, innP ⟨xk, xa, xb, xd⟩ = r := ⟨_, rfl⟩
    have CI : ∀ w', Calls Tryz.prog 81 #[.agg #[.int .i64 xk, .int .i64 xa, .int .i64 xb, .int .i64 xd]] w' fun e w'' => e = .returned (.agg #[.int .i64 r.f, .int .i64 r.t, .int .i64 r.k, .int .i64 r.ep, .int .i64 r.x, .int .i64 r.y, .int .i64 r.z]) ∧ Grow w' w'' := fun w' => by rw [← hr]; exact inn_any xk xa xb xd w'
    have HCI := hide CI
    have HAT := hide HAt
    rw [hr] at e
    have HE := hide e
    clear e HTL hr hx hk0 hr1 hne hkd hkn q1 q2 hp HAt CI
    go_wp2_with fail
    rw [← hPO, ← hPL, ← hPG]
    clear hPO hPL hPG
    let FF : Nat → Value → World → Prop := fun i vF wF => match i with | 0 => vF = .agg #[.int .i64 (k : Int), .int .i64 (-1)] | 1 => vF = .pointer (some ⟨PG, 0, none⟩) | 2 => vF = .slice (some ⟨b, o, none⟩) gn gc | 3 => vF = .pointer (some ⟨PL, 0, none⟩) | 4 => vF = .int .i64 (k : Int) | 5 => vF = .pointer (some ⟨b, o + k * 4, none⟩) | 6 => vF = .agg #[.int .i64 xk, .int .i64 xa, .int .i64 xb, .int .i64 xd] | 7 => vF = .agg #[.int .i64 r.f, .int .i64 r.t, .int .i64 r.k, .int .i64 r.ep, .int .i64 r.x, .int .i64 r.y, .int .i64 r.z] | 8 => vF = .agg #[.int .i64 (k : Int), .int .i64 (-1), .int .i64 r.f, .int .i64 r.t, .int .i64 r.k, .int .i64 r.ep, .int .i64 r.x, .int .i64 r.y, .int .i64 r.z] | 9 => OneP ⟨⟨(k : Int), -1⟩, r⟩ vF wF | 10 => OneP ⟨⟨(k : Int), -1⟩, r⟩ vF wF | _ => True
    have hstab : ∀ k v w1 w2, Grow w1 w2 → FF k v w1 → FF k v w2 := by
      intro k v w1 w2 hg h
      match k with
      | 0 => exact h
      | 1 => exact h
      | 2 => exact h
      | 3 => exact h
      | 4 => exact h
      | 5 => exact h
      | 6 => exact h
      | 7 => exact h
      | 8 => exact h
      | 9 => exact OneP.later hg h
      | 10 => exact OneP.later hg h
      | k + 11 => exact trivial
    refine wp_region_invK FF (fun _ => none) (by kernel_rfl) (by kernel_rfl) ?_ ?_
    · refine ⟨?_, ?_, ?_, ?_, ?_, ?_, ?_, ?_, ?_, ?_, ?_, trivial⟩
      · refine stepK_run hstab trivial (by intro j b h; cases h) ?_
        intro a' w' hg hs hd
        have e5 : a'.eval (.tmp 5) = .pointer (some ⟨PO, 0, none⟩) := hs.rest 5 rfl
        have ec : ∀ v, a'.eval (.const v) = v := fun _ => rfl
        have ef : ∀ g, a'.eval (.func g) = .func (.func g) #[] #[] := fun _ => rfl
        clear hd hs
        obtain ⟨o0, o1⟩ := KO2.out.later hg
        refine wpv (v := .agg #[.int .i64 (k : Int), .int .i64 (-1)]) ?_ ⟨_, rfl, Grow.rfl' _, rfl⟩
        (generalize a'.eval = ev at ec ef e5 ⊢; simp [execOp, go_sem, *])
      · refine stepK_run hstab trivial (by intro j b h; cases h) ?_
        intro a' w' hg hs hd
        have e2 : a'.eval (.tmp 2) = .pointer (some ⟨PG, 0, none⟩) := hs.rest 2 rfl
        have ec : ∀ v, a'.eval (.const v) = v := fun _ => rfl
        have ef : ∀ g, a'.eval (.func g) = .func (.func g) #[] #[] := fun _ => rfl
        clear hd hs
        refine wpv (v := .pointer (some ⟨PG, 0, none⟩)) ?_ ⟨_, rfl, Grow.rfl' _, rfl⟩
        (generalize a'.eval = ev at ec ef e2 ⊢; simp [execOp, go_sem, *])
      · refine stepK_run hstab trivial (by intro j b h; cases h) ?_
        intro a' w' hg hs hd
        have e14 : a'.eval (.tmp 14) = .pointer (some ⟨PG, 0, none⟩) := hd ⟨1, Ground.data⟩ (by simp) rfl rfl
        have ec : ∀ v, a'.eval (.const v) = v := fun _ => rfl
        have ef : ∀ g, a'.eval (.func g) = .func (.func g) #[] #[] := fun _ => rfl
        clear hd hs
        obtain ⟨g0, g1⟩ := KG2.out.later hg
        refine wpv (v := .slice (some ⟨b, o, none⟩) gn gc) ?_ ⟨_, rfl, Grow.rfl' _, rfl⟩
        (generalize a'.eval = ev at ec ef e14 ⊢; simp [execOp, go_sem, *])
      · refine stepK_run hstab trivial (by intro j b h; cases h) ?_
        intro a' w' hg hs hd
        have e3 : a'.eval (.tmp 3) = .pointer (some ⟨PL, 0, none⟩) := hs.rest 3 rfl
        have ec : ∀ v, a'.eval (.const v) = v := fun _ => rfl
        have ef : ∀ g, a'.eval (.func g) = .func (.func g) #[] #[] := fun _ => rfl
        clear hd hs
        refine wpv (v := .pointer (some ⟨PL, 0, none⟩)) ?_ ⟨_, rfl, Grow.rfl' _, rfl⟩
        (generalize a'.eval = ev at ec ef e3 ⊢; simp [execOp, go_sem, *])
      · refine stepK_run hstab trivial (by intro j b h; cases h) ?_
        intro a' w' hg hs hd
        have e16 : a'.eval (.tmp 16) = .pointer (some ⟨PL, 0, none⟩) := hd ⟨3, Ground.data⟩ (by simp) rfl rfl
        have ec : ∀ v, a'.eval (.const v) = v := fun _ => rfl
        have ef : ∀ g, a'.eval (.func g) = .func (.func g) #[] #[] := fun _ => rfl
        clear hd hs
        obtain ⟨l0, l1⟩ := KL2.out.later hg
        refine wpv (v := .int .i64 (k : Int)) ?_ ⟨_, rfl, Grow.rfl' _, rfl⟩
        (generalize a'.eval = ev at ec ef e16 ⊢; simp [execOp, go_sem, *])
      · refine stepK_run hstab trivial (by intro j b h; cases h) ?_
        intro a' w' hg hs hd
        have e15 : a'.eval (.tmp 15) = .slice (some ⟨b, o, none⟩) gn gc := hd ⟨2, Ground.data⟩ (by simp) rfl rfl
        have e17 : a'.eval (.tmp 17) = .int .i64 (k : Int) := hd ⟨4, Ground.data⟩ (by simp) rfl rfl
        have ec : ∀ v, a'.eval (.const v) = v := fun _ => rfl
        have ef : ∀ g, a'.eval (.func g) = .func (.func g) #[] #[] := fun _ => rfl
        clear hd hs
        refine wpv (v := .pointer (some ⟨b, o + k * 4, none⟩)) ?_ ⟨_, rfl, Grow.rfl' _, rfl⟩
        (generalize a'.eval = ev at ec ef e15 e17 ⊢; simp [execOp, go_sem, *])
      · refine stepK_run hstab trivial (by intro j b h; cases h) ?_
        intro a' w' hg hs hd
        have e18 : a'.eval (.tmp 18) = .pointer (some ⟨b, o + k * 4, none⟩) := hd ⟨5, Ground.data⟩ (by simp) rfl rfl
        have ec : ∀ v, a'.eval (.const v) = v := fun _ => rfl
        have ef : ∀ g, a'.eval (.func g) = .func (.func g) #[] #[] := fun _ => rfl
        clear hd hs
        obtain ⟨x0, x1, x2, x3⟩ := HAT.out w' hg
        refine wpv (v := .agg #[.int .i64 xk, .int .i64 xa, .int .i64 xb, .int .i64 xd]) ?_ ⟨_, rfl, Grow.rfl' _, rfl⟩
        (generalize a'.eval = ev at ec ef e18 ⊢; simp [execOp, go_sem, *])
      · refine stepK_run hstab trivial (by intro j b h; cases h) ?_
        intro a' w' hg hs hd
        have e19 : a'.eval (.tmp 19) = .agg #[.int .i64 xk, .int .i64 xa, .int .i64 xb, .int .i64 xd] := hd ⟨6, Ground.data⟩ (by simp) rfl rfl
        have ec : ∀ v, a'.eval (.const v) = v := fun _ => rfl
        have ef : ∀ g, a'.eval (.func g) = .func (.func g) #[] #[] := fun _ => rfl
        clear hd hs
        refine wpc ?_ (Calls.mono (HCI.out w') fun e w2 ⟨he, hb⟩ => ⟨_, he, _, rfl, hb, rfl⟩)
        (generalize a'.eval = ev at ec ef e19 ⊢; simp [execOp, go_sem, *])
      · refine stepK_run hstab trivial (by intro j b h; cases h) ?_
        intro a' w' hg hs hd
        have e13 : a'.eval (.tmp 13) = .agg #[.int .i64 (k : Int), .int .i64 (-1)] := hd ⟨0, Ground.data⟩ (by simp) rfl rfl
        have e20 : a'.eval (.tmp 20) = .agg #[.int .i64 r.f, .int .i64 r.t, .int .i64 r.k, .int .i64 r.ep, .int .i64 r.x, .int .i64 r.y, .int .i64 r.z] := hd ⟨7, Ground.data⟩ (by simp) rfl rfl
        have ec : ∀ v, a'.eval (.const v) = v := fun _ => rfl
        have ef : ∀ g, a'.eval (.func g) = .func (.func g) #[] #[] := fun _ => rfl
        clear hd hs
        refine wpv (v := .agg #[.int .i64 (k : Int), .int .i64 (-1), .int .i64 r.f, .int .i64 r.t, .int .i64 r.k, .int .i64 r.ep, .int .i64 r.x, .int .i64 r.y, .int .i64 r.z]) ?_ ⟨_, rfl, Grow.rfl' _, rfl⟩
        (generalize a'.eval = ev at ec ef e13 e20 ⊢; simp [execOp, go_sem, *])
      · refine stepK_run hstab trivial (by intro j b h; cases h) ?_
        intro a' w' hg hs hd
        have e21 : a'.eval (.tmp 21) = .agg #[.int .i64 (k : Int), .int .i64 (-1), .int .i64 r.f, .int .i64 r.t, .int .i64 r.k, .int .i64 r.ep, .int .i64 r.x, .int .i64 r.y, .int .i64 r.z] := hd ⟨8, Ground.data⟩ (by simp) rfl rfl
        have ec : ∀ v, a'.eval (.const v) = v := fun _ => rfl
        have ef : ∀ g, a'.eval (.func g) = .func (.func g) #[] #[] := fun _ => rfl
        clear hd hs
        refine wpv (v := .slice (some ⟨w'.heap.size, 0, none⟩) 1 1) (w' := w'.alloc (.cells #[.int .i64 (k : Int), .int .i64 (-1), .int .i64 r.f, .int .i64 r.t, .int .i64 r.k, .int .i64 r.ep, .int .i64 r.x, .int .i64 r.y, .int .i64 r.z] 120)) ?_ ⟨_, rfl, Grow.alloc' _ _, oneP_new w' ⟨⟨(k : Int), -1⟩, r⟩⟩
        (generalize a'.eval = ev at ec ef e21 ⊢; simp [execOp, go_sem, *])
      · refine stepK_run hstab trivial (by intro j b h; cases h) ?_
        intro a' w' hg hs hd
        have hq : OneP ⟨⟨(k : Int), -1⟩, r⟩ (a'.eval (.tmp 22)) w' := hd ⟨9, Ground.data⟩ (by simp) rfl rfl
        have ec : ∀ v, a'.eval (.const v) = v := fun _ => rfl
        have ef : ∀ g, a'.eval (.func g) = .func (.func g) #[] #[] := fun _ => rfl
        clear hd hs
        refine wpv (v := a'.eval (.tmp 22)) ?_ ⟨_, rfl, Grow.rfl' _, hq⟩
        simp [execOp, go_sem]
    · intro a' w' hg hs hd
      obtain ⟨g4, e4, h4⟩ : OneP ⟨⟨(k : Int), -1⟩, r⟩ (a'.eval (.tmp 4)) w' := hd 10 (by simp) (by intro k h; cases h)
      go_wp2_with fail
      refine bodyPost_ret (v := .slice (some ⟨g4, 0, none⟩) 1 1) ?_ (by rw [hs.defers]) ⟨some ⟨g4, 0, none⟩, 1, 1, rfl, Grow.trans' G2.out hg, by rw [HE.out]; exact h4, fun a q => ?_⟩
      · clear hd hs hstab
        simpa [results, Tryz.results57, Act.eval] using e4
      · cases q
        rcases h4.2.2 with h5 | ⟨b5, o5, e5, hr5⟩
        · cases h5
        · cases e5
          exact World.block_lt_of_cell? _ _ (hr5.at 0 (by simp)).1

/-! The places of a graph, as keys. -/
theorem locs_nodup (N : List Nd) : (locs N).Nodup := by
  unfold List.Nodup locs
  refine List.Pairwise.imp ?_ (locsTo_rises N N.length)
  intro a b h e
  subst e
  rw [(ordL_zero a a).2 rfl] at h
  cases h
theorem locs_wf {N : List Nd} (hN : N.length ≤ 20) : ∀ x ∈ locs N, LcWf x := fun x hx => by
  have h1 := (mem_locs N x).1 hx
  unfold isP at h1
  simp only [Bool.and_eq_true, decide_eq_true_eq] at h1
  obtain ⟨⟨h2, h3⟩, h4⟩ := h1
  have h5 : -1 ≤ x.p ∧ x.p < 2 := by
    unfold portB at h4
    split at h4
    · omega
    · simp only [Bool.and_eq_true, decide_eq_true_eq] at h4
      have := insP_cases (nth N x.n.toNat).k
      omega
  exact ⟨WalkArith.wf_i64 ⟨by omega, by omega⟩, WalkArith.wf_i64 ⟨by omega, by omega⟩⟩
theorem locs_len {N : List Nd} : (locs N).length ≤ 3 * N.length := locsTo_len N N.length
theorem stepsAt_out (N : List Nd) (E : List Ed) (l : Lc) (h : l.p = -1) : stepsAt N E l = alongL E l.n (sameS (depP N l)) := by unfold stepsAt alongL; rw [if_pos h]
theorem stepsAt_in (N : List Nd) (E : List Ed) (l : Lc) (h : ¬ l.p = -1) : stepsAt N E l = throughL N l.n := by unfold stepsAt throughL; rw [if_neg h]
/-- A value is a row of steps. -/
def IsRowP (T : List Sp) (v : Value) (w : World) : Prop := ∃ s n c, v = .slice s n c ∧ IsSps w s n c T
theorem IsRowP.later {T : List Sp} {v : Value} {w w' : World} (hg : Grow w w') : IsRowP T v w → IsRowP T v w' := fun ⟨s, n, c, e, h⟩ => ⟨s, n, c, e, h.later hg⟩
/-- The rows of the first k places. -/
structure StpK (w : World) (b : Nat) (P : List Lc) (f : Lc → Option Value) (T : Lc → List Sp) (k : Nat) : Prop where
  map : MapL w b P f
  row : ∀ x ∈ P.take k, ∃ s n c, f x = some (.slice s n c) ∧ IsSps w s n c (T x)
theorem StpK.later {w w' : World} {b : Nat} {P : List Lc} {f : Lc → Option Value} {T : Lc → List Sp} {k : Nat} (hg : Grow w w') (h : StpK w b P f T k) : StpK w' b P f T k :=
  ⟨h.map.later hg, fun x hx => by obtain ⟨s, n, c, e, hI⟩ := h.row x hx; exact ⟨s, n, c, e, hI.later hg⟩⟩
theorem StpK.set {w : World} {b : Nat} {P : List Lc} {f : Lc → Option Value} {T : Lc → List Sp} {k : Nat} (h : StpK w b P f T k) (hP : P.length < 1000000000) (hk : k < P.length) {x0 : Lc} (hx0 : x0 = P[k]) {s : Option Addr} {n c : Nat} (hI : IsSps w s n c (T x0)) :
    ∃ w', (Instr.mapUpdate 75 (.map (some b)) (.agg #[.int .i64 x0.n, .int .i64 x0.p]) (.slice s n c)).run Tryz.prog w = .ok () w' ∧ StpK w' b P (putV f x0 (.slice s n c)) T (k + 1) ∧ w.grownBy w' (some b) := by
  subst hx0
  obtain ⟨w', h1, h2, h3⟩ := h.map.set Tryz.underlying75 hP (List.getElem_mem hk) (.slice s n c)
  obtain ⟨es, cl, hb⟩ := h.map.isMap
  refine ⟨w', h1, ⟨h2, fun x hx => ?_⟩, h3⟩
  by_cases e : x = P[k]
  · rw [e, putV_same]
    exact ⟨s, n, c, rfl, hI.mapTurn h3 hb⟩
  · rw [putV_other f _ e]
    have hx' : x ∈ P.take k := by
      rw [← List.take_append_getElem hk, List.mem_append, List.mem_singleton] at hx
      exact hx.resolve_right e
    obtain ⟨s', n', c', e', hI'⟩ := h.row x hx'
    exact ⟨s', n', c', e', hI'.mapTurn h3 hb⟩
theorem along_row (gs : Option Addr) (gn gc : Nat) (gt : Option Addr) (gm gq : Nat) (N : List Nd) (E : List Ed) (l : Lc) (hl : l.p = -1) (w : World) (hn : gn ≤ 20) (hm : gm ≤ 40) (hg : IsNds w gs gn gc N) (he : IsEds w gt gm gq E) :
    Calls Tryz.prog 56 #[.agg #[.slice gs gn gc, .slice gt gm gq], .agg #[.int .i64 l.n, .int .i64 l.p]] w fun e w' => ∃ v, e = .returned v ∧ Grow w w' ∧ IsRowP (stepsAt N E l) v w' := by
  rw [stepsAt_out N E l hl]
  exact (along_any gs gn gc gt gm gq N E l w hn hm hg he).mono fun e w' ⟨s, n, c, h1, h2, h3⟩ => ⟨_, h1, h2, s, n, c, rfl, h3.is⟩
theorem through_row (gs : Option Addr) (gn gc : Nat) (gt : Option Addr) (gm gq : Nat) (N : List Nd) (E : List Ed) (l : Lc) (hl : ¬ l.p = -1) (w : World) (hn : gn ≤ 20) (hg : IsNds w gs gn gc N) :
    Calls Tryz.prog 57 #[.agg #[.slice gs gn gc, .slice gt gm gq], .agg #[.int .i64 l.n, .int .i64 l.p]] w fun e w' => ∃ v, e = .returned v ∧ Grow w w' ∧ IsRowP (stepsAt N E l) v w' := by
  rw [stepsAt_in N E l hl]
  exact (through_any gs gn gc gt gm gq N E l w hn hg).mono fun e w' ⟨s, n, c, h1, h2, h3, _⟩ => ⟨_, h1, h2, s, n, c, rfl, h3⟩
set_option maxHeartbeats 4000000 in
theorem stepsOf_any (gs : Option Addr) (gn gc : Nat) (gt : Option Addr) (gm gq : Nat) (N : List Nd) (E : List Ed) (w : World) (hn : gn ≤ 20) (hm : gm ≤ 40) (hg : IsNds w gs gn gc N) (he : IsEds w gt gm gq E) :
    Calls Tryz.prog 31 #[.agg #[.slice gs gn gc, .slice gt gm gq]] w fun e w' => ∃ sb fs, e = .returned (.map (some sb)) ∧ Grow w w' ∧ StpM w' sb (locs N) fs (stepsAt N E) := by
  have hz : (w.alloc (.cells #[.slice gs gn gc, .slice gt gm gq] 25)).heap.size = w.heap.size + 1 := by simp
  have hNl : N.length ≤ 20 := by rw [hg.1]; exact hn
  have hPl : (locs N).length ≤ 60 := Nat.le_trans locs_len (by omega)
  have GG : Hid (Grow w (w.alloc (.cells #[.slice gs gn gc, .slice gt gm gq] 25))) := hide (Grow.alloc' _ _)
  have G1 : Hid (Grow (w.alloc (.cells #[.slice gs gn gc, .slice gt gm gq] 25)) ((w.alloc (.cells #[.slice gs gn gc, .slice gt gm gq] 25)).alloc (.map #[] 0))) := hide (Grow.alloc' _ _)
  have KG : Hid (BoxG (w.alloc (.cells #[.slice gs gn gc, .slice gt gm gq] 25)) w.heap.size ⟨gs, gn, gc, gt, gm, gq, [], []⟩) := hide (BoxG.new w ⟨gs, gn, gc, gt, gm, gq, [], []⟩)
  have HM : Hid (MapL ((w.alloc (.cells #[.slice gs gn gc, .slice gt gm gq] 25)).alloc (.map #[] 0)) (w.heap.size + 1) (locs N) fun _ => none) := hide (by rw [← hz]; exact MapL.new _ _ (locs_nodup N) (locs_wf hNl))
  have KG1 := hide (KG.out.later G1.out)
  have HN := hide (hg.later (Grow.trans' GG.out G1.out))
  have HE := hide (he.later (Grow.trans' GG.out G1.out))
  have C := hide (locs_raw gs gn gc gt gm gq N ((w.alloc (.cells #[.slice gs gn gc, .slice gt gm gq] 25)).alloc (.map #[] 0)) hn HN.out)
  obtain ⟨g0, g1⟩ := KG1.out
  dsimp only at g0 g1
  obtain ⟨P, hP⟩ : ∃ P, P = locs N := ⟨_, rfl⟩
  rw [← hP] at hPl HM C ⊢
  have HN0 := hide hg
  have HE0 := hide he
  have HPP := hide hP
  clear hg he hz hP hNl KG
  obtain ⟨PG, hPG⟩ : ∃ PG, PG = w.heap.size := ⟨_, rfl⟩
  obtain ⟨sb, hsb⟩ : ∃ sb, sb = w.heap.size + 1 := ⟨_, rfl⟩
  have hsbw : w.heap.size ≤ sb := by omega
  go_enter Tryz.func31, Tryz.ntmps31
  go_wp2_with fail
  refine C.out.mono ?_
  rintro _ w1 ⟨sx, nx, cx, rfl, hb, hO⟩
  have GW1 := hide (Grow.trans' (Grow.trans' GG.out G1.out) hb)
  have KG2 := hide (KG1.out.later hb)
  have HM1 := hide (HM.out.later hb)
  have HN1 := hide (HN.out.later hb)
  have HE1 := hide (HE.out.later hb)
  have HX := hide hO.is
  have hnx : nx ≤ 60 := by rw [← hO.1]; exact hPl
  rw [← hPG] at KG2
  rw [← hsb] at HM1
  clear hb hO g0 g1 KG1 HN HE HM C GG G1
  go_wp2_with fail
  rw [← hsb, ← hPG]
  have hgs : PG < sb := by omega
  clear hsb hPG
  have hPb : P.length < 1000000000 := by omega
  go_loopw [10] (fun ix wr => ∃ (k : Nat) (f : Lc → Option Value), k ≤ nx ∧ ix = .int .i64 k ∧ w1.grownBy wr (some sb) ∧ Grow w wr ∧ StpK wr sb P f (stepsAt N E) k) (fun ix _ => nx - (intOf ix).toNat)
  case atStart => exact ⟨0, _, Nat.zero_le _, rfl, grow_none (Grow.rfl' _) |>.but _, GW1.out, HM1.out, fun x hx => by simp at hx⟩
  case round =>
    obtain ⟨k, f, hk, rfl, hg, hgw, hS⟩ := hrel
    have HG := hide hg
    have HGW := hide hgw
    have HS := hide hS
    clear hg hgw hS
    have hmm := HM1.out.isMap
    have KG3 : Hid (BoxG wr PG ⟨gs, gn, gc, gt, gm, gq, [], []⟩) := hide ⟨cell_mapTurn KG2.out.1 HG.out hmm.choose_spec.choose_spec, cell_mapTurn KG2.out.2 HG.out hmm.choose_spec.choose_spec⟩
    by_cases hlt : k < nx
    · have hkd : k < P.length := by rw [HX.out.1]; exact hlt
      have hne : ¬ P = [] := fun h => by rw [h] at hkd; simp at hkd
      obtain ⟨be, o, rfl, hr1⟩ := HX.out.2.2.resolve_left hne
      have hr2 : RowL wr be o P := fun j v hj => cell_mapTurn (hr1 j v hj) HG.out hmm.choose_spec.choose_spec
      obtain ⟨p0, p1⟩ := hr2.at k hkd
      obtain ⟨y, hy⟩ : ∃ y, y = P[k] := ⟨_, rfl⟩
      have HY := hide hy
      rw [← hy] at p0 p1
      have hi1 : (0 : Int) ≤ (k : Int) := by omega
      have hi2 : (k : Int) < (nx : Int) := by omega
      clear hne hr1 hr2 hy hmm
      go_wp2_with (refine wpList_putL' rfl _ _ rfl wr.heap.size y rfl rfl (BlkL.new wr) wr (Grow.alloc' _ _) (Nat.le_refl _) ?_)
      intro w2 hg2 hb2
      have HG2 : Hid (w1.grownBy w2 (some sb)) := hide (HG.out.andThen (grow_none hg2) (fun j e => by cases e))
      have HW2 := hide (Grow.trans' HGW.out hg2)
      have HS2 := hide (HS.out.later hg2)
      have KG4 := hide (KG3.out.later hg2)
      have KY := hide hb2
      have HN2 := hide (HN0.out.later HW2.out)
      have HE2 := hide (HE0.out.later HW2.out)
      obtain ⟨PY, hPY⟩ : ∃ PY, PY = wr.heap.size := ⟨_, rfl⟩
      rw [← hPY] at KY
      obtain ⟨yn, yp⟩ := y
      obtain ⟨y0, y1⟩ := KY.out.1
      dsimp only at y0 y1
      rw [hPY] at y0 y1
      clear hg2 hb2 p0 p1 HG HGW HS KG3
      by_cases hpt : yp = -1
      · subst hpt
        go_wp2_with fail
        rw [← hPY]
        clear hPY y0 y1
        have HGG : ∀ wa wb, Grow w2 wa → Grow wa wb → Grow w2 wb := fun _ _ h q => Grow.trans' h q
        have HBG : ∀ wa wb, Grow wa wb → True → True := fun _ _ _ h => h
        have HG0 : ∀ w', Grow w2 w' → w'.heap = w2.heap → Grow w2 w' := fun _ h _ => h
        have HB0 : ∀ w', Grow w2 w' → w'.heap = w2.heap → True := fun _ _ _ => trivial
        let FF : Nat → Value → World → Prop := fun i vF wF => match i with | 0 => vF = .map (some sb) | 1 => vF = .agg #[.int .i64 yn, .int .i64 (-1)] | 2 => vF = .agg #[.slice gs gn gc, .slice gt gm gq] | 3 => vF = .agg #[.int .i64 yn, .int .i64 (-1)] | 4 => IsRowP (stepsAt N E ⟨yn, -1⟩) vF wF | _ => True
        let GG : World → Prop := fun w' => Grow w2 w'
        let BB : World → Prop := fun w' => True
        have hstab : ∀ k v w1 w2, Grow w1 w2 → FF k v w1 → FF k v w2 := by
          intro k v w1 w2 hg h
          match k with
          | 0 => exact h
          | 1 => exact h
          | 2 => exact h
          | 3 => exact h
          | 4 => exact IsRowP.later hg h
          | k + 5 => exact trivial
        have hGg : ∀ w1 w2, GG w1 → Grow w1 w2 → GG w2 := HGG
        have hBg : ∀ w1 w2, Grow w1 w2 → BB w1 → BB w2 := HBG
        refine wp_region_endG FF GG BB (fun _ => none) 999 5 _ rfl rfl rfl (by kernel_rfl) (by kernel_rfl) HG0 HB0 ?_ ?_
        · refine ⟨?_, ?_, ?_, ?_, ?_, trivial⟩
          · refine stepG_run hGg hBg hstab rfl ?_
            intro a' w' hg hs hd hb
            have e3 : a'.eval (.tmp 3) = .map (some sb) := hs.rest 3 rfl
            have ec : ∀ v, a'.eval (.const v) = v := fun _ => rfl
            have ef : ∀ g, a'.eval (.func g) = .func (.func g) #[] #[] := fun _ => rfl
            clear hd hs
            refine wpv (v := .map (some sb)) ?_ ⟨_, rfl, Grow.rfl' _, rfl⟩
            (generalize a'.eval = ev at ec ef e3 ⊢; simp [execOp, go_sem, *])
          · refine stepG_run hGg hBg hstab rfl ?_
            intro a' w' hg hs hd hb
            have e5 : a'.eval (.tmp 5) = .pointer (some ⟨PY, 0, none⟩) := hs.rest 5 rfl
            have ec : ∀ v, a'.eval (.const v) = v := fun _ => rfl
            have ef : ∀ g, a'.eval (.func g) = .func (.func g) #[] #[] := fun _ => rfl
            obtain ⟨y0, y1⟩ := (KY.out.later hg).1
            clear hd hs
            refine wpv (v := .agg #[.int .i64 yn, .int .i64 (-1)]) ?_ ⟨_, rfl, Grow.rfl' _, rfl⟩
            (generalize a'.eval = ev at ec ef e5 ⊢; simp [execOp, go_sem, *])
          · refine stepG_run hGg hBg hstab rfl ?_
            intro a' w' hg hs hd hb
            have e1 : a'.eval (.tmp 1) = .pointer (some ⟨PG, 0, none⟩) := hs.rest 1 rfl
            have ec : ∀ v, a'.eval (.const v) = v := fun _ => rfl
            have ef : ∀ g, a'.eval (.func g) = .func (.func g) #[] #[] := fun _ => rfl
            obtain ⟨g0, g1⟩ := KG4.out.later hg
            clear hd hs
            refine wpv (v := .agg #[.slice gs gn gc, .slice gt gm gq]) ?_ ⟨_, rfl, Grow.rfl' _, rfl⟩
            (generalize a'.eval = ev at ec ef e1 ⊢; simp [execOp, go_sem, *])
          · refine stepG_run hGg hBg hstab rfl ?_
            intro a' w' hg hs hd hb
            have e5 : a'.eval (.tmp 5) = .pointer (some ⟨PY, 0, none⟩) := hs.rest 5 rfl
            have ec : ∀ v, a'.eval (.const v) = v := fun _ => rfl
            have ef : ∀ g, a'.eval (.func g) = .func (.func g) #[] #[] := fun _ => rfl
            obtain ⟨y0, y1⟩ := (KY.out.later hg).1
            clear hd hs
            refine wpv (v := .agg #[.int .i64 yn, .int .i64 (-1)]) ?_ ⟨_, rfl, Grow.rfl' _, rfl⟩
            (generalize a'.eval = ev at ec ef e5 ⊢; simp [execOp, go_sem, *])
          · refine stepG_run hGg hBg hstab rfl ?_
            intro a' w' hg hs hd hb
            have e19 : a'.eval (.tmp 19) = .agg #[.slice gs gn gc, .slice gt gm gq] := hd ⟨2, Ground.data⟩ (by simp) rfl rfl
            have e20 : a'.eval (.tmp 20) = .agg #[.int .i64 yn, .int .i64 (-1)] := hd ⟨3, Ground.data⟩ (by simp) rfl rfl
            have ec : ∀ v, a'.eval (.const v) = v := fun _ => rfl
            have ef : ∀ g, a'.eval (.func g) = .func (.func g) #[] #[] := fun _ => rfl
            clear hd hs
            refine wpc ?_ (Calls.mono (along_row gs gn gc gt gm gq N E ⟨yn, -1⟩ rfl w' hn hm (HN2.out.later hg) (HE2.out.later hg)) fun e w2 ⟨v, he, hb, hv⟩ => ⟨v, he, _, rfl, hb, hv⟩)
            (generalize a'.eval = ev at ec ef e19 e20 ⊢; simp [execOp, go_sem, *])
        · intro a' w' hg hs hd
          have e17 : a'.eval (.tmp 17) = .map (some sb) := hd 0 (by omega) rfl
          have e18 : a'.eval (.tmp 18) = .agg #[.int .i64 yn, .int .i64 (-1)] := hd 1 (by omega) rfl
          obtain ⟨s21, n21, c21, e21, h21⟩ : IsRowP (stepsAt N E ⟨yn, -1⟩) (a'.eval (.tmp 21)) w' := hd 4 (by omega) rfl
          have ec : ∀ v, a'.eval (.const v) = v := fun _ => rfl
          have ef : ∀ g, a'.eval (.func g) = .func (.func g) #[] #[] := fun _ => rfl
          obtain ⟨w3, hrun, hS3, hg3⟩ := (HS2.out.later hg).set hPb hkd HY.out h21
          refine wps (w' := w3) ?_ ?_
          · (generalize a'.eval = ev at ec ef e17 e18 e21 ⊢; simp [execOp, go_sem, *])
          have HG3 : Hid (w1.grownBy w3 (some sb)) := hide ((HG2.out.andThen (grow_none hg) (fun j e => by cases e)).andThen hg3 (fun j e => .inr e))
          have HW3 := hide (growL_step (Grow.trans' HW2.out hg) hg3 hsbw)
          have HS3 := hide hS3
          clear hrun hS3 hg3 h21 e21 e18 ec ef hg HGG HBG HG0 HB0 hGg hBg hstab
          rw [frame_eq hs [false, false, false, false, false, false, false, false, false, false, false, false, false, false, false, false, false, true, true, true, true, true, false, false, false, false, false, false, false] (by kernel_rfl)]; simp only [mergeL]; clear hs hd; generalize a'.tmps = TT at *; try go_frame
          go_wp2_with fail
          go_roundw
          case rel => exact ⟨k + 1, _, by omega, by go_num, HG3.out, HW3.out, HS3.out⟩
          case measure => simp [intOf]; omega
      · skip
        go_wp2_with fail
        rw [← hPY]
        clear hPY y0 y1
        have HGG : ∀ wa wb, Grow w2 wa → Grow wa wb → Grow w2 wb := fun _ _ h q => Grow.trans' h q
        have HBG : ∀ wa wb, Grow wa wb → True → True := fun _ _ _ h => h
        have HG0 : ∀ w', Grow w2 w' → w'.heap = w2.heap → Grow w2 w' := fun _ h _ => h
        have HB0 : ∀ w', Grow w2 w' → w'.heap = w2.heap → True := fun _ _ _ => trivial
        let FF : Nat → Value → World → Prop := fun i vF wF => match i with | 0 => vF = .map (some sb) | 1 => vF = .agg #[.int .i64 yn, .int .i64 yp] | 2 => vF = .agg #[.slice gs gn gc, .slice gt gm gq] | 3 => vF = .agg #[.int .i64 yn, .int .i64 yp] | 4 => IsRowP (stepsAt N E ⟨yn, yp⟩) vF wF | _ => True
        let GG : World → Prop := fun w' => Grow w2 w'
        let BB : World → Prop := fun w' => True
        have hstab : ∀ k v w1 w2, Grow w1 w2 → FF k v w1 → FF k v w2 := by
          intro k v w1 w2 hg h
          match k with
          | 0 => exact h
          | 1 => exact h
          | 2 => exact h
          | 3 => exact h
          | 4 => exact IsRowP.later hg h
          | k + 5 => exact trivial
        have hGg : ∀ w1 w2, GG w1 → Grow w1 w2 → GG w2 := HGG
        have hBg : ∀ w1 w2, Grow w1 w2 → BB w1 → BB w2 := HBG
        refine wp_region_endG FF GG BB (fun _ => none) 999 5 _ rfl rfl rfl (by kernel_rfl) (by kernel_rfl) HG0 HB0 ?_ ?_
        · refine ⟨?_, ?_, ?_, ?_, ?_, trivial⟩
          · refine stepG_run hGg hBg hstab rfl ?_
            intro a' w' hg hs hd hb
            have e3 : a'.eval (.tmp 3) = .map (some sb) := hs.rest 3 rfl
            have ec : ∀ v, a'.eval (.const v) = v := fun _ => rfl
            have ef : ∀ g, a'.eval (.func g) = .func (.func g) #[] #[] := fun _ => rfl
            clear hd hs
            refine wpv (v := .map (some sb)) ?_ ⟨_, rfl, Grow.rfl' _, rfl⟩
            (generalize a'.eval = ev at ec ef e3 ⊢; simp [execOp, go_sem, *])
          · refine stepG_run hGg hBg hstab rfl ?_
            intro a' w' hg hs hd hb
            have e5 : a'.eval (.tmp 5) = .pointer (some ⟨PY, 0, none⟩) := hs.rest 5 rfl
            have ec : ∀ v, a'.eval (.const v) = v := fun _ => rfl
            have ef : ∀ g, a'.eval (.func g) = .func (.func g) #[] #[] := fun _ => rfl
            obtain ⟨y0, y1⟩ := (KY.out.later hg).1
            clear hd hs
            refine wpv (v := .agg #[.int .i64 yn, .int .i64 yp]) ?_ ⟨_, rfl, Grow.rfl' _, rfl⟩
            (generalize a'.eval = ev at ec ef e5 ⊢; simp [execOp, go_sem, *])
          · refine stepG_run hGg hBg hstab rfl ?_
            intro a' w' hg hs hd hb
            have e1 : a'.eval (.tmp 1) = .pointer (some ⟨PG, 0, none⟩) := hs.rest 1 rfl
            have ec : ∀ v, a'.eval (.const v) = v := fun _ => rfl
            have ef : ∀ g, a'.eval (.func g) = .func (.func g) #[] #[] := fun _ => rfl
            obtain ⟨g0, g1⟩ := KG4.out.later hg
            clear hd hs
            refine wpv (v := .agg #[.slice gs gn gc, .slice gt gm gq]) ?_ ⟨_, rfl, Grow.rfl' _, rfl⟩
            (generalize a'.eval = ev at ec ef e1 ⊢; simp [execOp, go_sem, *])
          · refine stepG_run hGg hBg hstab rfl ?_
            intro a' w' hg hs hd hb
            have e5 : a'.eval (.tmp 5) = .pointer (some ⟨PY, 0, none⟩) := hs.rest 5 rfl
            have ec : ∀ v, a'.eval (.const v) = v := fun _ => rfl
            have ef : ∀ g, a'.eval (.func g) = .func (.func g) #[] #[] := fun _ => rfl
            obtain ⟨y0, y1⟩ := (KY.out.later hg).1
            clear hd hs
            refine wpv (v := .agg #[.int .i64 yn, .int .i64 yp]) ?_ ⟨_, rfl, Grow.rfl' _, rfl⟩
            (generalize a'.eval = ev at ec ef e5 ⊢; simp [execOp, go_sem, *])
          · refine stepG_run hGg hBg hstab rfl ?_
            intro a' w' hg hs hd hb
            have e24 : a'.eval (.tmp 24) = .agg #[.slice gs gn gc, .slice gt gm gq] := hd ⟨2, Ground.data⟩ (by simp) rfl rfl
            have e25 : a'.eval (.tmp 25) = .agg #[.int .i64 yn, .int .i64 yp] := hd ⟨3, Ground.data⟩ (by simp) rfl rfl
            have ec : ∀ v, a'.eval (.const v) = v := fun _ => rfl
            have ef : ∀ g, a'.eval (.func g) = .func (.func g) #[] #[] := fun _ => rfl
            clear hd hs
            refine wpc ?_ (Calls.mono (through_row gs gn gc gt gm gq N E ⟨yn, yp⟩ hpt w' hn (HN2.out.later hg)) fun e w2 ⟨v, he, hb, hv⟩ => ⟨v, he, _, rfl, hb, hv⟩)
            (generalize a'.eval = ev at ec ef e24 e25 ⊢; simp [execOp, go_sem, *])
        · intro a' w' hg hs hd
          have e22 : a'.eval (.tmp 22) = .map (some sb) := hd 0 (by omega) rfl
          have e23 : a'.eval (.tmp 23) = .agg #[.int .i64 yn, .int .i64 yp] := hd 1 (by omega) rfl
          obtain ⟨s26, n26, c26, e26, h26⟩ : IsRowP (stepsAt N E ⟨yn, yp⟩) (a'.eval (.tmp 26)) w' := hd 4 (by omega) rfl
          have ec : ∀ v, a'.eval (.const v) = v := fun _ => rfl
          have ef : ∀ g, a'.eval (.func g) = .func (.func g) #[] #[] := fun _ => rfl
          obtain ⟨w3, hrun, hS3, hg3⟩ := (HS2.out.later hg).set hPb hkd HY.out h26
          refine wps (w' := w3) ?_ ?_
          · (generalize a'.eval = ev at ec ef e22 e23 e26 ⊢; simp [execOp, go_sem, *])
          have HG3 : Hid (w1.grownBy w3 (some sb)) := hide ((HG2.out.andThen (grow_none hg) (fun j e => by cases e)).andThen hg3 (fun j e => .inr e))
          have HW3 := hide (growL_step (Grow.trans' HW2.out hg) hg3 hsbw)
          have HS3 := hide hS3
          clear hrun hS3 hg3 h26 e26 e23 ec ef hg HGG HBG HG0 HB0 hGg hBg hstab
          rw [frame_eq hs [false, false, false, false, false, false, false, false, false, false, false, false, false, false, false, false, false, false, false, false, false, false, true, true, true, true, true, false, false] (by kernel_rfl)]; simp only [mergeL]; clear hs hd; generalize a'.tmps = TT at *; try go_frame
          go_wp2_with fail
          go_roundw
          case rel => exact ⟨k + 1, _, by omega, by go_num, HG3.out, HW3.out, HS3.out⟩
          case measure => simp [intOf]; omega
    · have hi2 : ¬ (k : Int) < (nx : Int) := by omega
      have hT : P.take k = P := List.take_of_length_le (by rw [HX.out.1]; omega)
      have HF : Hid (StpM wr sb P f (stepsAt N E)) := hide ⟨HS.out.map, fun x hx => HS.out.row x (by rw [hT]; exact hx)⟩
      clear hT
      go_wp2_with fail
      go_ret
      first
        | exact ⟨sb, f, rfl, HGW.out, HF.out⟩
        | exact ⟨sb, rfl, HGW.out, f, HF.out⟩

end Go.Proofs.YtehianjfpmbfpaaGreat
end

section
/-
  What New does to the world: of a graph that is accepted it makes, from each place, the fronts of what ways do, in maps of the call's own; what was there stays as it was.
-/
namespace Go.Proofs.YtehianjfpmbfpaaGreat
set_option maxRecDepth 100000
open Go.RowKit Go.Maps Go.Deep
set_option linter.unusedVariables false
set_option linter.unusedSimpArgs false
attribute [local go_sem ↓] run_makeMap

/-- A map of the fronts of all places, as seen from x. -/
def LowM (w : World) (N : List Nd) (E : List Ed) (x : Lc) (lb : Nat) : Prop := ∃ fl L, InF w lb (locs N) fl L ∧ ∀ b, Front (Way (stepsG N E) x (sameS (depP N x)) b) (L b)
theorem LowM.later {w w' : World} {N : List Nd} {E : List Ed} {x : Lc} {lb : Nat} (hg : Grow w w') : LowM w N E x lb → LowM w' N E x lb := fun ⟨fl, L, h, k⟩ => ⟨fl, L, h.later hg, k⟩
theorem LowM.mapTurn {w w' : World} {N : List Nd} {E : List Ed} {x : Lc} {lb g : Nat} (h : LowM w N E x lb) (hg : w.grownBy w' (some g)) {es : Array MapEntry} {cl : Nat} (hm : w.heap[g]? = some (.map es cl)) (hne : lb ≠ g) : LowM w' N E x lb := by
  obtain ⟨fl, L, h, k⟩ := h
  exact ⟨fl, L, h.mapTurn hg hm hne, k⟩
/-- A value is such a map, beyond B. -/
def LowV (N : List Nd) (E : List Ed) (x : Lc) (B : Nat) (v : Value) (w : World) : Prop := ∃ lb, v = .map (some lb) ∧ B ≤ lb ∧ LowM w N E x lb
theorem LowV.later {N : List Nd} {E : List Ed} {x : Lc} {B : Nat} {v : Value} {w w' : World} (hg : Grow w w') : LowV N E x B v w → LowV N E x B v w' := fun ⟨lb, e, h, k⟩ => ⟨lb, e, h, k.later hg⟩
/-- The maps of the places that are through. -/
structure PthK (w : World) (pb : Nat) (N : List Nd) (E : List Ed) (ff : Lc → Option Value) (left : Lit → Bool) : Prop where
  map : MapL w pb (locs N) ff
  row : ∀ x ∈ locs N, left (klL x) = false → ∃ lb, ff x = some (.map (some lb)) ∧ lb ≠ pb ∧ LowM w N E x lb
theorem PthK.later {w w' : World} {pb : Nat} {N : List Nd} {E : List Ed} {ff : Lc → Option Value} {left : Lit → Bool} (hg : Grow w w') (h : PthK w pb N E ff left) : PthK w' pb N E ff left :=
  ⟨h.map.later hg, fun x hx hl => by obtain ⟨lb, e, k, hI⟩ := h.row x hx hl; exact ⟨lb, e, k, hI.later hg⟩⟩
theorem PthK.iterTurn {w w' : World} {pb r : Nat} {N : List Nd} {E : List Ed} {ff : Lc → Option Value} {left : Lit → Bool} (h : PthK w pb N E ff left) (hg : w.grownBy w' (some r)) (hm : ∃ m x y z, w.heap[r]? = some (.mapIter m x y z)) : PthK w' pb N E ff left := by
  refine ⟨?_, fun x hx hl => by obtain ⟨lb, e, k, fl, L, hI, hF⟩ := h.row x hx hl; exact ⟨lb, e, k, fl, L, hI.iterTurn hg hm, hF⟩⟩
  obtain ⟨es, cl, hb⟩ := h.map.isMap
  obtain ⟨m, x0, y0, z0, hm⟩ := hm
  refine h.map.keep (hg.block pb h.map.lt fun e => ?_)
  simp at e
  rw [e, hm] at hb
  cases hb
theorem PthK.set {w : World} {pb lb : Nat} {N : List Nd} {E : List Ed} {ff : Lc → Option Value} {left : Lit → Bool} (h : PthK w pb N E ff left) (hwf : ∀ x ∈ locs N, LcWf x) (hP : (locs N).length < 1000000000) {x : Lc} (hx : x ∈ locs N) (hne : lb ≠ pb) (hL : LowM w N E x lb) :
    ∃ w', (Instr.mapUpdate 77 (.map (some pb)) (.agg #[.int .i64 x.n, .int .i64 x.p]) (.map (some lb))).run Tryz.prog w = .ok () w' ∧ PthK w' pb N E (putV ff x (.map (some lb))) (fun z => left z && !z.sameKey (klL x)) ∧ w.grownBy w' (some pb) := by
  obtain ⟨w', h1, h2, h3⟩ := h.map.set Tryz.underlying77 hP hx (.map (some lb))
  obtain ⟨es, cl, hb⟩ := h.map.isMap
  refine ⟨w', h1, ⟨h2, fun y hy hl => ?_⟩, h3⟩
  by_cases e : y = x
  · subst e
    rw [putV_same]
    exact ⟨lb, rfl, hne, hL.mapTurn h3 hb hne⟩
  · rw [putV_other ff _ e]
    obtain ⟨lb', e', k, hI⟩ := h.row y hy ((strikeL_other (left := left) (hwf x hx) (hwf y hy) e).symm.trans hl)
    exact ⟨lb', e', k, hI.mapTurn h3 hb k⟩
theorem StpM.mapTurn {w w' : World} {b g : Nat} {P : List Lc} {f : Lc → Option Value} {T : Lc → List Sp} (h : StpM w b P f T) (hg : w.grownBy w' (some g)) {es : Array MapEntry} {cl : Nat} (hm : w.heap[g]? = some (.map es cl)) (hne : b ≠ g) : StpM w' b P f T :=
  ⟨h.map.keep (hg.block b h.map.lt (by simpa using hne)), fun x hx => by obtain ⟨s, n, c, e, hI⟩ := h.row x hx; exact ⟨s, n, c, e, hI.mapTurn hg hm⟩⟩
/-- What New has made. -/
def IsPth (w : World) (p : Nat) (N : List Nd) (E : List Ed) : Prop := ∃ pb ff, w.cell? ⟨p, 0, none⟩ = some (.map (some pb)) ∧ PthK w pb N E ff (fun _ => false)
theorem IsPth.later {w w' : World} {p : Nat} {N : List Nd} {E : List Ed} (hg : Grow w w') : IsPth w p N E → IsPth w' p N E := fun ⟨pb, ff, h, k⟩ => ⟨pb, ff, cell_later hg h, k.later hg⟩
theorem stpS_of {N : List Nd} {E : List Ed} (hA : AccG N E) : StpS (locs N) (stepsAt N E) (stepsG N E) where
  mem y := by rw [mem_stepsG, mem_locs]
  to x hx y hy := by
    have h1 := (step_is hA (mem_stepsG.2 ⟨(mem_locs N x).1 hx, hy⟩ : (⟨x, y.b, y.r⟩ : Stp) ∈ stepsG N E)).1.2
    exact (mem_locs N _).2 h1
  few := steps_few' hA
theorem same_may {N : List Nd} {E : List Ed} (hA : AccG N E) {x : Lc} (hx : x ∈ locs N) : mayS (sameS (depP N x)) = true := (way_dep hA ((mem_locs N x).1 hx) .none).2.1
theorem low_at (gs : Option Addr) (gn gc : Nat) (gt : Option Addr) (gm gq : Nat) (N : List Nd) (E : List Ed) (hA : AccG N E) (sb : Nat) (fs : Lc → Option Value) (x : Lc) (hx : x ∈ locs N) {s0 : Sm} (hs : sameS (depP N x) = s0) (B : Nat) (w : World) (hB : B ≤ w.heap.size) (hM : StpM w sb (locs N) fs (stepsAt N E)) :
    Calls Tryz.prog 32 #[.map (some sb), .agg #[.int .i64 x.n, .int .i64 x.p], .agg #[.int .i64 s0.f, .int .i64 s0.t, .int .i64 s0.k, .int .i64 s0.ep, .int .i64 s0.x, .int .i64 s0.y, .int .i64 s0.z]] w fun e w' => ∃ v, e = .returned v ∧ Grow w w' ∧ LowV N E x B v w' := by
  subst hs
  have hl : (locs N).length ≤ 60 := Nat.le_trans locs_len (by have := hA.big; omega)
  refine (lowest_any sb (locs N) fs (stepsAt N E) (stepsG N E) x (sameS (depP N x)) (depP N x) (depP N) w hl hM (stpS_of hA) hx (same_may hA hx) (fun b s h => ?_)).mono fun e w' ⟨lb, fl, L, h1, h2, h3, h4, h5⟩ => ⟨_, h1, h2, lb, rfl, Nat.le_trans hB h3, fl, L, h4, h5⟩
  obtain ⟨h1, h2⟩ := way_dep hA ((mem_locs N x).1 hx) h
  exact ⟨(mem_locs N b).2 h1, h2⟩
set_option maxHeartbeats 4000000 in
theorem new_any (gs : Option Addr) (gn gc : Nat) (gt : Option Addr) (gm gq : Nat) (N : List Nd) (E : List Ed) (hA : AccG N E) (w : World) (hg : IsNds w gs gn gc N) (he : IsEds w gt gm gq E) :
    Calls Tryz.prog 11 #[.agg #[.slice gs gn gc, .slice gt gm gq]] w fun e w' => ∃ p, e = .returned (.pointer (some ⟨p, 0, none⟩)) ∧ Grow w w' ∧ IsPth w' p N E := by
  have hn : gn ≤ 20 := by rw [← hg.1]; have := hA.big; omega
  have hm : gm ≤ 40 := by rw [← he.1]; have := hA.big; omega
  have hNl : N.length ≤ 20 := by rw [hg.1]; exact hn
  have hPl : (locs N).length < 1000000000 := Nat.lt_of_le_of_lt locs_len (by omega)
  have GG : Hid (Grow w (w.alloc (.cells #[.slice gs gn gc, .slice gt gm gq] 25))) := hide (Grow.alloc' _ _)
  have KG : Hid (BoxG (w.alloc (.cells #[.slice gs gn gc, .slice gt gm gq] 25)) w.heap.size ⟨gs, gn, gc, gt, gm, gq, [], []⟩) := hide (BoxG.new w ⟨gs, gn, gc, gt, gm, gq, [], []⟩)
  have HN0 := hide hg
  have HE0 := hide he
  have C := hide (stepsOf_any gs gn gc gt gm gq N E (w.alloc (.cells #[.slice gs gn gc, .slice gt gm gq] 25)) hn hm (hg.later GG.out) (he.later GG.out))
  have HA := hide hA
  have hwf := hide (locs_wf hNl)
  obtain ⟨g0, g1⟩ := KG.out
  dsimp only at g0 g1
  obtain ⟨PG, hPG⟩ : ∃ PG, PG = w.heap.size := ⟨_, rfl⟩
  clear hg he hA
  go_enter Tryz.func11, Tryz.ntmps11
  go_wp2_with fail
  refine C.out.mono ?_
  rintro _ w1 ⟨sb, fs, rfl, hb, hS⟩
  have GW1 := hide (Grow.trans' GG.out hb)
  have KG1 := hide (KG.out.later hb)
  have HS1 := hide hS
  have hsb1 : sb < w1.heap.size := hS.map.lt
  rw [← hPG] at KG1
  clear hb hS g0 g1 KG C GG
  obtain ⟨D, hMD⟩ := HS1.out.map
  have HMD := hide (hMD.keep (w' := (w1.alloc (.map #[] 0)).alloc (.cells #[.map (some w1.heap.size)] 79)) ((Grow.trans' (Grow.alloc' _ _) (Grow.alloc' _ _)).block sb hsb1))
  have HMDk := hide hMD
  clear hMD
  go_wp2_with (at_range; refine wpList_range_L rfl _ 75 _ Tryz.underlying75 rfl sb (locs N) fs D rfl HMD.out ?_; intro w0 hrg0 hg0 hs0)
  try go_frame
  obtain ⟨pb, hpb⟩ : ∃ pb, pb = w1.heap.size := ⟨_, rfl⟩
  obtain ⟨p, hp⟩ : ∃ p, p = w1.heap.size + 1 := ⟨_, rfl⟩
  have hpbw : w1.heap.size ≤ pb := by omega
  have hne : sb ≠ pb := by omega
  have hpw : w1.heap.size ≤ p := by omega
  obtain ⟨r, hr⟩ : ∃ r, r = ((w1.alloc (.map #[] 0)).alloc (.cells #[.map (some w1.heap.size)] 79)).heap.size := ⟨_, rfl⟩
  have hrw : w1.heap.size ≤ r := by rw [hr]; simp; omega
  have hz : (w1.alloc (.map #[] 0)).heap.size = w1.heap.size + 1 := by simp
  rw [← hr] at hrg0
  have HK0 : Hid (KeepR w1 w0 sb r (cntV (locs N) fs) D (Maps.has D) (cntV (locs N) fs)) := hide ⟨hrg0, Grow.trans' (Grow.trans' (Grow.alloc' _ _) (Grow.alloc' _ _)) hg0⟩
  have HC0 : Hid (w0.cell? ⟨p, 0, none⟩ = some (.map (some pb))) := hide (by rw [hp, hpb]; exact cell_later hg0 (by rw [← hz]; simp [go_sem]))
  have HP0 : Hid (PthK w0 pb N E (fun _ => none) (Maps.has D)) := hide ⟨by rw [hpb]; exact ((MapL.new w1 (locs N) (locs_nodup N) hwf.out).later (Grow.alloc' _ _)).later hg0, fun x hx hl => by
    have h1 := HMDk.out.has x (hwf.out x hx)
    rw [hl] at h1
    obtain ⟨s', n', c', e, _⟩ := HS1.out.row x hx
    rw [e] at h1; cases h1⟩
  rw [← hr, ← hp, ← hpb, ← hPG]
  clear hrg0 hg0 hs0 HMD hr hz hp hpb hPG
  go_loopw [] (fun wr => ∃ (left : Lit → Bool) (cnt : Nat) (ff : Lc → Option Value), KeepR w1 wr sb r (cntV (locs N) fs) D left cnt ∧ wr.cell? ⟨p, 0, none⟩ = some (.map (some pb)) ∧ PthK wr pb N E ff left) (fun wr => wr.rangeLeft sb r)
  case atStart => exact ⟨_, _, _, HK0.out, HC0.out, HP0.out⟩
  case round =>
    obtain ⟨left, cnt, ff, hK, hC, hP⟩ := hrel
    have HK := hide hK
    have HC := hide hC
    have HP := hide hP
    clear hK hC hP HK0 HC0 HP0
    go_wp2_with (at_next; refine wpList_next_L rfl _ rfl sb r (locs N) fs D w1 HMDk.out left cnt rfl HK.out.rg ?_ ?_)
    · intro hl
      have HL := hide hl
      clear hl
      go_wp2_with fail
      go_ret
      have HF : IsPth wr p N E := ⟨pb, ff, HC.out, HP.out.map, fun x hx _ => HP.out.row x hx (HL.out _)⟩
      exact ⟨p, rfl, Grow.trans' GW1.out HK.out.gr, HF⟩
    · intro x v wi cnt1 hwx hfx hlx hrg1 hlt hg1 hs1 hen
      have hx : x ∈ locs N := HMDk.out.keys x (by rw [hfx]; simp)
      obtain ⟨left1, hL'⟩ : ∃ left1, left1 = fun z : Lit => left z && !z.sameKey (klL x) := ⟨_, rfl⟩
      rw [← hL'] at hrg1
      have hiter := (ranges_iter HK.out.rg).2
      have HK1 : Hid (KeepR w1 wi sb r (cntV (locs N) fs) D left1 cnt1) := hide ⟨hrg1, growL_step HK.out.gr hg1 hrw⟩
      have HP1 := hide (HP.out.iterTurn hg1 hiter)
      have HC1 : Hid (wi.cell? ⟨p, 0, none⟩ = some (.map (some pb))) := hide (cell_turn HC.out hg1 (fun e => by
        obtain ⟨m, x0, y0, z0, hm⟩ := hiter
        have h2 := HC.out
        rw [e] at h2
        simp [World.cell?, hm] at h2))
      have HLE := hide HK.out.rg.left_eq
      have HX := hide hx
      have HLT := hide hlt
      have HL1 := hide hL'
      clear hwx hlx hrg1 hlt hg1 hs1 HK HP HC hL' hx hiter
      go_wp2_with (refine wpList_putL rfl _ _ rfl wi.heap.size x rfl rfl (BlkL.new wi) wi (Grow.alloc' _ _) (Nat.le_refl _) ?_)
      intro w2 hg2 hb2
      have HK2 := hide (HK1.out.later hg2)
      have HP2 := hide (HP1.out.later hg2)
      have HC2 : Hid (w2.cell? ⟨p, 0, none⟩ = some (.map (some pb))) := hide (cell_later hg2 HC1.out)
      have KX := hide hb2
      have KG2 := hide (KG1.out.later HK2.out.gr)
      have HN2 := hide (HN0.out.later (Grow.trans' GW1.out HK2.out.gr))
      have HS2 := hide (HS1.out.later HK2.out.gr)
      have hpl : p < w2.heap.size := World.block_lt_of_cell? _ _ HC2.out
      have hpbl : pb < w2.heap.size := HP2.out.map.lt
      obtain ⟨PX, hPX⟩ : ∃ PX, PX = wi.heap.size := ⟨_, rfl⟩
      rw [← hPX] at KX
      obtain ⟨s0, hs0⟩ : ∃ s0, sameS (depP N x) = s0 := ⟨_, rfl⟩
      have HS0 := hide hs0
      clear hg2 hb2 hen HK1 HP1 HC1 hs0
      obtain ⟨wo, rfl⟩ : ∃ wo : World, wo = wr := ⟨_, rfl⟩
      go_wp2_with fail
      rw [← hPX]
      clear hPX
      have HGG : ∀ wa wb, Grow w2 wa → Grow wa wb → Grow w2 wb := fun _ _ h q => Grow.trans' h q
      have HBG : ∀ wa wb, Grow wa wb → True → True := fun _ _ _ h => h
      have HG0 : ∀ w', Grow w2 w' → w'.heap = w2.heap → Grow w2 w' := fun _ h _ => h
      have HB0 : ∀ w', Grow w2 w' → w'.heap = w2.heap → True := fun _ _ _ => trivial
      let FF : Nat → Value → World → Prop := fun i vF wF => match i with | 0 => vF = .pointer (some ⟨p, 0, none⟩) | 1 => vF = .pointer (some ⟨p, 0, none⟩) | 2 => vF = .pointer (some ⟨p, 0, none⟩) | 3 => vF = .map (some pb) | 4 => vF = .agg #[.int .i64 x.n, .int .i64 x.p] | 5 => vF = .map (some sb) | 6 => vF = .agg #[.int .i64 x.n, .int .i64 x.p] | 7 => vF = .agg #[.slice gs gn gc, .slice gt gm gq] | 8 => vF = .agg #[.int .i64 x.n, .int .i64 x.p] | 9 => vF = .int .i64 (depP N x) | 10 => vF = .agg #[.int .i64 s0.f, .int .i64 s0.t, .int .i64 s0.k, .int .i64 s0.ep, .int .i64 s0.x, .int .i64 s0.y, .int .i64 s0.z] | 11 => LowV N E x w2.heap.size vF wF | _ => True
      let GG : World → Prop := fun w' => Grow w2 w'
      let BB : World → Prop := fun w' => True
      have hstab : ∀ k v w1 w2, Grow w1 w2 → FF k v w1 → FF k v w2 := by
        intro k v w1 w2 hg h
        match k with
        | 0 => exact h
        | 1 => exact h
        | 2 => exact h
        | 3 => exact h
        | 4 => exact h
        | 5 => exact h
        | 6 => exact h
        | 7 => exact h
        | 8 => exact h
        | 9 => exact h
        | 10 => exact h
        | 11 => exact LowV.later hg h
        | k + 12 => exact trivial
      have hGg : ∀ w1 w2, GG w1 → Grow w1 w2 → GG w2 := HGG
      have hBg : ∀ w1 w2, Grow w1 w2 → BB w1 → BB w2 := HBG
      refine wp_region_endG FF GG BB (fun _ => none) 999 12 _ rfl rfl rfl (by kernel_rfl) (by kernel_rfl) HG0 HB0 ?_ ?_
      · refine ⟨?_, ?_, ?_, ?_, ?_, ?_, ?_, ?_, ?_, ?_, ?_, ?_, trivial⟩
        · refine stepG_run hGg hBg hstab rfl ?_
          intro a' w' hg hs hd hb
          have e4 : a'.eval (.tmp 4) = .pointer (some ⟨p, 0, none⟩) := hs.rest 4 rfl
          have ec : ∀ v, a'.eval (.const v) = v := fun _ => rfl
          have ef : ∀ g, a'.eval (.func g) = .func (.func g) #[] #[] := fun _ => rfl
          clear hd hs
          refine wpv (v := .pointer (some ⟨p, 0, none⟩)) ?_ ⟨_, rfl, Grow.rfl' _, rfl⟩
          (generalize a'.eval = ev at ec ef e4 ⊢; simp [execOp, go_sem, *])
        · refine stepG_run hGg hBg hstab rfl ?_
          intro a' w' hg hs hd hb
          have e17 : a'.eval (.tmp 17) = .pointer (some ⟨p, 0, none⟩) := hd ⟨0, Ground.data⟩ (by simp) rfl rfl
          have ec : ∀ v, a'.eval (.const v) = v := fun _ => rfl
          have ef : ∀ g, a'.eval (.func g) = .func (.func g) #[] #[] := fun _ => rfl
          clear hd hs
          refine wpv (v := .pointer (some ⟨p, 0, none⟩)) ?_ ⟨_, rfl, Grow.rfl' _, rfl⟩
          (generalize a'.eval = ev at ec ef e17 ⊢; simp [execOp, go_sem, *])
        · refine stepG_run hGg hBg hstab rfl ?_
          intro a' w' hg hs hd hb
          have e18 : a'.eval (.tmp 18) = .pointer (some ⟨p, 0, none⟩) := hd ⟨1, Ground.data⟩ (by simp) rfl rfl
          have ec : ∀ v, a'.eval (.const v) = v := fun _ => rfl
          have ef : ∀ g, a'.eval (.func g) = .func (.func g) #[] #[] := fun _ => rfl
          clear hd hs
          refine wpv (v := .pointer (some ⟨p, 0, none⟩)) ?_ ⟨_, rfl, Grow.rfl' _, rfl⟩
          (generalize a'.eval = ev at ec ef e18 ⊢; simp [execOp, go_sem, *])
        · refine stepG_run hGg hBg hstab rfl ?_
          intro a' w' hg hs hd hb
          have e19 : a'.eval (.tmp 19) = .pointer (some ⟨p, 0, none⟩) := hd ⟨2, Ground.data⟩ (by simp) rfl rfl
          have ec : ∀ v, a'.eval (.const v) = v := fun _ => rfl
          have ef : ∀ g, a'.eval (.func g) = .func (.func g) #[] #[] := fun _ => rfl
          have pc := cell_later hg HC2.out
          clear hd hs
          refine wpv (v := .map (some pb)) ?_ ⟨_, rfl, Grow.rfl' _, rfl⟩
          (generalize a'.eval = ev at ec ef e19 ⊢; simp [execOp, go_sem, *])
        · refine stepG_run hGg hBg hstab rfl ?_
          intro a' w' hg hs hd hb
          have e5 : a'.eval (.tmp 5) = .pointer (some ⟨PX, 0, none⟩) := hs.rest 5 rfl
          have ec : ∀ v, a'.eval (.const v) = v := fun _ => rfl
          have ef : ∀ g, a'.eval (.func g) = .func (.func g) #[] #[] := fun _ => rfl
          obtain ⟨y0, y1⟩ := KX.out.later hg
          clear hd hs
          refine wpv (v := .agg #[.int .i64 x.n, .int .i64 x.p]) ?_ ⟨_, rfl, Grow.rfl' _, rfl⟩
          (generalize a'.eval = ev at ec ef e5 ⊢; simp [execOp, go_sem, *])
        · refine stepG_run hGg hBg hstab rfl ?_
          intro a' w' hg hs hd hb
          have e3 : a'.eval (.tmp 3) = .map (some sb) := hs.rest 3 rfl
          have ec : ∀ v, a'.eval (.const v) = v := fun _ => rfl
          have ef : ∀ g, a'.eval (.func g) = .func (.func g) #[] #[] := fun _ => rfl
          clear hd hs
          refine wpv (v := .map (some sb)) ?_ ⟨_, rfl, Grow.rfl' _, rfl⟩
          (generalize a'.eval = ev at ec ef e3 ⊢; simp [execOp, go_sem, *])
        · refine stepG_run hGg hBg hstab rfl ?_
          intro a' w' hg hs hd hb
          have e5 : a'.eval (.tmp 5) = .pointer (some ⟨PX, 0, none⟩) := hs.rest 5 rfl
          have ec : ∀ v, a'.eval (.const v) = v := fun _ => rfl
          have ef : ∀ g, a'.eval (.func g) = .func (.func g) #[] #[] := fun _ => rfl
          obtain ⟨y0, y1⟩ := KX.out.later hg
          clear hd hs
          refine wpv (v := .agg #[.int .i64 x.n, .int .i64 x.p]) ?_ ⟨_, rfl, Grow.rfl' _, rfl⟩
          (generalize a'.eval = ev at ec ef e5 ⊢; simp [execOp, go_sem, *])
        · refine stepG_run hGg hBg hstab rfl ?_
          intro a' w' hg hs hd hb
          have e1 : a'.eval (.tmp 1) = .pointer (some ⟨PG, 0, none⟩) := hs.rest 1 rfl
          have ec : ∀ v, a'.eval (.const v) = v := fun _ => rfl
          have ef : ∀ g, a'.eval (.func g) = .func (.func g) #[] #[] := fun _ => rfl
          obtain ⟨g0, g1⟩ := KG2.out.later hg
          clear hd hs
          refine wpv (v := .agg #[.slice gs gn gc, .slice gt gm gq]) ?_ ⟨_, rfl, Grow.rfl' _, rfl⟩
          (generalize a'.eval = ev at ec ef e1 ⊢; simp [execOp, go_sem, *])
        · refine stepG_run hGg hBg hstab rfl ?_
          intro a' w' hg hs hd hb
          have e5 : a'.eval (.tmp 5) = .pointer (some ⟨PX, 0, none⟩) := hs.rest 5 rfl
          have ec : ∀ v, a'.eval (.const v) = v := fun _ => rfl
          have ef : ∀ g, a'.eval (.func g) = .func (.func g) #[] #[] := fun _ => rfl
          obtain ⟨y0, y1⟩ := KX.out.later hg
          clear hd hs
          refine wpv (v := .agg #[.int .i64 x.n, .int .i64 x.p]) ?_ ⟨_, rfl, Grow.rfl' _, rfl⟩
          (generalize a'.eval = ev at ec ef e5 ⊢; simp [execOp, go_sem, *])
        · refine stepG_run hGg hBg hstab rfl ?_
          intro a' w' hg hs hd hb
          have e24 : a'.eval (.tmp 24) = .agg #[.slice gs gn gc, .slice gt gm gq] := hd ⟨7, Ground.data⟩ (by simp) rfl rfl
          have e25 : a'.eval (.tmp 25) = .agg #[.int .i64 x.n, .int .i64 x.p] := hd ⟨8, Ground.data⟩ (by simp) rfl rfl
          have ec : ∀ v, a'.eval (.const v) = v := fun _ => rfl
          have ef : ∀ g, a'.eval (.func g) = .func (.func g) #[] #[] := fun _ => rfl
          clear hd hs
          refine wpc ?_ (Calls.mono (dep_raw gs gn gc gt gm gq N x.n x.p w' hn (HN2.out.later hg)) fun e w2 ⟨he, hb⟩ => ⟨_, he, _, rfl, hb, rfl⟩)
          (generalize a'.eval = ev at ec ef e24 e25 ⊢; simp [execOp, go_sem, *])
        · refine stepG_run hGg hBg hstab rfl ?_
          intro a' w' hg hs hd hb
          have e26 : a'.eval (.tmp 26) = .int .i64 (depP N x) := hd ⟨9, Ground.data⟩ (by simp) rfl rfl
          have ec : ∀ v, a'.eval (.const v) = v := fun _ => rfl
          have ef : ∀ g, a'.eval (.func g) = .func (.func g) #[] #[] := fun _ => rfl
          clear hd hs
          refine wpc ?_ (Calls.mono (samS_at (depP N x) HS0.out w') fun e w2 ⟨he, hb⟩ => ⟨_, he, _, rfl, hb, rfl⟩)
          (generalize a'.eval = ev at ec ef e26 ⊢; simp [execOp, go_sem, *])
        · refine stepG_run hGg hBg hstab rfl ?_
          intro a' w' hg hs hd hb
          have e22 : a'.eval (.tmp 22) = .map (some sb) := hd ⟨5, Ground.data⟩ (by simp) rfl rfl
          have e23 : a'.eval (.tmp 23) = .agg #[.int .i64 x.n, .int .i64 x.p] := hd ⟨6, Ground.data⟩ (by simp) rfl rfl
          have e27 : a'.eval (.tmp 27) = .agg #[.int .i64 s0.f, .int .i64 s0.t, .int .i64 s0.k, .int .i64 s0.ep, .int .i64 s0.x, .int .i64 s0.y, .int .i64 s0.z] := hd ⟨10, Ground.data⟩ (by simp) rfl rfl
          have ec : ∀ v, a'.eval (.const v) = v := fun _ => rfl
          have ef : ∀ g, a'.eval (.func g) = .func (.func g) #[] #[] := fun _ => rfl
          clear hd hs
          refine wpc ?_ (Calls.mono (low_at gs gn gc gt gm gq N E HA.out sb fs x HX.out HS0.out w2.heap.size w' hg.size (HS2.out.later hg)) fun e w2 ⟨v, he, hb, hv⟩ => ⟨v, he, _, rfl, hb, hv⟩)
          (generalize a'.eval = ev at ec ef e22 e23 e27 ⊢; simp [execOp, go_sem, *])
      · intro a' w' hg hs hd
        have e20 : a'.eval (.tmp 20) = .map (some pb) := hd 3 (by omega) rfl
        have e21 : a'.eval (.tmp 21) = .agg #[.int .i64 x.n, .int .i64 x.p] := hd 4 (by omega) rfl
        obtain ⟨lb28, e28, hl28, hm28⟩ : LowV N E x w2.heap.size (a'.eval (.tmp 28)) w' := hd 11 (by omega) rfl
        have ec : ∀ v, a'.eval (.const v) = v := fun _ => rfl
        have ef : ∀ g, a'.eval (.func g) = .func (.func g) #[] #[] := fun _ => rfl
        obtain ⟨w3, hrun, hP3, hg3⟩ := (HP2.out.later hg).set hwf.out hPl HX.out (by omega) hm28
        rw [← HL1.out] at hP3
        refine wps (w' := w3) ?_ ?_
        · (generalize a'.eval = ev at ec ef e20 e21 e28 ⊢; simp [execOp, go_sem, *])
        have hmm := (HP2.out.later hg).map.isMap
        have HK3 := hide ((HK2.out.later hg).mapTurn hg3 hmm hpbw hne)
        have HC3 : Hid (w3.cell? ⟨p, 0, none⟩ = some (.map (some pb))) := hide (cell_mapTurn (cell_later hg HC2.out) hg3 hmm.choose_spec.choose_spec)
        have HP3 := hide hP3
        clear hrun hP3 hg3 hm28 hl28 e28 e20 e21 ec ef hg HGG HBG HG0 HB0 hGg hBg hstab hmm
        rw [frame_eq hs [false, false, false, false, false, false, false, false, false, false, false, false, false, false, false, false, false, true, true, true, true, true, true, true, true, true, true, true, true, false] (by kernel_rfl)]; simp only [mergeL]; clear hs hd; generalize a'.tmps = TT at *; try go_frame
        go_wp2_with fail
        go_roundw
        case rel => exact ⟨left1, cnt1, _, HK3.out, HC3.out, HP3.out⟩
        case measure => rw [HK3.out.rg.left_eq, HLE.out]; exact HLT.out

end Go.Proofs.YtehianjfpmbfpaaGreat
end

section
/-
  What Sums, made, Could and Front of a Paths do to the world: what the fronts between places make of times; what was there stays as it was.
-/
namespace Go.Proofs.YtehianjfpmbfpaaGreat
set_option maxRecDepth 100000
open Go.RowKit Go.Maps Go.Deep
set_option linter.unusedVariables false
set_option linter.unusedSimpArgs false

/-- What summaries make of a time; those that go over, and all, if it may not be so, are left out. -/
def madeL (l : List Sm) (t : Tm) : List Tm := (l.filter fun s => decide (applyE s t = 0)).map fun s => applyT s t
theorem madeL_step (l : List Sm) (t : Tm) (k : Nat) (h : k < l.length) : madeL (l.take (k + 1)) t = madeL (l.take k) t ++ if applyE l[k] t = 0 then [applyT l[k] t] else [] := by
  unfold madeL
  rw [← List.take_append_getElem h, List.filter_append, List.map_append]
  congr 1
  by_cases hc : applyE l[k] t = 0 <;> simp [hc]
theorem madeL_len (l : List Sm) (t : Tm) : (madeL l t).length ≤ l.length := by
  unfold madeL
  rw [List.length_map]
  exact List.length_filter_le _ _
/-- What changes that count make together. -/
def frontL (sm : Lc → List Sm) (cs : List Ch) : List Tm := cs.flatMap fun c => if 0 < c.n then madeL (sm c.l) c.t else []
theorem frontL_step (sm : Lc → List Sm) (cs : List Ch) (k : Nat) (h : k < cs.length) : frontL sm (cs.take (k + 1)) = frontL sm (cs.take k) ++ if 0 < cs[k].n then madeL (sm cs[k].l) cs[k].t else [] := by
  unfold frontL
  rw [← List.take_append_getElem h, List.flatMap_append]
  simp
theorem frontL_len {sm : Lc → List Sm} : ∀ cs : List Ch, (∀ c ∈ cs, (sm c.l).length ≤ BIG) → (frontL sm cs).length ≤ cs.length * BIG
  | [], _ => by simp [frontL]
  | c :: cs, hs => by
    have ih := frontL_len cs fun x hx => hs x (List.mem_cons.2 (.inr hx))
    have e : frontL sm (c :: cs) = (if 0 < c.n then madeL (sm c.l) c.t else []) ++ frontL sm cs := rfl
    rw [e, List.length_append, List.length_cons, Nat.succ_mul]
    have h1 := Nat.le_trans (madeL_len (sm c.l) c.t) (hs c (by simp))
    split
    · omega
    · simp; omega
theorem zeroDoings (w : World) : (zeroValue 81).run Tryz.prog w = .ok (.map none) w := by kernel_rfl
/-- What a Paths has of two places. -/
theorem IsPth.look {w : World} {p : Nat} {N : List Nd} {E : List Ed} (h : IsPth w p N E) (a b : Lc) (ha : LcWf a) (hb : LcWf b) :
    ∃ pb mv s n c l, w.cell? ⟨p, 0, none⟩ = some (.map (some pb)) ∧ SumsOf N E a b l ∧ IsSms w s n c l ∧
      (∀ w', Grow w w' → (Instr.lookup 77 (.map (some pb)) (.agg #[.int .i64 a.n, .int .i64 a.p]) false).run Tryz.prog w' = .ok mv w') ∧
      ∀ w', Grow w w' → (Instr.lookup 81 mv (.agg #[.int .i64 b.n, .int .i64 b.p]) false).run Tryz.prog w' = .ok (.slice s n c) w' := by
  obtain ⟨pb, ff, hc, hK⟩ := h
  have h1 := fun w' (hg : Grow w w') => (hK.map.later hg).get Tryz.underlying77 (zeroDoings w') ha
  unfold vL at h1
  cases hp : isP N a
  · have hf : ff a = none := by
      cases hfa : ff a with
      | none => rfl
      | some v =>
        have := (mem_locs N a).1 (hK.map.keys (x := a) (by rw [hfa]; simp))
        rw [hp] at this; cases this
    rw [hf] at h1
    refine ⟨pb, .map none, none, 0, 0, [], hc, ⟨fun q => (by rw [hp] at q; cases q), fun _ => rfl⟩, ⟨rfl, Nat.le_refl _, .inl rfl⟩, h1, fun w' _ => ?_⟩
    have := get_none w' Tryz.underlying81 (zeroSlice w') hb
    unfold vL at this
    exact this
  · obtain ⟨lb, e, _, fl, L, hI, hF⟩ := hK.row a ((mem_locs N a).2 hp) rfl
    rw [e] at h1
    obtain ⟨s, n, c, hl, hget⟩ := hI.getK hb
    exact ⟨pb, .map (some lb), s, n, c, L b, hc, ⟨fun _ => hF b, fun q => (by rw [hp] at q; cases q)⟩, hl, h1, hget⟩
theorem IsPth.has {w : World} {p : Nat} {N : List Nd} {E : List Ed} (h : IsPth w p N E) (a b : Lc) (ha : LcWf a) (hb : LcWf b) : ∃ l, SumsOf N E a b l := by
  obtain ⟨_, _, _, _, _, l, _, hl, _⟩ := h.look a b ha hb
  exact ⟨l, hl⟩
theorem BoxL.two (w : World) (a b : Lc) : BoxL ((w.alloc (.cells #[.int .i64 a.n, .int .i64 a.p] 27)).alloc (.cells #[.int .i64 b.n, .int .i64 b.p] 27)) (w.heap.size + 1) b := by
  have hz : (w.alloc (.cells #[.int .i64 a.n, .int .i64 a.p] 27)).heap.size = w.heap.size + 1 := by simp
  rw [← hz]; exact BoxL.new _ b
set_option maxHeartbeats 2000000 in
theorem psums_any (p : Nat) (N : List Nd) (E : List Ed) (hA : AccG N E) (a b : Lc) (ha : LcWf a) (hb : LcWf b) (l : List Sm) (hl : SumsOf N E a b l) (w : World) (hI : IsPth w p N E) :
    Calls Tryz.prog 13 #[.pointer (some ⟨p, 0, none⟩), .agg #[.int .i64 a.n, .int .i64 a.p], .agg #[.int .i64 b.n, .int .i64 b.p]] w fun e w' => ∃ v, e = .returned v ∧ Grow w w' ∧ IsRowM l v w' := by
  have G0 : Hid (Grow w ((w.alloc (.cells #[.int .i64 a.n, .int .i64 a.p] 27)).alloc (.cells #[.int .i64 b.n, .int .i64 b.p] 27))) := hide (Grow.trans' (Grow.alloc' _ _) (Grow.alloc' _ _))
  have KA : Hid (BoxL ((w.alloc (.cells #[.int .i64 a.n, .int .i64 a.p] 27)).alloc (.cells #[.int .i64 b.n, .int .i64 b.p] 27)) w.heap.size a) := hide ((BoxL.new w a).later (Grow.alloc' _ _))
  have KB : Hid (BoxL ((w.alloc (.cells #[.int .i64 a.n, .int .i64 a.p] 27)).alloc (.cells #[.int .i64 b.n, .int .i64 b.p] 27)) (w.heap.size + 1) b) := hide (BoxL.two w a b)
  obtain ⟨pb, mv, s, n, c, l', hc, hl', hS, h1, h2⟩ := (hI.later G0.out).look a b ha hb
  obtain rfl := sumsOf_unique hA hl hl'
  have HC := hide hc
  have HS := hide hS
  have H1 := hide h1
  have H2 := hide h2
  have hnl : n ≤ 4012012004 := by rw [← hS.1, ← BIG_eq]; exact sumsOf_len hA hl
  clear hI hl hl' hc hS h1 h2
  go_enter Tryz.func13, Tryz.ntmps13
  go_wp2_with fail
  generalize (w.alloc (.cells #[.int .i64 a.n, .int .i64 a.p] 27)).alloc (.cells #[.int .i64 b.n, .int .i64 b.p] 27) = w0 at *
  let FF : Nat → Value → World → Prop := fun i vF wF => match i with | 0 => vF = .pointer (some ⟨p, 0, none⟩) | 1 => vF = .pointer (some ⟨p, 0, none⟩) | 2 => vF = .pointer (some ⟨p, 0, none⟩) | 3 => vF = .map (some pb) | 4 => vF = .agg #[.int .i64 a.n, .int .i64 a.p] | 5 => vF = mv | 6 => vF = .agg #[.int .i64 b.n, .int .i64 b.p] | 7 => vF = .slice s n c | 8 => OwnRowM w0.heap.size l vF wF | 9 => OwnRowM w0.heap.size l vF wF | _ => True
  have hstab : ∀ k v w1 w2, Grow w1 w2 → FF k v w1 → FF k v w2 := by
    intro k v w1 w2 hg h
    match k with
    | 0 => exact h
    | 1 => exact h
    | 2 => exact h
    | 3 => exact h
    | 4 => exact h
    | 5 => exact h
    | 6 => exact h
    | 7 => exact h
    | 8 => exact OwnRowM.later hg h
    | 9 => exact OwnRowM.later hg h
    | k + 10 => exact trivial
  refine wp_region_invK FF (fun _ => none) (by kernel_rfl) (by kernel_rfl) ?_ ?_
  · refine ⟨?_, ?_, ?_, ?_, ?_, ?_, ?_, ?_, ?_, ?_, trivial⟩
    · refine stepK_run hstab trivial (by intro j b h; cases h) ?_
      intro a' w' hg hs hd
      have e0 : a'.eval (.tmp 0) = .pointer (some ⟨p, 0, none⟩) := hs.rest 0 rfl
      have ec : ∀ v, a'.eval (.const v) = v := fun _ => rfl
      have ef : ∀ g, a'.eval (.func g) = .func (.func g) #[] #[] := fun _ => rfl
      clear hd hs
      refine wpv (v := .pointer (some ⟨p, 0, none⟩)) ?_ ⟨_, rfl, Grow.rfl' _, rfl⟩
      (generalize a'.eval = ev at ec ef e0 ⊢; simp [execOp, go_sem, *])
    · refine stepK_run hstab trivial (by intro j b h; cases h) ?_
      intro a' w' hg hs hd
      have e7 : a'.eval (.tmp 7) = .pointer (some ⟨p, 0, none⟩) := hd ⟨0, Ground.data⟩ (by simp) rfl rfl
      have ec : ∀ v, a'.eval (.const v) = v := fun _ => rfl
      have ef : ∀ g, a'.eval (.func g) = .func (.func g) #[] #[] := fun _ => rfl
      clear hd hs
      refine wpv (v := .pointer (some ⟨p, 0, none⟩)) ?_ ⟨_, rfl, Grow.rfl' _, rfl⟩
      (generalize a'.eval = ev at ec ef e7 ⊢; simp [execOp, go_sem, *])
    · refine stepK_run hstab trivial (by intro j b h; cases h) ?_
      intro a' w' hg hs hd
      have e8 : a'.eval (.tmp 8) = .pointer (some ⟨p, 0, none⟩) := hd ⟨1, Ground.data⟩ (by simp) rfl rfl
      have ec : ∀ v, a'.eval (.const v) = v := fun _ => rfl
      have ef : ∀ g, a'.eval (.func g) = .func (.func g) #[] #[] := fun _ => rfl
      clear hd hs
      refine wpv (v := .pointer (some ⟨p, 0, none⟩)) ?_ ⟨_, rfl, Grow.rfl' _, rfl⟩
      (generalize a'.eval = ev at ec ef e8 ⊢; simp [execOp, go_sem, *])
    · refine stepK_run hstab trivial (by intro j b h; cases h) ?_
      intro a' w' hg hs hd
      have e9 : a'.eval (.tmp 9) = .pointer (some ⟨p, 0, none⟩) := hd ⟨2, Ground.data⟩ (by simp) rfl rfl
      have ec : ∀ v, a'.eval (.const v) = v := fun _ => rfl
      have ef : ∀ g, a'.eval (.func g) = .func (.func g) #[] #[] := fun _ => rfl
      clear hd hs
      have pc := cell_later hg HC.out
      refine wpv (v := .map (some pb)) ?_ ⟨_, rfl, Grow.rfl' _, rfl⟩
      (generalize a'.eval = ev at ec ef e9 ⊢; simp [execOp, go_sem, *])
    · refine stepK_run hstab trivial (by intro j b h; cases h) ?_
      intro a' w' hg hs hd
      have e4 : a'.eval (.tmp 4) = .pointer (some ⟨w.heap.size, 0, none⟩) := hs.rest 4 rfl
      have ec : ∀ v, a'.eval (.const v) = v := fun _ => rfl
      have ef : ∀ g, a'.eval (.func g) = .func (.func g) #[] #[] := fun _ => rfl
      clear hd hs
      obtain ⟨y0, y1⟩ := KA.out.later hg
      refine wpv (v := .agg #[.int .i64 a.n, .int .i64 a.p]) ?_ ⟨_, rfl, Grow.rfl' _, rfl⟩
      (generalize a'.eval = ev at ec ef e4 ⊢; simp [execOp, go_sem, *])
    · refine stepK_run hstab trivial (by intro j b h; cases h) ?_
      intro a' w' hg hs hd
      have e10 : a'.eval (.tmp 10) = .map (some pb) := hd ⟨3, Ground.data⟩ (by simp) rfl rfl
      have e11 : a'.eval (.tmp 11) = .agg #[.int .i64 a.n, .int .i64 a.p] := hd ⟨4, Ground.data⟩ (by simp) rfl rfl
      have ec : ∀ v, a'.eval (.const v) = v := fun _ => rfl
      have ef : ∀ g, a'.eval (.func g) = .func (.func g) #[] #[] := fun _ => rfl
      clear hd hs
      have hl := H1.out w' hg
      refine wpv (v := mv) ?_ ⟨_, rfl, Grow.rfl' _, rfl⟩
      (generalize a'.eval = ev at ec ef e10 e11 ⊢; simp [execOp, go_sem, *])
    · refine stepK_run hstab trivial (by intro j b h; cases h) ?_
      intro a' w' hg hs hd
      have e5 : a'.eval (.tmp 5) = .pointer (some ⟨w.heap.size + 1, 0, none⟩) := hs.rest 5 rfl
      have ec : ∀ v, a'.eval (.const v) = v := fun _ => rfl
      have ef : ∀ g, a'.eval (.func g) = .func (.func g) #[] #[] := fun _ => rfl
      clear hd hs
      obtain ⟨y0, y1⟩ := KB.out.later hg
      refine wpv (v := .agg #[.int .i64 b.n, .int .i64 b.p]) ?_ ⟨_, rfl, Grow.rfl' _, rfl⟩
      (generalize a'.eval = ev at ec ef e5 ⊢; simp [execOp, go_sem, *])
    · refine stepK_run hstab trivial (by intro j b h; cases h) ?_
      intro a' w' hg hs hd
      have e12 : a'.eval (.tmp 12) = mv := hd ⟨5, Ground.data⟩ (by simp) rfl rfl
      have e13 : a'.eval (.tmp 13) = .agg #[.int .i64 b.n, .int .i64 b.p] := hd ⟨6, Ground.data⟩ (by simp) rfl rfl
      have ec : ∀ v, a'.eval (.const v) = v := fun _ => rfl
      have ef : ∀ g, a'.eval (.func g) = .func (.func g) #[] #[] := fun _ => rfl
      clear hd hs
      have hl := H2.out w' hg
      refine wpv (v := .slice s n c) ?_ ⟨_, rfl, Grow.rfl' _, rfl⟩
      (generalize a'.eval = ev at ec ef e12 e13 ⊢; simp [execOp, go_sem, *])
    · refine stepK_run hstab trivial (by intro j b h; cases h) ?_
      intro a' w' hg hs hd
      have e14 : a'.eval (.tmp 14) = .slice s n c := hd ⟨7, Ground.data⟩ (by simp) rfl rfl
      have ec : ∀ v, a'.eval (.const v) = v := fun _ => rfl
      have ef : ∀ g, a'.eval (.func g) = .func (.func g) #[] #[] := fun _ => rfl
      clear hd hs
      refine wpc ?_ (Calls.mono (cloneM_in w0 s n c l w' hg.size (by omega) (HS.out.later hg)) fun e w2 ⟨v, he, hb, hv⟩ => ⟨v, he, _, rfl, hb, hv⟩)
      (generalize a'.eval = ev at ec ef e14 ⊢; simp [execOp, go_sem, *])
    · refine stepK_run hstab trivial (by intro j b h; cases h) ?_
      intro a' w' hg hs hd
      have hq : OwnRowM w0.heap.size l (a'.eval (.tmp 15)) w' := hd ⟨8, Ground.data⟩ (by simp) rfl rfl
      have ec : ∀ v, a'.eval (.const v) = v := fun _ => rfl
      have ef : ∀ g, a'.eval (.func g) = .func (.func g) #[] #[] := fun _ => rfl
      clear hd hs
      refine wpv (v := a'.eval (.tmp 15)) ?_ ⟨_, rfl, Grow.rfl' _, hq⟩
      simp [execOp, go_sem]
  · intro a' w' hg hs hd
    obtain ⟨s6, n6, c6, e6, h6⟩ : OwnRowM w0.heap.size l (a'.eval (.tmp 6)) w' := hd 9 (by simp) (by intro k h; cases h)
    go_wp2_with fail
    refine bodyPost_ret (v := .slice s6 n6 c6) ?_ (by rw [hs.defers]) ⟨_, rfl, Grow.trans' G0.out hg, s6, n6, c6, rfl, h6.is⟩
    clear hd hs hstab
    simpa [results, Tryz.results13, Act.eval] using e6

/-- A block of the call's own, for a time. -/
def BlkT (w : World) (b : Nat) : Prop := ∃ cs, w.heap[b]? = some (.cells cs 43 (0, 0)) ∧ cs.size = 5
theorem BlkT.new (w : World) : BlkT (w.alloc (.cells #[.int .i64 0, .int .i64 0, .int .i64 0, .int .i64 0, .int .i64 0] 43)) w.heap.size := ⟨_, (MapKept.heap_alloc w _).1, rfl⟩
theorem wpList_putT {ops : Array Oper} {rest : List Oper} {o : Oper} {a : Act} {w : World} {Q : Exit → Act → World → Prop} (hgd : o.guard = none) (x y : Operand) (ho : o.op = .store 43 x y) (b : Nat) (t : Tm)
    (hx : a.eval x = .pointer (some ⟨b, 0, none⟩)) (hy : a.eval y = .agg #[.int .i64 t.e, .int .i64 t.d, .int .i64 t.x, .int .i64 t.y, .int .i64 t.z]) (hb : BlkT w b) (W : World) (hg : Grow W w) (hW : W.heap.size ≤ b) (h : ∀ w2, Grow W w2 → Box w2 b t → wpList Tryz.prog ops Q rest (a.put o.dst undef) w2) : wpList Tryz.prog ops Q (o :: rest) a w := by
  obtain ⟨cs, hb1, hs⟩ := hb
  refine wpList_store_row hgd 43 x y ho b _ hx hy _ _ hb1 (by kernel_rfl) (by rw [hs]; rfl) (by simp [Value.oneCell']) (h _ (below_setRow hg hW _) ?_)
  exact ⟨by rw [cell_setRow_same w b 0 _ _ _ _ hb1]; rfl, by rw [cell_setRow_same w b 1 _ _ _ _ hb1]; rfl, by rw [cell_setRow_same w b 2 _ _ _ _ hb1]; rfl, by rw [cell_setRow_same w b 3 _ _ _ _ hb1]; rfl, by rw [cell_setRow_same w b 4 _ _ _ _ hb1]; rfl⟩
theorem apply_atQ (s : Sm) (t q : Tm) (e : Int) (h1 : applyT s t = q) (h2 : applyE s t = e) (w : World) :
    Calls Tryz.prog 69 #[.agg #[.int .i64 s.f, .int .i64 s.t, .int .i64 s.k, .int .i64 s.ep, .int .i64 s.x, .int .i64 s.y, .int .i64 s.z], .agg #[.int .i64 t.e, .int .i64 t.d, .int .i64 t.x, .int .i64 t.y, .int .i64 t.z]] w fun e' w' => e' = .returned (.tuple #[.agg #[.int .i64 q.e, .int .i64 q.d, .int .i64 q.x, .int .i64 q.y, .int .i64 q.z], .int .i64 e]) ∧ Grow w w' := by
  rw [← h1, ← h2]; exact apply_any s t w
set_option maxHeartbeats 4000000 in
theorem made_any (p : Nat) (N : List Nd) (E : List Ed) (hA : AccG N E) (a b : Lc) (t : Tm) (ha : LcWf a) (hb : LcWf b) (l : List Sm) (hl : SumsOf N E a b l) (w : World) (hI : IsPth w p N E) :
    Calls Tryz.prog 40 #[.pointer (some ⟨p, 0, none⟩), .agg #[.int .i64 a.n, .int .i64 a.p], .agg #[.int .i64 t.e, .int .i64 t.d, .int .i64 t.x, .int .i64 t.y, .int .i64 t.z], .agg #[.int .i64 b.n, .int .i64 b.p]] w fun e w' => ∃ s m c, e = .returned (.slice s m c) ∧ Grow w w' ∧ OwnSV w' w.heap.size s m c (madeL l t) := by
  have G0 : Hid (Grow w (((w.alloc (.cells #[.int .i64 a.n, .int .i64 a.p] 27)).alloc (.cells #[.int .i64 t.e, .int .i64 t.d, .int .i64 t.x, .int .i64 t.y, .int .i64 t.z] 43)).alloc (.cells #[.int .i64 b.n, .int .i64 b.p] 27))) := hide (Grow.trans' (Grow.trans' (Grow.alloc' _ _) (Grow.alloc' _ _)) (Grow.alloc' _ _))
  have KA : Hid (BoxL (((w.alloc (.cells #[.int .i64 a.n, .int .i64 a.p] 27)).alloc (.cells #[.int .i64 t.e, .int .i64 t.d, .int .i64 t.x, .int .i64 t.y, .int .i64 t.z] 43)).alloc (.cells #[.int .i64 b.n, .int .i64 b.p] 27)) w.heap.size a) := hide ((BoxL.new w a).later (Grow.trans' (Grow.alloc' _ _) (Grow.alloc' _ _)))
  have KT : Hid (Box (((w.alloc (.cells #[.int .i64 a.n, .int .i64 a.p] 27)).alloc (.cells #[.int .i64 t.e, .int .i64 t.d, .int .i64 t.x, .int .i64 t.y, .int .i64 t.z] 43)).alloc (.cells #[.int .i64 b.n, .int .i64 b.p] 27)) (w.heap.size + 1) t) := hide (by simp [Box, go_sem])
  have KB : Hid (BoxL (((w.alloc (.cells #[.int .i64 a.n, .int .i64 a.p] 27)).alloc (.cells #[.int .i64 t.e, .int .i64 t.d, .int .i64 t.x, .int .i64 t.y, .int .i64 t.z] 43)).alloc (.cells #[.int .i64 b.n, .int .i64 b.p] 27)) (w.heap.size + 2) b) := hide (by simp [BoxL, go_sem])
  obtain ⟨pb, mv, s, n, c, l', hc, hl', hS, h1, h2⟩ := (hI.later G0.out).look a b ha hb
  obtain rfl := sumsOf_unique hA hl hl'
  have HC := hide hc
  have HS := hide hS
  have H1 := hide h1
  have H2 := hide h2
  have hnl : n ≤ 4012012004 := by rw [← hS.1, ← BIG_eq]; exact sumsOf_len hA hl
  clear hI hl hl' hc hS h1 h2
  go_enter Tryz.func40, Tryz.ntmps40
  go_wp2_with fail
  generalize ((w.alloc (.cells #[.int .i64 a.n, .int .i64 a.p] 27)).alloc (.cells #[.int .i64 t.e, .int .i64 t.d, .int .i64 t.x, .int .i64 t.y, .int .i64 t.z] 43)).alloc (.cells #[.int .i64 b.n, .int .i64 b.p] 27) = w0 at *
  let FF : Nat → Value → World → Prop := fun i vF wF => match i with | 0 => vF = .pointer (some ⟨p, 0, none⟩) | 1 => vF = .pointer (some ⟨p, 0, none⟩) | 2 => vF = .pointer (some ⟨p, 0, none⟩) | 3 => vF = .map (some pb) | 4 => vF = .agg #[.int .i64 a.n, .int .i64 a.p] | 5 => vF = mv | 6 => vF = .agg #[.int .i64 b.n, .int .i64 b.p] | 7 => vF = .slice s n c | 8 => vF = .int .i64 (n : Int) | 9 => vF = Value.int IntKind.i64 0 | _ => True
  have hstab : ∀ k v w1 w2, Grow w1 w2 → FF k v w1 → FF k v w2 := by
    intro k v w1 w2 hg h
    match k with
    | 0 => exact h
    | 1 => exact h
    | 2 => exact h
    | 3 => exact h
    | 4 => exact h
    | 5 => exact h
    | 6 => exact h
    | 7 => exact h
    | 8 => exact h
    | 9 => exact h
    | k + 10 => exact trivial
  refine wp_region_invK FF (fun _ => none) (by kernel_rfl) (by kernel_rfl) ?_ ?_
  · refine ⟨?_, ?_, ?_, ?_, ?_, ?_, ?_, ?_, ?_, ?_, trivial⟩
    · refine stepK_run hstab trivial (by intro j b h; cases h) ?_
      intro a' w' hg hs hd
      have e0 : a'.eval (.tmp 0) = .pointer (some ⟨p, 0, none⟩) := hs.rest 0 rfl
      have ec : ∀ v, a'.eval (.const v) = v := fun _ => rfl
      have ef : ∀ g, a'.eval (.func g) = .func (.func g) #[] #[] := fun _ => rfl
      clear hd hs
      refine wpv (v := .pointer (some ⟨p, 0, none⟩)) ?_ ⟨_, rfl, Grow.rfl' _, rfl⟩
      (generalize a'.eval = ev at ec ef e0 ⊢; simp [execOp, go_sem, *])
    · refine stepK_run hstab trivial (by intro j b h; cases h) ?_
      intro a' w' hg hs hd
      have e14 : a'.eval (.tmp 14) = .pointer (some ⟨p, 0, none⟩) := hd ⟨0, Ground.data⟩ (by simp) rfl rfl
      have ec : ∀ v, a'.eval (.const v) = v := fun _ => rfl
      have ef : ∀ g, a'.eval (.func g) = .func (.func g) #[] #[] := fun _ => rfl
      clear hd hs
      refine wpv (v := .pointer (some ⟨p, 0, none⟩)) ?_ ⟨_, rfl, Grow.rfl' _, rfl⟩
      (generalize a'.eval = ev at ec ef e14 ⊢; simp [execOp, go_sem, *])
    · refine stepK_run hstab trivial (by intro j b h; cases h) ?_
      intro a' w' hg hs hd
      have e15 : a'.eval (.tmp 15) = .pointer (some ⟨p, 0, none⟩) := hd ⟨1, Ground.data⟩ (by simp) rfl rfl
      have ec : ∀ v, a'.eval (.const v) = v := fun _ => rfl
      have ef : ∀ g, a'.eval (.func g) = .func (.func g) #[] #[] := fun _ => rfl
      clear hd hs
      refine wpv (v := .pointer (some ⟨p, 0, none⟩)) ?_ ⟨_, rfl, Grow.rfl' _, rfl⟩
      (generalize a'.eval = ev at ec ef e15 ⊢; simp [execOp, go_sem, *])
    · refine stepK_run hstab trivial (by intro j b h; cases h) ?_
      intro a' w' hg hs hd
      have e16 : a'.eval (.tmp 16) = .pointer (some ⟨p, 0, none⟩) := hd ⟨2, Ground.data⟩ (by simp) rfl rfl
      have ec : ∀ v, a'.eval (.const v) = v := fun _ => rfl
      have ef : ∀ g, a'.eval (.func g) = .func (.func g) #[] #[] := fun _ => rfl
      clear hd hs
      have pc := cell_later hg HC.out
      refine wpv (v := .map (some pb)) ?_ ⟨_, rfl, Grow.rfl' _, rfl⟩
      (generalize a'.eval = ev at ec ef e16 ⊢; simp [execOp, go_sem, *])
    · refine stepK_run hstab trivial (by intro j b h; cases h) ?_
      intro a' w' hg hs hd
      have e5 : a'.eval (.tmp 5) = .pointer (some ⟨w.heap.size, 0, none⟩) := hs.rest 5 rfl
      have ec : ∀ v, a'.eval (.const v) = v := fun _ => rfl
      have ef : ∀ g, a'.eval (.func g) = .func (.func g) #[] #[] := fun _ => rfl
      clear hd hs
      obtain ⟨y0, y1⟩ := KA.out.later hg
      refine wpv (v := .agg #[.int .i64 a.n, .int .i64 a.p]) ?_ ⟨_, rfl, Grow.rfl' _, rfl⟩
      (generalize a'.eval = ev at ec ef e5 ⊢; simp [execOp, go_sem, *])
    · refine stepK_run hstab trivial (by intro j b h; cases h) ?_
      intro a' w' hg hs hd
      have e17 : a'.eval (.tmp 17) = .map (some pb) := hd ⟨3, Ground.data⟩ (by simp) rfl rfl
      have e18 : a'.eval (.tmp 18) = .agg #[.int .i64 a.n, .int .i64 a.p] := hd ⟨4, Ground.data⟩ (by simp) rfl rfl
      have ec : ∀ v, a'.eval (.const v) = v := fun _ => rfl
      have ef : ∀ g, a'.eval (.func g) = .func (.func g) #[] #[] := fun _ => rfl
      clear hd hs
      have hl := H1.out w' hg
      refine wpv (v := mv) ?_ ⟨_, rfl, Grow.rfl' _, rfl⟩
      (generalize a'.eval = ev at ec ef e17 e18 ⊢; simp [execOp, go_sem, *])
    · refine stepK_run hstab trivial (by intro j b h; cases h) ?_
      intro a' w' hg hs hd
      have e7 : a'.eval (.tmp 7) = .pointer (some ⟨w.heap.size + 1 + 1, 0, none⟩) := hs.rest 7 rfl
      have ec : ∀ v, a'.eval (.const v) = v := fun _ => rfl
      have ef : ∀ g, a'.eval (.func g) = .func (.func g) #[] #[] := fun _ => rfl
      clear hd hs
      obtain ⟨y0, y1⟩ := KB.out.later hg
      refine wpv (v := .agg #[.int .i64 b.n, .int .i64 b.p]) ?_ ⟨_, rfl, Grow.rfl' _, rfl⟩
      (generalize a'.eval = ev at ec ef e7 ⊢; simp [execOp, go_sem, *])
    · refine stepK_run hstab trivial (by intro j b h; cases h) ?_
      intro a' w' hg hs hd
      have e19 : a'.eval (.tmp 19) = mv := hd ⟨5, Ground.data⟩ (by simp) rfl rfl
      have e20 : a'.eval (.tmp 20) = .agg #[.int .i64 b.n, .int .i64 b.p] := hd ⟨6, Ground.data⟩ (by simp) rfl rfl
      have ec : ∀ v, a'.eval (.const v) = v := fun _ => rfl
      have ef : ∀ g, a'.eval (.func g) = .func (.func g) #[] #[] := fun _ => rfl
      clear hd hs
      have hl := H2.out w' hg
      refine wpv (v := .slice s n c) ?_ ⟨_, rfl, Grow.rfl' _, rfl⟩
      (generalize a'.eval = ev at ec ef e19 e20 ⊢; simp [execOp, go_sem, *])
    · refine stepK_run hstab trivial (by intro j b h; cases h) ?_
      intro a' w' hg hs hd
      have e21 : a'.eval (.tmp 21) = .slice s n c := hd ⟨7, Ground.data⟩ (by simp) rfl rfl
      have ec : ∀ v, a'.eval (.const v) = v := fun _ => rfl
      have ef : ∀ g, a'.eval (.func g) = .func (.func g) #[] #[] := fun _ => rfl
      clear hd hs
      refine wpv (v := .int .i64 (n : Int)) ?_ ⟨_, rfl, Grow.rfl' _, rfl⟩
      (generalize a'.eval = ev at ec ef e21 ⊢; simp [go_sem, *])
    · refine stepK_run hstab trivial (by intro j b h; cases h) ?_
      intro a' w' hg hs hd
      have ec : ∀ v, a'.eval (.const v) = v := fun _ => rfl
      have ef : ∀ g, a'.eval (.func g) = .func (.func g) #[] #[] := fun _ => rfl
      clear hd hs
      refine wpv (v := Value.int IntKind.i64 0) ?_ ⟨_, rfl, Grow.rfl' _, rfl⟩
      (generalize a'.eval = ev at ec ef ⊢; simp [execOp, go_sem, *])
  · intro a' w' hg hs hd
    have G1 := hide (Grow.trans' G0.out hg)
    have KT1 := hide (KT.out.later hg)
    have HS1 := hide (HS.out.later hg)
    have hz := hg.size
    have hz0 := G0.out.size
    clear hg KA KT KB HC HS H1 H2 G0
    have fz14 : a'.tmps.getD 14 undef = .pointer (some ⟨p, 0, none⟩) := hd 0 (by simp) (by intro k h; cases h); have fz15 : a'.tmps.getD 15 undef = .pointer (some ⟨p, 0, none⟩) := hd 1 (by simp) (by intro k h; cases h); have fz16 : a'.tmps.getD 16 undef = .pointer (some ⟨p, 0, none⟩) := hd 2 (by simp) (by intro k h; cases h); have fz17 : a'.tmps.getD 17 undef = .map (some pb) := hd 3 (by simp) (by intro k h; cases h); have fz18 : a'.tmps.getD 18 undef = .agg #[.int .i64 a.n, .int .i64 a.p] := hd 4 (by simp) (by intro k h; cases h); have fz19 : a'.tmps.getD 19 undef = mv := hd 5 (by simp) (by intro k h; cases h); have fz20 : a'.tmps.getD 20 undef = .agg #[.int .i64 b.n, .int .i64 b.p] := hd 6 (by simp) (by intro k h; cases h); have fz21 : a'.tmps.getD 21 undef = .slice s n c := hd 7 (by simp) (by intro k h; cases h); have fz22 : a'.tmps.getD 22 undef = .int .i64 (n : Int) := hd 8 (by simp) (by intro k h; cases h); have fz23 : a'.tmps.getD 23 undef = Value.int IntKind.i64 0 := hd 9 (by simp) (by intro k h; cases h); rw [frame_eq hs [false, false, false, false, false, false, false, false, false, false, false, false, false, false, true, true, true, true, true, true, true, true, true, true, false, false, false, false, false, false, false, false, false, false, false, false, false, false, false, false, false] (by kernel_rfl)]; simp only [mergeL, fz14, fz15, fz16, fz17, fz18, fz19, fz20, fz21, fz22, fz23]; clear hs hd hstab fz14 fz15 fz16 fz17 fz18 fz19 fz20 fz21 fz22 fz23; generalize a'.tmps = TT at *
    generalize w' = w1 at *
    obtain ⟨PT, hPT⟩ : ∃ PT, PT = w.heap.size + 1 := ⟨_, rfl⟩
    rw [← hPT] at KT1
    go_wp2_with fail
    rw [← hPT]
    clear hPT
    go_loopw [9, 23] (fun v i wr => ∃ (k : Nat) (s' : Option Addr) (m c' : Nat), k ≤ n ∧ m ≤ k ∧ v = .slice s' m c' ∧ i = .int .i64 k ∧ Grow w1 wr ∧ OwnSV wr w1.heap.size s' m c' (madeL (l.take k) t)) (fun _ i _ => n - (intOf i).toNat)
    case atStart => exact ⟨0, none, 0, 0, Nat.zero_le _, Nat.le_refl _, rfl, rfl, Grow.rfl' _, by simpa [madeL] using OwnSV.nil w1 w1.heap.size⟩
    case round =>
      obtain ⟨k, s', m, c', hk, hmk, rfl, rfl, hg, hO⟩ := hrel
      have HG := hide hg
      have HO := hide hO
      clear hO
      by_cases hlt : k < n
      · have hkd : k < l.length := by rw [HS1.out.1]; exact hlt
        have hne : ¬ l = [] := fun h => by rw [h] at hkd; simp at hkd
        obtain ⟨bs, os, rfl, hrs⟩ := HS1.out.2.2.resolve_left hne
        obtain ⟨z0, z1, z2, z3, z4, z5, z6⟩ := (hrs.later hg).at k hkd
        have HMS := hide (madeL_step l t k hkd)
        obtain ⟨z, hz⟩ : ∃ z, z = l[k] := ⟨_, rfl⟩
        rw [← hz] at z0 z1 z2 z3 z4 z5 z6 HMS
        have hk1 : (0 : Int) ≤ (k : Int) := by omega
        have hk2 : (k : Int) < (n : Int) := by omega
        clear hrs hne hz hkd hg
        obtain ⟨w5, rfl⟩ : ∃ w5 : World, w5 = wr := ⟨_, rfl⟩
        go_wp2_with (refine wpList_putS rfl _ _ rfl w5.heap.size z rfl rfl (BlkS.new w5) w5 (Grow.alloc' _ _) (Nat.le_refl _) ?_)
        intro w6 hg6 hb6
        have HG6 := hide (Grow.trans' HG.out hg6)
        have HO6 := hide (HO.out.later hg6)
        obtain ⟨c0, c1, c2, c3, c4, c5, c6⟩ := hb6
        obtain ⟨t0, t1, t2, t3, t4⟩ := KT1.out.later HG6.out
        obtain ⟨q, hq⟩ : ∃ q, applyT z t = q := ⟨_, rfl⟩
        obtain ⟨e, he⟩ : ∃ e, applyE z t = e := ⟨_, rfl⟩
        rw [hq, he] at HMS
        have CT := hide (apply_atQ z t q e hq he)
        clear hg6 z0 z1 z2 z3 z4 z5 z6 HG HO hq he
        go_wp2_with fail
        refine (CT.out _).mono ?_
        rintro _ w7 ⟨rfl, hb7⟩
        have HG7 := hide (Grow.trans' HG6.out hb7)
        have HO7 := hide (HO6.out.later hb7)
        clear hb7 c0 c1 c2 c3 c4 c5 c6 t0 t1 t2 t3 t4 HG6 HO6 CT
        go_wp2_with (refine wpList_putT rfl _ _ rfl w7.heap.size q rfl rfl (BlkT.new w7) w7 (Grow.alloc' _ _) (Nat.le_refl _) ?_)
        intro w8 hg8 hb8
        have HG8 := hide (Grow.trans' HG7.out hg8)
        have HO8 := hide (HO7.out.later hg8)
        obtain ⟨t0, t1, t2, t3, t4⟩ := hb8
        clear hg8 HG7 HO7
        by_cases he : e = 0
        · subst he
          have hrow := hide (RowT_one w8 q)
          have hz8 : w1.heap.size ≤ w8.heap.size := HG8.out.size
          go_wp2_with (at_builtin; refine wpList_apv_tm rfl _ _ rfl w1.heap.size s' c' (madeL (l.take k) t) [q] m rfl (HO8.out.later (Grow.alloc' _ _)) w8.heap.size 0 1 1 rfl rfl (by omega) hrow.out ?hl ?hb ?_)
          case hl => rw [HO8.out.1]; omega
          case hb => first | omega | (simp; omega)
          intro g' c9 w9 O9 gb
          have G9 := hide (gb.grow (Grow.trans' HG8.out (Grow.alloc' _ _)) (Nat.le_refl _))
          have HO9 : Hid (OwnSV w9 w1.heap.size (some ⟨g', 0, none⟩) (m + 1) c9 (madeL (l.take (k + 1)) t)) := hide (by
            rw [HMS.out, if_pos trivial]
            refine OwnSV.of O9 ?_
            have := HO8.out.1
            simp [this])
          clear O9 gb HO8 HG8 hrow t0 t1 t2 t3 t4 hz8
          go_wp2_with fail
          go_roundw
          case rel => exact ⟨k + 1, _, m + 1, c9, by omega, by omega, rfl, by go_num, G9.out, HO9.out⟩
          case measure => simp [intOf]; omega
        · have HR3 : Hid (madeL (l.take (k + 1)) t = madeL (l.take k) t) := hide (by rw [HMS.out, if_neg he, List.append_nil])
          clear t0 t1 t2 t3 t4
          go_wp2_with fail
          go_roundw
          case rel => exact ⟨k + 1, s', m, c', by omega, by omega, rfl, by go_num, HG8.out, by rw [HR3.out]; exact HO8.out⟩
          case measure => simp [intOf]; omega
      · have hi3 : ¬ (k : Int) < (n : Int) := by omega
        have HT6 : Hid (l.take k = l) := hide (List.take_of_length_le (by rw [HS1.out.1]; omega))
        rw [HT6.out] at HO
        go_wp2_with fail
        go_ret
        exact ⟨s', m, c', rfl, Grow.trans' G1.out HG.out, HO.out.rebase (by omega)⟩

set_option maxHeartbeats 2000000 in
theorem could_any (p : Nat) (N : List Nd) (E : List Ed) (hA : AccG N E) (a b : Lc) (t : Tm) (ha : LcWf a) (hb : LcWf b) (l : List Sm) (hl : SumsOf N E a b l) (w : World) (hI : IsPth w p N E) :
    Calls Tryz.prog 16 #[.pointer (some ⟨p, 0, none⟩), .agg #[.int .i64 a.n, .int .i64 a.p], .agg #[.int .i64 t.e, .int .i64 t.d, .int .i64 t.x, .int .i64 t.y, .int .i64 t.z], .agg #[.int .i64 b.n, .int .i64 b.p]] w fun e w' => ∃ v, e = .returned v ∧ Grow w w' ∧ IsRowT (chainO kinT (madeL l t)) v w' := by
  have G0 : Hid (Grow w (((w.alloc (.cells #[.int .i64 a.n, .int .i64 a.p] 27)).alloc (.cells #[.int .i64 t.e, .int .i64 t.d, .int .i64 t.x, .int .i64 t.y, .int .i64 t.z] 43)).alloc (.cells #[.int .i64 b.n, .int .i64 b.p] 27))) := hide (Grow.trans' (Grow.trans' (Grow.alloc' _ _) (Grow.alloc' _ _)) (Grow.alloc' _ _))
  have CM := hide (made_any p N E hA a b t ha hb l hl (((w.alloc (.cells #[.int .i64 a.n, .int .i64 a.p] 27)).alloc (.cells #[.int .i64 t.e, .int .i64 t.d, .int .i64 t.x, .int .i64 t.y, .int .i64 t.z] 43)).alloc (.cells #[.int .i64 b.n, .int .i64 b.p] 27)) (hI.later G0.out))
  have hll : (madeL l t).length ≤ 4012012004 := by rw [← BIG_eq]; exact Nat.le_trans (madeL_len l t) (sumsOf_len hA hl)
  clear hI hl
  go_enter Tryz.func16, Tryz.ntmps16
  go_wp2_with fail
  refine CM.out.mono ?_
  rintro _ w1 ⟨s, m, c, rfl, hb1, hO⟩
  have G1 := hide (Grow.trans' G0.out hb1)
  have hm : m ≤ 100000000000 := by rw [← hO.1]; omega
  have CC := hide (chainT_any s m c (madeL l t) w1 hm hO.is)
  clear hb1 hO CM G0
  go_wp2_with fail
  refine CC.out.mono ?_
  rintro _ w2 ⟨v, rfl, hb2, hr⟩
  obtain ⟨s2, m2, c2, rfl, hI2⟩ := hr
  have G2 := hide (Grow.trans' G1.out hb2)
  have H2 := hide hI2
  clear hb2 hI2 CC G1
  go_wp2_with fail
  go_ret
  exact ⟨_, rfl, G2.out, s2, m2, c2, rfl, H2.out⟩
set_option maxHeartbeats 4000000 in
theorem front_any (p : Nat) (N : List Nd) (E : List Ed) (hA : AccG N E) (b : Lc) (hb : LcWf b) (sm : Lc → List Sm) (hsm : ∀ x, LcWf x → SumsOf N E x b (sm x)) (s : Option Addr) (n c : Nat) (cs : List Ch) (hcw : ∀ x ∈ cs, LcWf x.l) (hn : n ≤ 20) (w : World) (hcs : IsChs w s n c cs) (hI : IsPth w p N E) :
    Calls Tryz.prog 18 #[.pointer (some ⟨p, 0, none⟩), .slice s n c, .agg #[.int .i64 b.n, .int .i64 b.p]] w fun e w' => ∃ v, e = .returned v ∧ Grow w w' ∧ IsRowT (chainO kinT (frontL sm cs)) v w' := by
  have G0 : Hid (Grow w (w.alloc (.cells #[.int .i64 b.n, .int .i64 b.p] 27))) := hide (Grow.alloc' _ _)
  have KB : Hid (BoxL (w.alloc (.cells #[.int .i64 b.n, .int .i64 b.p] 27)) w.heap.size b) := hide (BoxL.new w b)
  have HI := hide (hI.later G0.out)
  have HC := hide (hcs.later G0.out)
  have HL : Hid (∀ x ∈ cs, (sm x.l).length ≤ BIG) := hide fun x hx => sumsOf_len hA (hsm x.l (hcw x hx))
  have HW := hide hcw
  have HSM := hide hsm
  have HA := hide hA
  clear hI hcs hcw hsm hA
  go_enter Tryz.func18, Tryz.ntmps18
  go_wp2_with fail
  generalize w.alloc (.cells #[.int .i64 b.n, .int .i64 b.p] 27) = w0 at *
  obtain ⟨PB, hPB⟩ : ∃ PB, PB = w.heap.size := ⟨_, rfl⟩
  rw [← hPB] at KB
  rw [← hPB]
  clear hPB
  go_loopw [7, 12] (fun v i wr => ∃ (k : Nat) (s' : Option Addr) (m c' : Nat), k ≤ n ∧ v = .slice s' m c' ∧ i = .int .i64 k ∧ Grow w0 wr ∧ OwnSV wr w0.heap.size s' m c' (frontL sm (cs.take k))) (fun _ i _ => n - (intOf i).toNat)
  case atStart => exact ⟨0, none, 0, 0, Nat.zero_le _, rfl, rfl, Grow.rfl' _, by simpa [frontL] using OwnSV.nil w0 w0.heap.size⟩
  case round =>
    obtain ⟨k, s', m, c', hk, rfl, rfl, hg, hO⟩ := hrel
    have HG := hide hg
    have HO := hide hO
    have hml : m ≤ 4012012004 * 20 := by
      have h1 := frontL_len (sm := sm) (cs.take k) fun x hx => HL.out x (List.mem_of_mem_take hx)
      rw [← hO.1]
      rw [BIG_eq] at h1
      have h2 : (cs.take k).length ≤ 20 := by rw [List.length_take]; omega
      have h3 := Nat.mul_le_mul_right 4012012004 h2
      omega
    clear hO
    by_cases hlt : k < n
    · have hkd : k < cs.length := by rw [HC.out.1]; exact hlt
      have hne : ¬ cs = [] := fun h => by rw [h] at hkd; simp at hkd
      obtain ⟨bs, os, rfl, hrs⟩ := HC.out.2.2.resolve_left hne
      obtain ⟨z0, z1, z2, z3, z4, z5, z6, z7⟩ := (hrs.later hg).at k hkd
      have HMS := hide (frontL_step sm cs k hkd)
      have HWY := hide (HW.out _ (List.getElem_mem hkd))
      have HLY := hide (HL.out _ (List.getElem_mem hkd))
      obtain ⟨y, hy⟩ : ∃ y, y = cs[k] := ⟨_, rfl⟩
      rw [← hy] at z0 z1 z2 z3 z4 z5 z6 z7 HMS HWY HLY
      have hk1 : (0 : Int) ≤ (k : Int) := by omega
      have hk2 : (k : Int) < (n : Int) := by omega
      clear hrs hne hy hkd hg
      obtain ⟨w5, rfl⟩ : ∃ w5 : World, w5 = wr := ⟨_, rfl⟩
      go_wp2_with (refine wpList_putC rfl _ _ rfl w5.heap.size y rfl rfl (BlkC.new w5 _ rfl) w5 (Grow.alloc' _ _) (Nat.le_refl _) ?_)
      intro w6 hg6 hb6 hz6
      have HG6 := hide (Grow.trans' HG.out hg6)
      have HO6 := hide (HO.out.later hg6)
      have HI6 := hide (HI.out.later HG6.out)
      obtain ⟨c0, c1, c2, c3, c4, c5, c6, c7⟩ := hb6
      obtain ⟨b0, b1⟩ := KB.out.later HG6.out
      clear hg6 z0 z1 z2 z3 z4 z5 z6 z7 HG HO hz6
      by_cases hpos : 0 < y.n
      · have CM := hide (made_any p N E HA.out y.l b y.t HWY.out hb (sm y.l) (HSM.out y.l HWY.out) w6 HI6.out)
        have hll : (madeL (sm y.l) y.t).length ≤ 4012012004 := by rw [← BIG_eq]; exact Nat.le_trans (madeL_len _ _) HLY.out
        go_wp2_with fail
        refine CM.out.mono ?_
        rintro _ w7 ⟨s7, m7, c7', rfl, hb7, hO7⟩
        have HG7 := hide (Grow.trans' HG6.out hb7)
        have HO7 := hide (HO6.out.later hb7)
        have HM7 := hide hO7.is
        have hm7 : m7 ≤ 4012012004 := by rw [← hO7.1]; exact hll
        clear hb7 hO7 c0 c1 c2 c3 c4 c5 c6 c7 b0 b1 HG6 HO6 HI6 CM
        go_wp2_with (at_builtin; refine wpList_apd_tm rfl _ _ rfl w0.heap.size s' m c' (frontL sm (cs.take k)) (madeL (sm y.l) y.t) rfl HO7.out s7 m7 c7' rfl HM7.out ?hl HG7.out.size ?_)
        case hl => omega
        intro s9 c9 w9 O9 gb
        have G9 := hide (gb.grow HG7.out (Nat.le_refl _))
        have HO9 : Hid (OwnSV w9 w0.heap.size s9 (m + m7) c9 (frontL sm (cs.take (k + 1)))) := hide (by rw [HMS.out, if_pos hpos]; exact O9)
        clear O9 gb HO7 HG7 HM7
        go_wp2_with fail
        go_roundw
        case rel => exact ⟨k + 1, _, m + m7, c9, by omega, rfl, by go_num, G9.out, HO9.out⟩
        case measure => simp [intOf]; omega
      · have HR3 : Hid (frontL sm (cs.take (k + 1)) = frontL sm (cs.take k)) := hide (by rw [HMS.out, if_neg hpos, List.append_nil])
        go_wp2_with fail
        go_roundw
        case rel => exact ⟨k + 1, s', m, c', by omega, rfl, by go_num, HG6.out, by rw [HR3.out]; exact HO6.out⟩
        case measure => simp [intOf]; omega
    · have hi3 : ¬ (k : Int) < (n : Int) := by omega
      have HT6 : Hid (cs.take k = cs) := hide (List.take_of_length_le (by rw [HC.out.1]; omega))
      rw [HT6.out] at HO
      have CC := hide (chainT_any s' m c' (frontL sm cs) wr (by omega) HO.out.is)
      clear hg
      go_wp2_with fail
      refine CC.out.mono ?_
      rintro _ w2 ⟨v, rfl, hb2, hr⟩
      obtain ⟨s2, m2, c2, rfl, hI2⟩ := hr
      have G2 := hide (Grow.trans' (Grow.trans' G0.out HG.out) hb2)
      have H2 := hide hI2
      clear hb2 hI2 CC
      go_wp2_with fail
      go_ret
      exact ⟨_, rfl, G2.out, s2, m2, c2, rfl, H2.out⟩

end Go.Proofs.YtehianjfpmbfpaaGreat
end
