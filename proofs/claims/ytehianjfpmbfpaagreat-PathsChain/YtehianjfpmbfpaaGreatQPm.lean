/-
  What Sums, made, Could and Front of a Paths do to the world: what the fronts between places make of times; what was there stays as it was.
-/
import Derived.Test.YtehianjfpmbfpaaGreatQNw
import Derived.Test.YtehianjfpmbfpaaGreatSAp
import Derived.Lib.QuietBelow
namespace Go.Proofs.YtehianjfpmbfpaaGreat
set_option maxRecDepth 100000
open Go.RowKit Go.Maps Go.Deep
set_option linter.unusedVariables false
set_option linter.unusedSimpArgs false

/-- What summaries make of a time; those that go over, and all, if it may not be so, are left out. -/
def madeL (l : List Sm) (t : Tm) : List Tm := (l.filter fun s => decide (applyE s t = 0)).map fun s => applyT s t
theorem madeL_step (l : List Sm) (t : Tm) (k : Nat) (h : k < l.length) : madeL (l.take (k + 1)) t = madeL (l.take k) t ++ if applyE l[k] t = 0 then [applyT l[k] t] else [] := by
  unfold madeL
  rw [← List.take_append_getElem h, List.filter_append, List.map_append]
  congr 1
  by_cases hc : applyE l[k] t = 0 <;> simp [hc]
theorem madeL_len (l : List Sm) (t : Tm) : (madeL l t).length ≤ l.length := by
  unfold madeL
  rw [List.length_map]
  exact List.length_filter_le _ _
/-- What changes that count make together. -/
def frontL (sm : Lc → List Sm) (cs : List Ch) : List Tm := cs.flatMap fun c => if 0 < c.n then madeL (sm c.l) c.t else []
theorem frontL_step (sm : Lc → List Sm) (cs : List Ch) (k : Nat) (h : k < cs.length) : frontL sm (cs.take (k + 1)) = frontL sm (cs.take k) ++ if 0 < cs[k].n then madeL (sm cs[k].l) cs[k].t else [] := by
  unfold frontL
  rw [← List.take_append_getElem h, List.flatMap_append]
  simp
theorem frontL_len {sm : Lc → List Sm} : ∀ cs : List Ch, (∀ c ∈ cs, (sm c.l).length ≤ BIG) → (frontL sm cs).length ≤ cs.length * BIG
  | [], _ => by simp [frontL]
  | c :: cs, hs => by
    have ih := frontL_len cs fun x hx => hs x (List.mem_cons.2 (.inr hx))
    have e : frontL sm (c :: cs) = (if 0 < c.n then madeL (sm c.l) c.t else []) ++ frontL sm cs := rfl
    rw [e, List.length_append, List.length_cons, Nat.succ_mul]
    have h1 := Nat.le_trans (madeL_len (sm c.l) c.t) (hs c (by simp))
    split
    · omega
    · simp; omega
theorem zeroDoings (w : World) : (zeroValue 81).run Tryz.prog w = .ok (.map none) w := by kernel_rfl
/-- What a Paths has of two places. -/
theorem IsPth.look {w : World} {p : Nat} {N : List Nd} {E : List Ed} (h : IsPth w p N E) (a b : Lc) (ha : LcWf a) (hb : LcWf b) :
    ∃ pb mv s n c l, w.cell? ⟨p, 0, none⟩ = some (.map (some pb)) ∧ SumsOf N E a b l ∧ IsSms w s n c l ∧
      (∀ w', Grow w w' → (Instr.lookup 77 (.map (some pb)) (.agg #[.int .i64 a.n, .int .i64 a.p]) false).run Tryz.prog w' = .ok mv w') ∧
      ∀ w', Grow w w' → (Instr.lookup 81 mv (.agg #[.int .i64 b.n, .int .i64 b.p]) false).run Tryz.prog w' = .ok (.slice s n c) w' := by
  obtain ⟨pb, ff, hc, hK⟩ := h
  have h1 := fun w' (hg : Grow w w') => (hK.map.later hg).get Tryz.underlying77 (zeroDoings w') ha
  unfold vL at h1
  cases hp : isP N a
  · have hf : ff a = none := by
      cases hfa : ff a with
      | none => rfl
      | some v =>
        have := (mem_locs N a).1 (hK.map.keys (x := a) (by rw [hfa]; simp))
        rw [hp] at this; cases this
    rw [hf] at h1
    refine ⟨pb, .map none, none, 0, 0, [], hc, ⟨fun q => (by rw [hp] at q; cases q), fun _ => rfl⟩, ⟨rfl, Nat.le_refl _, .inl rfl⟩, h1, fun w' _ => ?_⟩
    have := get_none w' Tryz.underlying81 (zeroSlice w') hb
    unfold vL at this
    exact this
  · obtain ⟨lb, e, _, fl, L, hI, hF⟩ := hK.row a ((mem_locs N a).2 hp) rfl
    rw [e] at h1
    obtain ⟨s, n, c, hl, hget⟩ := hI.getK hb
    exact ⟨pb, .map (some lb), s, n, c, L b, hc, ⟨fun _ => hF b, fun q => (by rw [hp] at q; cases q)⟩, hl, h1, hget⟩
theorem IsPth.has {w : World} {p : Nat} {N : List Nd} {E : List Ed} (h : IsPth w p N E) (a b : Lc) (ha : LcWf a) (hb : LcWf b) : ∃ l, SumsOf N E a b l := by
  obtain ⟨_, _, _, _, _, l, _, hl, _⟩ := h.look a b ha hb
  exact ⟨l, hl⟩
theorem BoxL.two (w : World) (a b : Lc) : BoxL ((w.alloc (.cells #[.int .i64 a.n, .int .i64 a.p] 27)).alloc (.cells #[.int .i64 b.n, .int .i64 b.p] 27)) (w.heap.size + 1) b := by
  have hz : (w.alloc (.cells #[.int .i64 a.n, .int .i64 a.p] 27)).heap.size = w.heap.size + 1 := by simp
  rw [← hz]; exact BoxL.new _ b
set_option maxHeartbeats 2000000 in
theorem psums_any (p : Nat) (N : List Nd) (E : List Ed) (hA : AccG N E) (a b : Lc) (ha : LcWf a) (hb : LcWf b) (l : List Sm) (hl : SumsOf N E a b l) (w : World) (hI : IsPth w p N E) :
    Calls Tryz.prog 13 #[.pointer (some ⟨p, 0, none⟩), .agg #[.int .i64 a.n, .int .i64 a.p], .agg #[.int .i64 b.n, .int .i64 b.p]] w fun e w' => ∃ v, e = .returned v ∧ Grow w w' ∧ IsRowM l v w' := by
  have G0 : Hid (Grow w ((w.alloc (.cells #[.int .i64 a.n, .int .i64 a.p] 27)).alloc (.cells #[.int .i64 b.n, .int .i64 b.p] 27))) := hide (Grow.trans' (Grow.alloc' _ _) (Grow.alloc' _ _))
  have KA : Hid (BoxL ((w.alloc (.cells #[.int .i64 a.n, .int .i64 a.p] 27)).alloc (.cells #[.int .i64 b.n, .int .i64 b.p] 27)) w.heap.size a) := hide ((BoxL.new w a).later (Grow.alloc' _ _))
  have KB : Hid (BoxL ((w.alloc (.cells #[.int .i64 a.n, .int .i64 a.p] 27)).alloc (.cells #[.int .i64 b.n, .int .i64 b.p] 27)) (w.heap.size + 1) b) := hide (BoxL.two w a b)
  obtain ⟨pb, mv, s, n, c, l', hc, hl', hS, h1, h2⟩ := (hI.later G0.out).look a b ha hb
  obtain rfl := sumsOf_unique hA hl hl'
  have HC := hide hc
  have HS := hide hS
  have H1 := hide h1
  have H2 := hide h2
  have hnl : n ≤ 4012012004 := by rw [← hS.1, ← BIG_eq]; exact sumsOf_len hA hl
  clear hI hl hl' hc hS h1 h2
  go_enter Tryz.func13, Tryz.ntmps13
  go_wp2_with fail
  generalize (w.alloc (.cells #[.int .i64 a.n, .int .i64 a.p] 27)).alloc (.cells #[.int .i64 b.n, .int .i64 b.p] 27) = w0 at *
  let FF : Nat → Value → World → Prop := fun i vF wF => match i with | 0 => vF = .pointer (some ⟨p, 0, none⟩) | 1 => vF = .pointer (some ⟨p, 0, none⟩) | 2 => vF = .pointer (some ⟨p, 0, none⟩) | 3 => vF = .map (some pb) | 4 => vF = .agg #[.int .i64 a.n, .int .i64 a.p] | 5 => vF = mv | 6 => vF = .agg #[.int .i64 b.n, .int .i64 b.p] | 7 => vF = .slice s n c | 8 => OwnRowM w0.heap.size l vF wF | 9 => OwnRowM w0.heap.size l vF wF | _ => True
  have hstab : ∀ k v w1 w2, Grow w1 w2 → FF k v w1 → FF k v w2 := by
    intro k v w1 w2 hg h
    match k with
    | 0 => exact h
    | 1 => exact h
    | 2 => exact h
    | 3 => exact h
    | 4 => exact h
    | 5 => exact h
    | 6 => exact h
    | 7 => exact h
    | 8 => exact OwnRowM.later hg h
    | 9 => exact OwnRowM.later hg h
    | k + 10 => exact trivial
  refine wp_region_invK FF (fun _ => none) (by kernel_rfl) (by kernel_rfl) ?_ ?_
  · refine ⟨?_, ?_, ?_, ?_, ?_, ?_, ?_, ?_, ?_, ?_, trivial⟩
    · refine stepK_run hstab trivial (by intro j b h; cases h) ?_
      intro a' w' hg hs hd
      have e0 : a'.eval (.tmp 0) = .pointer (some ⟨p, 0, none⟩) := hs.rest 0 rfl
      have ec : ∀ v, a'.eval (.const v) = v := fun _ => rfl
      have ef : ∀ g, a'.eval (.func g) = .func (.func g) #[] #[] := fun _ => rfl
      clear hd hs
      refine wpv (v := .pointer (some ⟨p, 0, none⟩)) ?_ ⟨_, rfl, Grow.rfl' _, rfl⟩
      (generalize a'.eval = ev at ec ef e0 ⊢; simp [execOp, go_sem, *])
    · refine stepK_run hstab trivial (by intro j b h; cases h) ?_
      intro a' w' hg hs hd
      have e7 : a'.eval (.tmp 7) = .pointer (some ⟨p, 0, none⟩) := hd ⟨0, Ground.data⟩ (by simp) rfl rfl
      have ec : ∀ v, a'.eval (.const v) = v := fun _ => rfl
      have ef : ∀ g, a'.eval (.func g) = .func (.func g) #[] #[] := fun _ => rfl
      clear hd hs
      refine wpv (v := .pointer (some ⟨p, 0, none⟩)) ?_ ⟨_, rfl, Grow.rfl' _, rfl⟩
      (generalize a'.eval = ev at ec ef e7 ⊢; simp [execOp, go_sem, *])
    · refine stepK_run hstab trivial (by intro j b h; cases h) ?_
      intro a' w' hg hs hd
      have e8 : a'.eval (.tmp 8) = .pointer (some ⟨p, 0, none⟩) := hd ⟨1, Ground.data⟩ (by simp) rfl rfl
      have ec : ∀ v, a'.eval (.const v) = v := fun _ => rfl
      have ef : ∀ g, a'.eval (.func g) = .func (.func g) #[] #[] := fun _ => rfl
      clear hd hs
      refine wpv (v := .pointer (some ⟨p, 0, none⟩)) ?_ ⟨_, rfl, Grow.rfl' _, rfl⟩
      (generalize a'.eval = ev at ec ef e8 ⊢; simp [execOp, go_sem, *])
    · refine stepK_run hstab trivial (by intro j b h; cases h) ?_
      intro a' w' hg hs hd
      have e9 : a'.eval (.tmp 9) = .pointer (some ⟨p, 0, none⟩) := hd ⟨2, Ground.data⟩ (by simp) rfl rfl
      have ec : ∀ v, a'.eval (.const v) = v := fun _ => rfl
      have ef : ∀ g, a'.eval (.func g) = .func (.func g) #[] #[] := fun _ => rfl
      clear hd hs
      have pc := cell_later hg HC.out
      refine wpv (v := .map (some pb)) ?_ ⟨_, rfl, Grow.rfl' _, rfl⟩
      (generalize a'.eval = ev at ec ef e9 ⊢; simp [execOp, go_sem, *])
    · refine stepK_run hstab trivial (by intro j b h; cases h) ?_
      intro a' w' hg hs hd
      have e4 : a'.eval (.tmp 4) = .pointer (some ⟨w.heap.size, 0, none⟩) := hs.rest 4 rfl
      have ec : ∀ v, a'.eval (.const v) = v := fun _ => rfl
      have ef : ∀ g, a'.eval (.func g) = .func (.func g) #[] #[] := fun _ => rfl
      clear hd hs
      obtain ⟨y0, y1⟩ := KA.out.later hg
      refine wpv (v := .agg #[.int .i64 a.n, .int .i64 a.p]) ?_ ⟨_, rfl, Grow.rfl' _, rfl⟩
      (generalize a'.eval = ev at ec ef e4 ⊢; simp [execOp, go_sem, *])
    · refine stepK_run hstab trivial (by intro j b h; cases h) ?_
      intro a' w' hg hs hd
      have e10 : a'.eval (.tmp 10) = .map (some pb) := hd ⟨3, Ground.data⟩ (by simp) rfl rfl
      have e11 : a'.eval (.tmp 11) = .agg #[.int .i64 a.n, .int .i64 a.p] := hd ⟨4, Ground.data⟩ (by simp) rfl rfl
      have ec : ∀ v, a'.eval (.const v) = v := fun _ => rfl
      have ef : ∀ g, a'.eval (.func g) = .func (.func g) #[] #[] := fun _ => rfl
      clear hd hs
      have hl := H1.out w' hg
      refine wpv (v := mv) ?_ ⟨_, rfl, Grow.rfl' _, rfl⟩
      (generalize a'.eval = ev at ec ef e10 e11 ⊢; simp [execOp, go_sem, *])
    · refine stepK_run hstab trivial (by intro j b h; cases h) ?_
      intro a' w' hg hs hd
      have e5 : a'.eval (.tmp 5) = .pointer (some ⟨w.heap.size + 1, 0, none⟩) := hs.rest 5 rfl
      have ec : ∀ v, a'.eval (.const v) = v := fun _ => rfl
      have ef : ∀ g, a'.eval (.func g) = .func (.func g) #[] #[] := fun _ => rfl
      clear hd hs
      obtain ⟨y0, y1⟩ := KB.out.later hg
      refine wpv (v := .agg #[.int .i64 b.n, .int .i64 b.p]) ?_ ⟨_, rfl, Grow.rfl' _, rfl⟩
      (generalize a'.eval = ev at ec ef e5 ⊢; simp [execOp, go_sem, *])
    · refine stepK_run hstab trivial (by intro j b h; cases h) ?_
      intro a' w' hg hs hd
      have e12 : a'.eval (.tmp 12) = mv := hd ⟨5, Ground.data⟩ (by simp) rfl rfl
      have e13 : a'.eval (.tmp 13) = .agg #[.int .i64 b.n, .int .i64 b.p] := hd ⟨6, Ground.data⟩ (by simp) rfl rfl
      have ec : ∀ v, a'.eval (.const v) = v := fun _ => rfl
      have ef : ∀ g, a'.eval (.func g) = .func (.func g) #[] #[] := fun _ => rfl
      clear hd hs
      have hl := H2.out w' hg
      refine wpv (v := .slice s n c) ?_ ⟨_, rfl, Grow.rfl' _, rfl⟩
      (generalize a'.eval = ev at ec ef e12 e13 ⊢; simp [execOp, go_sem, *])
    · refine stepK_run hstab trivial (by intro j b h; cases h) ?_
      intro a' w' hg hs hd
      have e14 : a'.eval (.tmp 14) = .slice s n c := hd ⟨7, Ground.data⟩ (by simp) rfl rfl
      have ec : ∀ v, a'.eval (.const v) = v := fun _ => rfl
      have ef : ∀ g, a'.eval (.func g) = .func (.func g) #[] #[] := fun _ => rfl
      clear hd hs
      refine wpc ?_ (Calls.mono (cloneM_in w0 s n c l w' hg.size (by omega) (HS.out.later hg)) fun e w2 ⟨v, he, hb, hv⟩ => ⟨v, he, _, rfl, hb, hv⟩)
      (generalize a'.eval = ev at ec ef e14 ⊢; simp [execOp, go_sem, *])
    · refine stepK_run hstab trivial (by intro j b h; cases h) ?_
      intro a' w' hg hs hd
      have hq : OwnRowM w0.heap.size l (a'.eval (.tmp 15)) w' := hd ⟨8, Ground.data⟩ (by simp) rfl rfl
      have ec : ∀ v, a'.eval (.const v) = v := fun _ => rfl
      have ef : ∀ g, a'.eval (.func g) = .func (.func g) #[] #[] := fun _ => rfl
      clear hd hs
      refine wpv (v := a'.eval (.tmp 15)) ?_ ⟨_, rfl, Grow.rfl' _, hq⟩
      simp [execOp, go_sem]
  · intro a' w' hg hs hd
    obtain ⟨s6, n6, c6, e6, h6⟩ : OwnRowM w0.heap.size l (a'.eval (.tmp 6)) w' := hd 9 (by simp) (by intro k h; cases h)
    go_wp2_with fail
    refine bodyPost_ret (v := .slice s6 n6 c6) ?_ (by rw [hs.defers]) ⟨_, rfl, Grow.trans' G0.out hg, s6, n6, c6, rfl, h6.is⟩
    clear hd hs hstab
    simpa [results, Tryz.results13, Act.eval] using e6

/-- A block of the call's own, for a time. -/
def BlkT (w : World) (b : Nat) : Prop := ∃ cs, w.heap[b]? = some (.cells cs 43 (0, 0)) ∧ cs.size = 5
theorem BlkT.new (w : World) : BlkT (w.alloc (.cells #[.int .i64 0, .int .i64 0, .int .i64 0, .int .i64 0, .int .i64 0] 43)) w.heap.size := ⟨_, (MapKept.heap_alloc w _).1, rfl⟩
theorem wpList_putT {ops : Array Oper} {rest : List Oper} {o : Oper} {a : Act} {w : World} {Q : Exit → Act → World → Prop} (hgd : o.guard = none) (x y : Operand) (ho : o.op = .store 43 x y) (b : Nat) (t : Tm)
    (hx : a.eval x = .pointer (some ⟨b, 0, none⟩)) (hy : a.eval y = .agg #[.int .i64 t.e, .int .i64 t.d, .int .i64 t.x, .int .i64 t.y, .int .i64 t.z]) (hb : BlkT w b) (W : World) (hg : Grow W w) (hW : W.heap.size ≤ b) (h : ∀ w2, Grow W w2 → Box w2 b t → wpList Tryz.prog ops Q rest (a.put o.dst undef) w2) : wpList Tryz.prog ops Q (o :: rest) a w := by
  obtain ⟨cs, hb1, hs⟩ := hb
  refine wpList_store_row hgd 43 x y ho b _ hx hy _ _ hb1 (by kernel_rfl) (by rw [hs]; rfl) (by simp [Value.oneCell']) (h _ (below_setRow hg hW _) ?_)
  exact ⟨by rw [cell_setRow_same w b 0 _ _ _ _ hb1]; rfl, by rw [cell_setRow_same w b 1 _ _ _ _ hb1]; rfl, by rw [cell_setRow_same w b 2 _ _ _ _ hb1]; rfl, by rw [cell_setRow_same w b 3 _ _ _ _ hb1]; rfl, by rw [cell_setRow_same w b 4 _ _ _ _ hb1]; rfl⟩
theorem apply_atQ (s : Sm) (t q : Tm) (e : Int) (h1 : applyT s t = q) (h2 : applyE s t = e) (w : World) :
    Calls Tryz.prog 69 #[.agg #[.int .i64 s.f, .int .i64 s.t, .int .i64 s.k, .int .i64 s.ep, .int .i64 s.x, .int .i64 s.y, .int .i64 s.z], .agg #[.int .i64 t.e, .int .i64 t.d, .int .i64 t.x, .int .i64 t.y, .int .i64 t.z]] w fun e' w' => e' = .returned (.tuple #[.agg #[.int .i64 q.e, .int .i64 q.d, .int .i64 q.x, .int .i64 q.y, .int .i64 q.z], .int .i64 e]) ∧ Grow w w' := by
  rw [← h1, ← h2]; exact apply_any s t w
set_option maxHeartbeats 4000000 in
theorem made_any (p : Nat) (N : List Nd) (E : List Ed) (hA : AccG N E) (a b : Lc) (t : Tm) (ha : LcWf a) (hb : LcWf b) (l : List Sm) (hl : SumsOf N E a b l) (w : World) (hI : IsPth w p N E) :
    Calls Tryz.prog 40 #[.pointer (some ⟨p, 0, none⟩), .agg #[.int .i64 a.n, .int .i64 a.p], .agg #[.int .i64 t.e, .int .i64 t.d, .int .i64 t.x, .int .i64 t.y, .int .i64 t.z], .agg #[.int .i64 b.n, .int .i64 b.p]] w fun e w' => ∃ s m c, e = .returned (.slice s m c) ∧ Grow w w' ∧ OwnSV w' w.heap.size s m c (madeL l t) := by
  have G0 : Hid (Grow w (((w.alloc (.cells #[.int .i64 a.n, .int .i64 a.p] 27)).alloc (.cells #[.int .i64 t.e, .int .i64 t.d, .int .i64 t.x, .int .i64 t.y, .int .i64 t.z] 43)).alloc (.cells #[.int .i64 b.n, .int .i64 b.p] 27))) := hide (Grow.trans' (Grow.trans' (Grow.alloc' _ _) (Grow.alloc' _ _)) (Grow.alloc' _ _))
  have KA : Hid (BoxL (((w.alloc (.cells #[.int .i64 a.n, .int .i64 a.p] 27)).alloc (.cells #[.int .i64 t.e, .int .i64 t.d, .int .i64 t.x, .int .i64 t.y, .int .i64 t.z] 43)).alloc (.cells #[.int .i64 b.n, .int .i64 b.p] 27)) w.heap.size a) := hide ((BoxL.new w a).later (Grow.trans' (Grow.alloc' _ _) (Grow.alloc' _ _)))
  have KT : Hid (Box (((w.alloc (.cells #[.int .i64 a.n, .int .i64 a.p] 27)).alloc (.cells #[.int .i64 t.e, .int .i64 t.d, .int .i64 t.x, .int .i64 t.y, .int .i64 t.z] 43)).alloc (.cells #[.int .i64 b.n, .int .i64 b.p] 27)) (w.heap.size + 1) t) := hide (by simp [Box, go_sem])
  have KB : Hid (BoxL (((w.alloc (.cells #[.int .i64 a.n, .int .i64 a.p] 27)).alloc (.cells #[.int .i64 t.e, .int .i64 t.d, .int .i64 t.x, .int .i64 t.y, .int .i64 t.z] 43)).alloc (.cells #[.int .i64 b.n, .int .i64 b.p] 27)) (w.heap.size + 2) b) := hide (by simp [BoxL, go_sem])
  obtain ⟨pb, mv, s, n, c, l', hc, hl', hS, h1, h2⟩ := (hI.later G0.out).look a b ha hb
  obtain rfl := sumsOf_unique hA hl hl'
  have HC := hide hc
  have HS := hide hS
  have H1 := hide h1
  have H2 := hide h2
  have hnl : n ≤ 4012012004 := by rw [← hS.1, ← BIG_eq]; exact sumsOf_len hA hl
  clear hI hl hl' hc hS h1 h2
  go_enter Tryz.func40, Tryz.ntmps40
  go_wp2_with fail
  generalize ((w.alloc (.cells #[.int .i64 a.n, .int .i64 a.p] 27)).alloc (.cells #[.int .i64 t.e, .int .i64 t.d, .int .i64 t.x, .int .i64 t.y, .int .i64 t.z] 43)).alloc (.cells #[.int .i64 b.n, .int .i64 b.p] 27) = w0 at *
  let FF : Nat → Value → World → Prop := fun i vF wF => match i with | 0 => vF = .pointer (some ⟨p, 0, none⟩) | 1 => vF = .pointer (some ⟨p, 0, none⟩) | 2 => vF = .pointer (some ⟨p, 0, none⟩) | 3 => vF = .map (some pb) | 4 => vF = .agg #[.int .i64 a.n, .int .i64 a.p] | 5 => vF = mv | 6 => vF = .agg #[.int .i64 b.n, .int .i64 b.p] | 7 => vF = .slice s n c | 8 => vF = .int .i64 (n : Int) | 9 => vF = Value.int IntKind.i64 0 | _ => True
  have hstab : ∀ k v w1 w2, Grow w1 w2 → FF k v w1 → FF k v w2 := by
    intro k v w1 w2 hg h
    match k with
    | 0 => exact h
    | 1 => exact h
    | 2 => exact h
    | 3 => exact h
    | 4 => exact h
    | 5 => exact h
    | 6 => exact h
    | 7 => exact h
    | 8 => exact h
    | 9 => exact h
    | k + 10 => exact trivial
  refine wp_region_invK FF (fun _ => none) (by kernel_rfl) (by kernel_rfl) ?_ ?_
  · refine ⟨?_, ?_, ?_, ?_, ?_, ?_, ?_, ?_, ?_, ?_, trivial⟩
    · refine stepK_run hstab trivial (by intro j b h; cases h) ?_
      intro a' w' hg hs hd
      have e0 : a'.eval (.tmp 0) = .pointer (some ⟨p, 0, none⟩) := hs.rest 0 rfl
      have ec : ∀ v, a'.eval (.const v) = v := fun _ => rfl
      have ef : ∀ g, a'.eval (.func g) = .func (.func g) #[] #[] := fun _ => rfl
      clear hd hs
      refine wpv (v := .pointer (some ⟨p, 0, none⟩)) ?_ ⟨_, rfl, Grow.rfl' _, rfl⟩
      (generalize a'.eval = ev at ec ef e0 ⊢; simp [execOp, go_sem, *])
    · refine stepK_run hstab trivial (by intro j b h; cases h) ?_
      intro a' w' hg hs hd
      have e14 : a'.eval (.tmp 14) = .pointer (some ⟨p, 0, none⟩) := hd ⟨0, Ground.data⟩ (by simp) rfl rfl
      have ec : ∀ v, a'.eval (.const v) = v := fun _ => rfl
      have ef : ∀ g, a'.eval (.func g) = .func (.func g) #[] #[] := fun _ => rfl
      clear hd hs
      refine wpv (v := .pointer (some ⟨p, 0, none⟩)) ?_ ⟨_, rfl, Grow.rfl' _, rfl⟩
      (generalize a'.eval = ev at ec ef e14 ⊢; simp [execOp, go_sem, *])
    · refine stepK_run hstab trivial (by intro j b h; cases h) ?_
      intro a' w' hg hs hd
      have e15 : a'.eval (.tmp 15) = .pointer (some ⟨p, 0, none⟩) := hd ⟨1, Ground.data⟩ (by simp) rfl rfl
      have ec : ∀ v, a'.eval (.const v) = v := fun _ => rfl
      have ef : ∀ g, a'.eval (.func g) = .func (.func g) #[] #[] := fun _ => rfl
      clear hd hs
      refine wpv (v := .pointer (some ⟨p, 0, none⟩)) ?_ ⟨_, rfl, Grow.rfl' _, rfl⟩
      (generalize a'.eval = ev at ec ef e15 ⊢; simp [execOp, go_sem, *])
    · refine stepK_run hstab trivial (by intro j b h; cases h) ?_
      intro a' w' hg hs hd
      have e16 : a'.eval (.tmp 16) = .pointer (some ⟨p, 0, none⟩) := hd ⟨2, Ground.data⟩ (by simp) rfl rfl
      have ec : ∀ v, a'.eval (.const v) = v := fun _ => rfl
      have ef : ∀ g, a'.eval (.func g) = .func (.func g) #[] #[] := fun _ => rfl
      clear hd hs
      have pc := cell_later hg HC.out
      refine wpv (v := .map (some pb)) ?_ ⟨_, rfl, Grow.rfl' _, rfl⟩
      (generalize a'.eval = ev at ec ef e16 ⊢; simp [execOp, go_sem, *])
    · refine stepK_run hstab trivial (by intro j b h; cases h) ?_
      intro a' w' hg hs hd
      have e5 : a'.eval (.tmp 5) = .pointer (some ⟨w.heap.size, 0, none⟩) := hs.rest 5 rfl
      have ec : ∀ v, a'.eval (.const v) = v := fun _ => rfl
      have ef : ∀ g, a'.eval (.func g) = .func (.func g) #[] #[] := fun _ => rfl
      clear hd hs
      obtain ⟨y0, y1⟩ := KA.out.later hg
      refine wpv (v := .agg #[.int .i64 a.n, .int .i64 a.p]) ?_ ⟨_, rfl, Grow.rfl' _, rfl⟩
      (generalize a'.eval = ev at ec ef e5 ⊢; simp [execOp, go_sem, *])
    · refine stepK_run hstab trivial (by intro j b h; cases h) ?_
      intro a' w' hg hs hd
      have e17 : a'.eval (.tmp 17) = .map (some pb) := hd ⟨3, Ground.data⟩ (by simp) rfl rfl
      have e18 : a'.eval (.tmp 18) = .agg #[.int .i64 a.n, .int .i64 a.p] := hd ⟨4, Ground.data⟩ (by simp) rfl rfl
      have ec : ∀ v, a'.eval (.const v) = v := fun _ => rfl
      have ef : ∀ g, a'.eval (.func g) = .func (.func g) #[] #[] := fun _ => rfl
      clear hd hs
      have hl := H1.out w' hg
      refine wpv (v := mv) ?_ ⟨_, rfl, Grow.rfl' _, rfl⟩
      (generalize a'.eval = ev at ec ef e17 e18 ⊢; simp [execOp, go_sem, *])
    · refine stepK_run hstab trivial (by intro j b h; cases h) ?_
      intro a' w' hg hs hd
      have e7 : a'.eval (.tmp 7) = .pointer (some ⟨w.heap.size + 1 + 1, 0, none⟩) := hs.rest 7 rfl
      have ec : ∀ v, a'.eval (.const v) = v := fun _ => rfl
      have ef : ∀ g, a'.eval (.func g) = .func (.func g) #[] #[] := fun _ => rfl
      clear hd hs
      obtain ⟨y0, y1⟩ := KB.out.later hg
      refine wpv (v := .agg #[.int .i64 b.n, .int .i64 b.p]) ?_ ⟨_, rfl, Grow.rfl' _, rfl⟩
      (generalize a'.eval = ev at ec ef e7 ⊢; simp [execOp, go_sem, *])
    · refine stepK_run hstab trivial (by intro j b h; cases h) ?_
      intro a' w' hg hs hd
      have e19 : a'.eval (.tmp 19) = mv := hd ⟨5, Ground.data⟩ (by simp) rfl rfl
      have e20 : a'.eval (.tmp 20) = .agg #[.int .i64 b.n, .int .i64 b.p] := hd ⟨6, Ground.data⟩ (by simp) rfl rfl
      have ec : ∀ v, a'.eval (.const v) = v := fun _ => rfl
      have ef : ∀ g, a'.eval (.func g) = .func (.func g) #[] #[] := fun _ => rfl
      clear hd hs
      have hl := H2.out w' hg
      refine wpv (v := .slice s n c) ?_ ⟨_, rfl, Grow.rfl' _, rfl⟩
      (generalize a'.eval = ev at ec ef e19 e20 ⊢; simp [execOp, go_sem, *])
    · refine stepK_run hstab trivial (by intro j b h; cases h) ?_
      intro a' w' hg hs hd
      have e21 : a'.eval (.tmp 21) = .slice s n c := hd ⟨7, Ground.data⟩ (by simp) rfl rfl
      have ec : ∀ v, a'.eval (.const v) = v := fun _ => rfl
      have ef : ∀ g, a'.eval (.func g) = .func (.func g) #[] #[] := fun _ => rfl
      clear hd hs
      refine wpv (v := .int .i64 (n : Int)) ?_ ⟨_, rfl, Grow.rfl' _, rfl⟩
      (generalize a'.eval = ev at ec ef e21 ⊢; simp [go_sem, *])
    · refine stepK_run hstab trivial (by intro j b h; cases h) ?_
      intro a' w' hg hs hd
      have ec : ∀ v, a'.eval (.const v) = v := fun _ => rfl
      have ef : ∀ g, a'.eval (.func g) = .func (.func g) #[] #[] := fun _ => rfl
      clear hd hs
      refine wpv (v := Value.int IntKind.i64 0) ?_ ⟨_, rfl, Grow.rfl' _, rfl⟩
      (generalize a'.eval = ev at ec ef ⊢; simp [execOp, go_sem, *])
  · intro a' w' hg hs hd
    have G1 := hide (Grow.trans' G0.out hg)
    have KT1 := hide (KT.out.later hg)
    have HS1 := hide (HS.out.later hg)
    have hz := hg.size
    have hz0 := G0.out.size
    clear hg KA KT KB HC HS H1 H2 G0
    have fz14 : a'.tmps.getD 14 undef = .pointer (some ⟨p, 0, none⟩) := hd 0 (by simp) (by intro k h; cases h); have fz15 : a'.tmps.getD 15 undef = .pointer (some ⟨p, 0, none⟩) := hd 1 (by simp) (by intro k h; cases h); have fz16 : a'.tmps.getD 16 undef = .pointer (some ⟨p, 0, none⟩) := hd 2 (by simp) (by intro k h; cases h); have fz17 : a'.tmps.getD 17 undef = .map (some pb) := hd 3 (by simp) (by intro k h; cases h); have fz18 : a'.tmps.getD 18 undef = .agg #[.int .i64 a.n, .int .i64 a.p] := hd 4 (by simp) (by intro k h; cases h); have fz19 : a'.tmps.getD 19 undef = mv := hd 5 (by simp) (by intro k h; cases h); have fz20 : a'.tmps.getD 20 undef = .agg #[.int .i64 b.n, .int .i64 b.p] := hd 6 (by simp) (by intro k h; cases h); have fz21 : a'.tmps.getD 21 undef = .slice s n c := hd 7 (by simp) (by intro k h; cases h); have fz22 : a'.tmps.getD 22 undef = .int .i64 (n : Int) := hd 8 (by simp) (by intro k h; cases h); have fz23 : a'.tmps.getD 23 undef = Value.int IntKind.i64 0 := hd 9 (by simp) (by intro k h; cases h); rw [frame_eq hs [false, false, false, false, false, false, false, false, false, false, false, false, false, false, true, true, true, true, true, true, true, true, true, true, false, false, false, false, false, false, false, false, false, false, false, false, false, false, false, false, false] (by kernel_rfl)]; simp only [mergeL, fz14, fz15, fz16, fz17, fz18, fz19, fz20, fz21, fz22, fz23]; clear hs hd hstab fz14 fz15 fz16 fz17 fz18 fz19 fz20 fz21 fz22 fz23; generalize a'.tmps = TT at *
    generalize w' = w1 at *
    obtain ⟨PT, hPT⟩ : ∃ PT, PT = w.heap.size + 1 := ⟨_, rfl⟩
    rw [← hPT] at KT1
    go_wp2_with fail
    rw [← hPT]
    clear hPT
    go_loopw [9, 23] (fun v i wr => ∃ (k : Nat) (s' : Option Addr) (m c' : Nat), k ≤ n ∧ m ≤ k ∧ v = .slice s' m c' ∧ i = .int .i64 k ∧ Grow w1 wr ∧ OwnSV wr w1.heap.size s' m c' (madeL (l.take k) t)) (fun _ i _ => n - (intOf i).toNat)
    case atStart => exact ⟨0, none, 0, 0, Nat.zero_le _, Nat.le_refl _, rfl, rfl, Grow.rfl' _, by simpa [madeL] using OwnSV.nil w1 w1.heap.size⟩
    case round =>
      obtain ⟨k, s', m, c', hk, hmk, rfl, rfl, hg, hO⟩ := hrel
      have HG := hide hg
      have HO := hide hO
      clear hO
      by_cases hlt : k < n
      · have hkd : k < l.length := by rw [HS1.out.1]; exact hlt
        have hne : ¬ l = [] := fun h => by rw [h] at hkd; simp at hkd
        obtain ⟨bs, os, rfl, hrs⟩ := HS1.out.2.2.resolve_left hne
        obtain ⟨z0, z1, z2, z3, z4, z5, z6⟩ := (hrs.later hg).at k hkd
        have HMS := hide (madeL_step l t k hkd)
        obtain ⟨z, hz⟩ : ∃ z, z = l[k] := ⟨_, rfl⟩
        rw [← hz] at z0 z1 z2 z3 z4 z5 z6 HMS
        have hk1 : (0 : Int) ≤ (k : Int) := by omega
        have hk2 : (k : Int) < (n : Int) := by omega
        clear hrs hne hz hkd hg
        obtain ⟨w5, rfl⟩ : ∃ w5 : World, w5 = wr := ⟨_, rfl⟩
        go_wp2_with (refine wpList_putS rfl _ _ rfl w5.heap.size z rfl rfl (BlkS.new w5) w5 (Grow.alloc' _ _) (Nat.le_refl _) ?_)
        intro w6 hg6 hb6
        have HG6 := hide (Grow.trans' HG.out hg6)
        have HO6 := hide (HO.out.later hg6)
        obtain ⟨c0, c1, c2, c3, c4, c5, c6⟩ := hb6
        obtain ⟨t0, t1, t2, t3, t4⟩ := KT1.out.later HG6.out
        obtain ⟨q, hq⟩ : ∃ q, applyT z t = q := ⟨_, rfl⟩
        obtain ⟨e, he⟩ : ∃ e, applyE z t = e := ⟨_, rfl⟩
        rw [hq, he] at HMS
        have CT := hide (apply_atQ z t q e hq he)
        clear hg6 z0 z1 z2 z3 z4 z5 z6 HG HO hq he
        go_wp2_with fail
        refine (CT.out _).mono ?_
        rintro _ w7 ⟨rfl, hb7⟩
        have HG7 := hide (Grow.trans' HG6.out hb7)
        have HO7 := hide (HO6.out.later hb7)
        clear hb7 c0 c1 c2 c3 c4 c5 c6 t0 t1 t2 t3 t4 HG6 HO6 CT
        go_wp2_with (refine wpList_putT rfl _ _ rfl w7.heap.size q rfl rfl (BlkT.new w7) w7 (Grow.alloc' _ _) (Nat.le_refl _) ?_)
        intro w8 hg8 hb8
        have HG8 := hide (Grow.trans' HG7.out hg8)
        have HO8 := hide (HO7.out.later hg8)
        obtain ⟨t0, t1, t2, t3, t4⟩ := hb8
        clear hg8 HG7 HO7
        by_cases he : e = 0
        · subst he
          have hrow := hide (RowT_one w8 q)
          have hz8 : w1.heap.size ≤ w8.heap.size := HG8.out.size
          go_wp2_with (at_builtin; refine wpList_apv_tm rfl _ _ rfl w1.heap.size s' c' (madeL (l.take k) t) [q] m rfl (HO8.out.later (Grow.alloc' _ _)) w8.heap.size 0 1 1 rfl rfl (by omega) hrow.out ?hl ?hb ?_)
          case hl => rw [HO8.out.1]; omega
          case hb => first | omega | (simp; omega)
          intro g' c9 w9 O9 gb
          have G9 := hide (gb.grow (Grow.trans' HG8.out (Grow.alloc' _ _)) (Nat.le_refl _))
          have HO9 : Hid (OwnSV w9 w1.heap.size (some ⟨g', 0, none⟩) (m + 1) c9 (madeL (l.take (k + 1)) t)) := hide (by
            rw [HMS.out, if_pos trivial]
            refine OwnSV.of O9 ?_
            have := HO8.out.1
            simp [this])
          clear O9 gb HO8 HG8 hrow t0 t1 t2 t3 t4 hz8
          go_wp2_with fail
          go_roundw
          case rel => exact ⟨k + 1, _, m + 1, c9, by omega, by omega, rfl, by go_num, G9.out, HO9.out⟩
          case measure => simp [intOf]; omega
        · have HR3 : Hid (madeL (l.take (k + 1)) t = madeL (l.take k) t) := hide (by rw [HMS.out, if_neg he, List.append_nil])
          clear t0 t1 t2 t3 t4
          go_wp2_with fail
          go_roundw
          case rel => exact ⟨k + 1, s', m, c', by omega, by omega, rfl, by go_num, HG8.out, by rw [HR3.out]; exact HO8.out⟩
          case measure => simp [intOf]; omega
      · have hi3 : ¬ (k : Int) < (n : Int) := by omega
        have HT6 : Hid (l.take k = l) := hide (List.take_of_length_le (by rw [HS1.out.1]; omega))
        rw [HT6.out] at HO
        go_wp2_with fail
        go_ret
        exact ⟨s', m, c', rfl, Grow.trans' G1.out HG.out, HO.out.rebase (by omega)⟩

set_option maxHeartbeats 2000000 in
theorem could_any (p : Nat) (N : List Nd) (E : List Ed) (hA : AccG N E) (a b : Lc) (t : Tm) (ha : LcWf a) (hb : LcWf b) (l : List Sm) (hl : SumsOf N E a b l) (w : World) (hI : IsPth w p N E) :
    Calls Tryz.prog 16 #[.pointer (some ⟨p, 0, none⟩), .agg #[.int .i64 a.n, .int .i64 a.p], .agg #[.int .i64 t.e, .int .i64 t.d, .int .i64 t.x, .int .i64 t.y, .int .i64 t.z], .agg #[.int .i64 b.n, .int .i64 b.p]] w fun e w' => ∃ v, e = .returned v ∧ Grow w w' ∧ IsRowT (chainO kinT (madeL l t)) v w' := by
  have G0 : Hid (Grow w (((w.alloc (.cells #[.int .i64 a.n, .int .i64 a.p] 27)).alloc (.cells #[.int .i64 t.e, .int .i64 t.d, .int .i64 t.x, .int .i64 t.y, .int .i64 t.z] 43)).alloc (.cells #[.int .i64 b.n, .int .i64 b.p] 27))) := hide (Grow.trans' (Grow.trans' (Grow.alloc' _ _) (Grow.alloc' _ _)) (Grow.alloc' _ _))
  have CM := hide (made_any p N E hA a b t ha hb l hl (((w.alloc (.cells #[.int .i64 a.n, .int .i64 a.p] 27)).alloc (.cells #[.int .i64 t.e, .int .i64 t.d, .int .i64 t.x, .int .i64 t.y, .int .i64 t.z] 43)).alloc (.cells #[.int .i64 b.n, .int .i64 b.p] 27)) (hI.later G0.out))
  have hll : (madeL l t).length ≤ 4012012004 := by rw [← BIG_eq]; exact Nat.le_trans (madeL_len l t) (sumsOf_len hA hl)
  clear hI hl
  go_enter Tryz.func16, Tryz.ntmps16
  go_wp2_with fail
  refine CM.out.mono ?_
  rintro _ w1 ⟨s, m, c, rfl, hb1, hO⟩
  have G1 := hide (Grow.trans' G0.out hb1)
  have hm : m ≤ 100000000000 := by rw [← hO.1]; omega
  have CC := hide (chainT_any s m c (madeL l t) w1 hm hO.is)
  clear hb1 hO CM G0
  go_wp2_with fail
  refine CC.out.mono ?_
  rintro _ w2 ⟨v, rfl, hb2, hr⟩
  obtain ⟨s2, m2, c2, rfl, hI2⟩ := hr
  have G2 := hide (Grow.trans' G1.out hb2)
  have H2 := hide hI2
  clear hb2 hI2 CC G1
  go_wp2_with fail
  go_ret
  exact ⟨_, rfl, G2.out, s2, m2, c2, rfl, H2.out⟩
set_option maxHeartbeats 4000000 in
theorem front_any (p : Nat) (N : List Nd) (E : List Ed) (hA : AccG N E) (b : Lc) (hb : LcWf b) (sm : Lc → List Sm) (hsm : ∀ x, LcWf x → SumsOf N E x b (sm x)) (s : Option Addr) (n c : Nat) (cs : List Ch) (hcw : ∀ x ∈ cs, LcWf x.l) (hn : n ≤ 20) (w : World) (hcs : IsChs w s n c cs) (hI : IsPth w p N E) :
    Calls Tryz.prog 18 #[.pointer (some ⟨p, 0, none⟩), .slice s n c, .agg #[.int .i64 b.n, .int .i64 b.p]] w fun e w' => ∃ v, e = .returned v ∧ Grow w w' ∧ IsRowT (chainO kinT (frontL sm cs)) v w' := by
  have G0 : Hid (Grow w (w.alloc (.cells #[.int .i64 b.n, .int .i64 b.p] 27))) := hide (Grow.alloc' _ _)
  have KB : Hid (BoxL (w.alloc (.cells #[.int .i64 b.n, .int .i64 b.p] 27)) w.heap.size b) := hide (BoxL.new w b)
  have HI := hide (hI.later G0.out)
  have HC := hide (hcs.later G0.out)
  have HL : Hid (∀ x ∈ cs, (sm x.l).length ≤ BIG) := hide fun x hx => sumsOf_len hA (hsm x.l (hcw x hx))
  have HW := hide hcw
  have HSM := hide hsm
  have HA := hide hA
  clear hI hcs hcw hsm hA
  go_enter Tryz.func18, Tryz.ntmps18
  go_wp2_with fail
  generalize w.alloc (.cells #[.int .i64 b.n, .int .i64 b.p] 27) = w0 at *
  obtain ⟨PB, hPB⟩ : ∃ PB, PB = w.heap.size := ⟨_, rfl⟩
  rw [← hPB] at KB
  rw [← hPB]
  clear hPB
  go_loopw [7, 12] (fun v i wr => ∃ (k : Nat) (s' : Option Addr) (m c' : Nat), k ≤ n ∧ v = .slice s' m c' ∧ i = .int .i64 k ∧ Grow w0 wr ∧ OwnSV wr w0.heap.size s' m c' (frontL sm (cs.take k))) (fun _ i _ => n - (intOf i).toNat)
  case atStart => exact ⟨0, none, 0, 0, Nat.zero_le _, rfl, rfl, Grow.rfl' _, by simpa [frontL] using OwnSV.nil w0 w0.heap.size⟩
  case round =>
    obtain ⟨k, s', m, c', hk, rfl, rfl, hg, hO⟩ := hrel
    have HG := hide hg
    have HO := hide hO
    have hml : m ≤ 4012012004 * 20 := by
      have h1 := frontL_len (sm := sm) (cs.take k) fun x hx => HL.out x (List.mem_of_mem_take hx)
      rw [← hO.1]
      rw [BIG_eq] at h1
      have h2 : (cs.take k).length ≤ 20 := by rw [List.length_take]; omega
      have h3 := Nat.mul_le_mul_right 4012012004 h2
      omega
    clear hO
    by_cases hlt : k < n
    · have hkd : k < cs.length := by rw [HC.out.1]; exact hlt
      have hne : ¬ cs = [] := fun h => by rw [h] at hkd; simp at hkd
      obtain ⟨bs, os, rfl, hrs⟩ := HC.out.2.2.resolve_left hne
      obtain ⟨z0, z1, z2, z3, z4, z5, z6, z7⟩ := (hrs.later hg).at k hkd
      have HMS := hide (frontL_step sm cs k hkd)
      have HWY := hide (HW.out _ (List.getElem_mem hkd))
      have HLY := hide (HL.out _ (List.getElem_mem hkd))
      obtain ⟨y, hy⟩ : ∃ y, y = cs[k] := ⟨_, rfl⟩
      rw [← hy] at z0 z1 z2 z3 z4 z5 z6 z7 HMS HWY HLY
      have hk1 : (0 : Int) ≤ (k : Int) := by omega
      have hk2 : (k : Int) < (n : Int) := by omega
      clear hrs hne hy hkd hg
      obtain ⟨w5, rfl⟩ : ∃ w5 : World, w5 = wr := ⟨_, rfl⟩
      go_wp2_with (refine wpList_putC rfl _ _ rfl w5.heap.size y rfl rfl (BlkC.new w5 _ rfl) w5 (Grow.alloc' _ _) (Nat.le_refl _) ?_)
      intro w6 hg6 hb6 hz6
      have HG6 := hide (Grow.trans' HG.out hg6)
      have HO6 := hide (HO.out.later hg6)
      have HI6 := hide (HI.out.later HG6.out)
      obtain ⟨c0, c1, c2, c3, c4, c5, c6, c7⟩ := hb6
      obtain ⟨b0, b1⟩ := KB.out.later HG6.out
      clear hg6 z0 z1 z2 z3 z4 z5 z6 z7 HG HO hz6
      by_cases hpos : 0 < y.n
      · have CM := hide (made_any p N E HA.out y.l b y.t HWY.out hb (sm y.l) (HSM.out y.l HWY.out) w6 HI6.out)
        have hll : (madeL (sm y.l) y.t).length ≤ 4012012004 := by rw [← BIG_eq]; exact Nat.le_trans (madeL_len _ _) HLY.out
        go_wp2_with fail
        refine CM.out.mono ?_
        rintro _ w7 ⟨s7, m7, c7', rfl, hb7, hO7⟩
        have HG7 := hide (Grow.trans' HG6.out hb7)
        have HO7 := hide (HO6.out.later hb7)
        have HM7 := hide hO7.is
        have hm7 : m7 ≤ 4012012004 := by rw [← hO7.1]; exact hll
        clear hb7 hO7 c0 c1 c2 c3 c4 c5 c6 c7 b0 b1 HG6 HO6 HI6 CM
        go_wp2_with (at_builtin; refine wpList_apd_tm rfl _ _ rfl w0.heap.size s' m c' (frontL sm (cs.take k)) (madeL (sm y.l) y.t) rfl HO7.out s7 m7 c7' rfl HM7.out ?hl HG7.out.size ?_)
        case hl => omega
        intro s9 c9 w9 O9 gb
        have G9 := hide (gb.grow HG7.out (Nat.le_refl _))
        have HO9 : Hid (OwnSV w9 w0.heap.size s9 (m + m7) c9 (frontL sm (cs.take (k + 1)))) := hide (by rw [HMS.out, if_pos hpos]; exact O9)
        clear O9 gb HO7 HG7 HM7
        go_wp2_with fail
        go_roundw
        case rel => exact ⟨k + 1, _, m + m7, c9, by omega, rfl, by go_num, G9.out, HO9.out⟩
        case measure => simp [intOf]; omega
      · have HR3 : Hid (frontL sm (cs.take (k + 1)) = frontL sm (cs.take k)) := hide (by rw [HMS.out, if_neg hpos, List.append_nil])
        go_wp2_with fail
        go_roundw
        case rel => exact ⟨k + 1, s', m, c', by omega, rfl, by go_num, HG6.out, by rw [HR3.out]; exact HO6.out⟩
        case measure => simp [intOf]; omega
    · have hi3 : ¬ (k : Int) < (n : Int) := by omega
      have HT6 : Hid (cs.take k = cs) := hide (List.take_of_length_le (by rw [HC.out.1]; omega))
      rw [HT6.out] at HO
      have CC := hide (chainT_any s' m c' (frontL sm cs) wr (by omega) HO.out.is)
      clear hg
      go_wp2_with fail
      refine CC.out.mono ?_
      rintro _ w2 ⟨v, rfl, hb2, hr⟩
      obtain ⟨s2, m2, c2, rfl, hI2⟩ := hr
      have G2 := hide (Grow.trans' (Grow.trans' G0.out HG.out) hb2)
      have H2 := hide hI2
      clear hb2 hI2 CC
      go_wp2_with fail
      go_ret
      exact ⟨_, rfl, G2.out, s2, m2, c2, rfl, H2.out⟩

end Go.Proofs.YtehianjfpmbfpaaGreat
