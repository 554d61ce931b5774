/-
  What gcode's reader makes of all its bytes, the walk: as many nodes, and edges, as the bytes speak of; how many bytes are left, and whether they ended too soon.
-/
import Derived.Test.YtjebipagehhkjaaGreatKRn
/-
  What gcode's reader makes of all its bytes: a graph, whose rows are the call's own; what was there stays as it was, but for the reader.
-/
namespace Go.Proofs.YtjebipagehhkjaaGreat
set_option maxRecDepth 100000
open Go.ChangeShapes Go.WideShapes Go.ChangeAt Go.RowKit Go.Deep Go.Sort
set_option linter.unusedVariables false
set_option linter.unusedSimpArgs false

/-- A row stored into a graph of the call's own, the last operation of a region. -/
theorem wp_rowN {o : Oper} {a : Act} {w : World} {K : Act → World → Prop} {Q : Exit → Act → World → Prop} (x y : Operand) (ho : o.op = .store 24 x y) (b : Nat) (g : GA) (s : Option Addr) (n c : Nat)
    (hx : a.eval x = .pointer (some ⟨b, 0, none⟩)) (hy : a.eval y = .slice s n c) (hb : BlkG w b) (hG : BoxG w b g)
    (h : ∀ w2, BoxG w2 b ⟨s, n, c, g.t, g.m, g.q, [], []⟩ → BlkG w2 b → w.grownBy w2 (some b) → K (a.put o.dst undef) w2) : o.wp Tryz.prog a w K Q := by
  have hf := hb.frozen 0
  have hl := hb.lt
  obtain ⟨h0, h1⟩ := hG
  have hK : BoxG (w.setCell ⟨b, 0, none⟩ (.slice s n c)) b ⟨s, n, c, g.t, g.m, g.q, [], []⟩ := by
    constructor <;> simp [go_sem, h0, h1]
  have hB : BlkG (w.setCell ⟨b, 0, none⟩ (.slice s n c)) b := by
    obtain ⟨cs, hc, hs⟩ := hb
    exact ⟨_, heap_setCell_same w b 0 cs _ _ hc, by simpa using hs⟩
  have hO : w.grownBy (w.setCell ⟨b, 0, none⟩ (.slice s n c)) (some b) := ⟨rfl, rfl, rfl, by simp, fun k _ hk => heap_setCell_other w ⟨b, 0, none⟩ k _ (fun e => hk (by simp [e]))⟩
  have hk2 := h _ hK hB hO
  clear h hK hB hO
  unfold Oper.wp
  simp only [execOp, ho]
  generalize a.eval = ev at hx hy ⊢
  simp [hx, hy, go_sem, h0, hf, Result.andThen]
  exact hk2
/-- A row stored into a graph of the call's own, the last operation of a region. -/
theorem wp_rowE {o : Oper} {a : Act} {w : World} {K : Act → World → Prop} {Q : Exit → Act → World → Prop} (x y : Operand) (ho : o.op = .store 25 x y) (b : Nat) (g : GA) (s : Option Addr) (n c : Nat)
    (hx : a.eval x = .pointer (some ⟨b, 1, none⟩)) (hy : a.eval y = .slice s n c) (hb : BlkG w b) (hG : BoxG w b g)
    (h : ∀ w2, BoxG w2 b ⟨g.s, g.n, g.c, s, n, c, [], []⟩ → BlkG w2 b → w.grownBy w2 (some b) → K (a.put o.dst undef) w2) : o.wp Tryz.prog a w K Q := by
  have hf := hb.frozen 1
  have hl := hb.lt
  obtain ⟨h0, h1⟩ := hG
  have hK : BoxG (w.setCell ⟨b, 1, none⟩ (.slice s n c)) b ⟨g.s, g.n, g.c, s, n, c, [], []⟩ := by
    constructor <;> simp [go_sem, h0, h1]
  have hB : BlkG (w.setCell ⟨b, 1, none⟩ (.slice s n c)) b := by
    obtain ⟨cs, hc, hs⟩ := hb
    exact ⟨_, heap_setCell_same w b 1 cs _ _ hc, by simpa using hs⟩
  have hO : w.grownBy (w.setCell ⟨b, 1, none⟩ (.slice s n c)) (some b) := ⟨rfl, rfl, rfl, by simp, fun k _ hk => heap_setCell_other w ⟨b, 1, none⟩ k _ (fun e => hk (by simp [e]))⟩
  have hk2 := h _ hK hB hO
  clear h hK hB hO
  unfold Oper.wp
  simp only [execOp, ho]
  generalize a.eval = ev at hx hy ⊢
  simp [hx, hy, go_sem, h1, hf, Result.andThen]
  exact hk2
theorem Turn.by' {X : TypeId → Bool} {w w1 w2 : World} {r : Option Nat} (h : Turn X w w1) (hg : w1.grownBy w2 r) (hR : ∀ k, r = some k → w.heap.size ≤ k) : Turn X w w2 :=
  ⟨Nat.le_trans h.size hg.size, fun k hk => by
    have e := hg.block k (Nat.lt_of_lt_of_le hk h.size) (fun e => by have := hR k e.symm; omega)
    rcases h.block k hk with h1 | h1
    · exact .inl (e.trans h1)
    · exact .inr h1⟩
theorem nd_drop (d : List UInt8) (i : Nat) : ndAt (d.drop i) 0 = ndAt d i := by simp only [ndAt, atB_drop, Nat.zero_add, Nat.add_zero]
theorem ed_drop (d : List UInt8) (i : Nat) : edAt (d.drop i) 0 = edAt d i := by simp only [edAt, atB_drop, Nat.zero_add, Nat.add_zero]
theorem nds_drop (d : List UInt8) (i n : Nat) : ndsAt (d.drop i) 0 n = ndsAt d i n := by
  unfold ndsAt
  refine List.map_congr_left fun k _ => ?_
  rw [← nd_drop, ← nd_drop d, List.drop_drop]
  simp
theorem eds_drop (d : List UInt8) (i n : Nat) : edsAt (d.drop i) 0 n = edsAt d i n := by
  unfold edsAt
  refine List.map_congr_left fun k _ => ?_
  rw [← ed_drop, ← ed_drop d, List.drop_drop]
  simp
theorem flag_drop (sh : Bool) (d : List UInt8) (k j : Nat) (hj : 0 < j) : ((sh || decide (d.length < k)) || decide ((d.drop k).length < j)) = (sh || decide (d.length < k + j)) := by
  rw [List.length_drop, Bool.or_assoc]
  congr 1
  by_cases h1 : d.length < k <;> by_cases h2 : d.length - k < j <;> by_cases h3 : d.length < k + j <;> simp [h1, h2, h3] <;> omega
theorem Rd.step {W w : World} {b : Nat} {d : List UInt8} {sh : Bool} {k j : Nat} (hj : 0 < j) (h : Rd W w b ((d.drop k).drop j) ((sh || decide (d.length < k)) || decide ((d.drop k).length < j))) : Rd W w b (d.drop (k + j)) (sh || decide (d.length < k + j)) := by
  rw [flag_drop sh d k j hj, List.drop_drop] at h
  exact h
/-- A graph under way, read by a reader. -/
structure Gw (W w : World) (b R2 R3 : Nat) (d : List UInt8) (sh : Bool) (g : GA) (w' : World) : Prop where
  r : Rd W w' b d sh
  b2 : BlkG w' R2
  b3 : BlkG w' R3
  x3 : BoxG w' R3 g
  t : Turn XR w w'
section
variable {W w w' w2 : World} {b R2 R3 : Nat} {d d' : List UInt8} {sh sh' : Bool} {g g' : GA}
theorem Gw.later (h : Gw W w b R2 R3 d sh g w') (hg : Grow w' w2) : Gw W w b R2 R3 d sh g w2 := ⟨h.r.later hg, h.b2.later hg, h.b3.later hg, h.x3.later hg, h.t.trans (Turn.of_grow hg)⟩
theorem Gw.turn (h : Gw W w b R2 R3 d sh g w') (hR : Rd W w2 b d' sh') (hT : Turn XR w' w2) : Gw W w b R2 R3 d' sh' g w2 := ⟨hR, h.b2.turn hT (by decide), h.b3.turn hT (by decide), BoxG.turn hT (by decide) h.b3 h.x3, h.t.trans hT⟩
/-- One block of the call's own, which is none of these, has turned. -/
theorem Gw.off (h : Gw W w b R2 R3 d sh g w') {r : Option Nat} (hg : w'.grownBy w2 r) (hw : W.heap.size ≤ w.heap.size) (hb : b < w.heap.size) (h1 : ∀ k, r = some k → w.heap.size ≤ k ∧ k ≠ R2 ∧ k ≠ R3) : Gw W w b R2 R3 d sh g w2 := by
  have k2 : w2.heap[R2]? = w'.heap[R2]? := hg.block _ h.b2.lt fun e => (h1 R2 e.symm).2.1 rfl
  have k3 : w2.heap[R3]? = w'.heap[R3]? := hg.block _ h.b3.lt fun e => (h1 R3 e.symm).2.2 rfl
  exact ⟨h.r.same (Below.grown h.r.g hg h.r.g.size fun k e => Nat.le_trans hw (h1 k e).1) (hg.block _ h.r.at_ne fun e => by have := (h1 b e.symm).1; omega), h.b2.keep k2, h.b3.keep k3, h.x3.keep k3, h.t.by' hg fun k e => (h1 k e).1⟩
/-- The graph's own block has turned. -/
theorem Gw.set (h : Gw W w b R2 R3 d sh g w') (hg : w'.grownBy w2 (some R3)) (hx : BoxG w2 R3 g') (hB : BlkG w2 R3) (hw : W.heap.size ≤ w.heap.size) (hb : b < w.heap.size) (h3 : w.heap.size ≤ R3) (h2 : R2 ≠ R3) : Gw W w b R2 R3 d sh g' w2 := by
  have k2 : w2.heap[R2]? = w'.heap[R2]? := hg.block _ h.b2.lt fun e => h2 (Option.some.inj e)
  exact ⟨h.r.same (Below.grown h.r.g hg h.r.g.size fun k e => by cases e; omega) (hg.block _ h.r.at_ne fun e => by have := Option.some.inj e; omega), h.b2.keep k2, hB, hx, h.t.by' hg fun k e => by cases e; exact h3⟩
end
theorem OwnN.set {w w2 : World} {base n c R : Nat} {s : Option Addr} {d : List Nd} (h : OwnN w base s n c d) (hB : BlkG w R) (hg : w.grownBy w2 (some R)) : OwnN w2 base s n c d :=
  h.keep fun a ha => hg.block _ (h.lt a ha).1 fun e => h.neG hB a ha (Option.some.inj e)
theorem OwnN.else {w w2 : World} {base n c base' n' c' : Nat} {s s' : Option Addr} {d : List Nd} {d' : List Ed} (h : OwnN w base s n c d) (h' : OwnE w base' s' n' c' d') (hg : w.grownBy w2 (s'.map (·.block))) : OwnN w2 base s n c d :=
  h.keep fun a ha => hg.block _ (h.lt a ha).1 fun e => by
    cases s' with
    | none => simp at e
    | some a' =>
      obtain ⟨cs, h1⟩ := h.block a ha
      obtain ⟨cs', h2⟩ := h'.block a' rfl
      simp at e
      rw [← e, h1] at h2
      simp only [Option.some.injEq, Obj.cells.injEq] at h2
      exact absurd h2.2.1 (by decide)
theorem OwnN.rim {w : World} {base n c R2 R3 : Nat} {s : Option Addr} {d : List Nd} (h : OwnN w base s n c d) (h2 : BlkG w R2) (h3 : BlkG w R3) : ∀ k, s.map (·.block) = some k → base ≤ k ∧ k ≠ R2 ∧ k ≠ R3 := by
  intro k hk
  cases s with
  | none => cases hk
  | some a =>
    cases hk
    exact ⟨(h.lt a rfl).2, h.neG h2 a rfl, h.neG h3 a rfl⟩
theorem OwnE.set {w w2 : World} {base n c R : Nat} {s : Option Addr} {d : List Ed} (h : OwnE w base s n c d) (hB : BlkG w R) (hg : w.grownBy w2 (some R)) : OwnE w2 base s n c d :=
  h.keep fun a ha => hg.block _ (h.lt a ha).1 fun e => h.neG hB a ha (Option.some.inj e)
theorem OwnE.else {w w2 : World} {base n c base' n' c' : Nat} {s s' : Option Addr} {d : List Ed} {d' : List Nd} (h : OwnE w base s n c d) (h' : OwnN w base' s' n' c' d') (hg : w.grownBy w2 (s'.map (·.block))) : OwnE w2 base s n c d :=
  h.keep fun a ha => hg.block _ (h.lt a ha).1 fun e => by
    cases s' with
    | none => simp at e
    | some a' =>
      obtain ⟨cs, h1⟩ := h.block a ha
      obtain ⟨cs', h2⟩ := h'.block a' rfl
      simp at e
      rw [← e, h1] at h2
      simp only [Option.some.injEq, Obj.cells.injEq] at h2
      exact absurd h2.2.1 (by decide)
theorem OwnE.rim {w : World} {base n c R2 R3 : Nat} {s : Option Addr} {d : List Ed} (h : OwnE w base s n c d) (h2 : BlkG w R2) (h3 : BlkG w R3) : ∀ k, s.map (·.block) = some k → base ≤ k ∧ k ≠ R2 ∧ k ≠ R3 := by
  intro k hk
  cases s with
  | none => cases hk
  | some a =>
    cases hk
    exact ⟨(h.lt a rfl).2, h.neG h2 a rfl, h.neG h3 a rfl⟩
end Go.Proofs.YtjebipagehhkjaaGreat
namespace Go.Proofs.YtjebipagehhkjaaGreat
set_option maxRecDepth 100000
open Go.ChangeShapes Go.WideShapes Go.ChangeAt Go.RowKit Go.Deep Go.Sort
set_option linter.unusedVariables false
set_option linter.unusedSimpArgs false

set_option maxHeartbeats 16000000 in
theorem rgr_any (W w : World) (b : Nat) (d : List UInt8) (sh : Bool) (hR : Rd W w b d sh) (n m : Nat) (hn : n = (atB d 0).toNat) (hm : m = (atB d (1 + 6 * n)).toNat) :
    Calls Tryz.prog 14 #[.pointer (some ⟨b, 0, none⟩)] w fun r w' => ∃ s c t q, r = .returned (.agg #[.slice s n c, .slice t m q]) ∧ OwnN w' w.heap.size s n c (ndsAt d 1 n) ∧ OwnE w' w.heap.size t m q (edsAt d (2 + 6 * n) m) ∧ Rd W w' b (d.drop (2 + 6 * n + 3 * m)) (sh || decide (d.length < 2 + 6 * n + 3 * m)) ∧ Turn XR w w' := by
  have hz : (w.alloc (.cells #[.slice none 0 0, .slice none 0 0] 27)).heap.size = w.heap.size + 1 := by simp
  have HGZ : Hid (Grow w ((w.alloc (.cells #[.slice none 0 0, .slice none 0 0] 27)).alloc (.cells #[.slice none 0 0, .slice none 0 0] 27))) := hide (Grow.trans' (Grow.alloc' _ _) (Grow.alloc' _ _))
  have hbw := hR.at_ne
  have HG0 : Hid (Gw W w b w.heap.size (w.heap.size + 1) d sh ⟨none, 0, 0, none, 0, 0, [], []⟩ ((w.alloc (.cells #[.slice none 0 0, .slice none 0 0] 27)).alloc (.cells #[.slice none 0 0, .slice none 0 0] 27))) := hide (by
    refine ⟨hR.later HGZ.out, (BlkG.new w _ _).later (Grow.alloc' _ _), ?_, ?_, Turn.of_grow HGZ.out⟩
    · have := BlkG.new (w.alloc (.cells #[.slice none 0 0, .slice none 0 0] 27)) (.slice none 0 0) (.slice none 0 0)
      rw [hz] at this; exact this
    · have := BoxG.new (w.alloc (.cells #[.slice none 0 0, .slice none 0 0] 27)) ⟨none, 0, 0, none, 0, 0, [], []⟩
      rw [hz] at this; exact this)
  have HWw : Hid (W.heap.size ≤ w.heap.size) := hide hR.g.size
  have HBW := hide hbw
  have HNn := hide hn
  have HMm := hide hm
  have hn255 : n ≤ 255 := by have := (atB d 0).toNat_lt; omega
  have hm255 : m ≤ 255 := by have := (atB d (1 + 6 * n)).toNat_lt; omega
  have HN5 := hide hn255
  have HM5 := hide hm255
  clear hR hn hm hz hbw hn255 hm255
  obtain ⟨d1, hd1⟩ : ∃ d1, d1 = d.drop 1 := ⟨_, rfl⟩
  obtain ⟨sh1, hsh1⟩ : ∃ s, s = (sh || decide (d.length < 1)) := ⟨_, rfl⟩
  have HD1 := hide hd1
  have HS1 := hide hsh1
  clear hd1 hsh1
  go_enter Tryz.func14, Tryz.ntmps14
  go_wp2_with fail
  generalize ((w.alloc (.cells #[.slice none 0 0, .slice none 0 0] 27)).alloc (.cells #[.slice none 0 0, .slice none 0 0] 27)) = w0 at *
  obtain ⟨P, hP⟩ : ∃ P, P = w.heap.size := ⟨_, rfl⟩
  rw [← hP] at HG0 HWw HBW ⊢
  have HP := hide hP
  clear hP
  refine (rsmall_any W w0 b d sh HG0.out.r).mono ?_
  rintro _ w1 ⟨rfl, hR1, hT1⟩
  have HG1 : Hid (Gw W w b P (P + 1) d1 sh1 ⟨none, 0, 0, none, 0, 0, [], []⟩ w1) := hide (by rw [HD1.out, HS1.out]; exact HG0.out.turn hR1 hT1)
  have hn := HNn.out
  rw [← hn]
  clear hR1 hT1 hn HG0 HGZ
  go_wp2_with fail
  go_loopw [8] (fun i wr => ∃ (k : Nat) (s : Option Addr) (c : Nat), k ≤ n ∧ i = .int .i64 (k : Int) ∧ Gw W w b P (P + 1) (d1.drop (6 * k)) (sh1 || decide (d1.length < 6 * k)) ⟨s, k, c, none, 0, 0, [], []⟩ wr ∧ OwnN wr P s k c (ndsAt d1 0 k)) (fun i _ => n - (intOf i).toNat)
  case atStart => exact ⟨0, none, 0, Nat.zero_le _, rfl, by simpa using HG1.out, OwnN.nil _ _⟩
  case round =>
    obtain ⟨k, s, c, hk, rfl, hG, hO⟩ := hrel
    generalize wr = wi at *
    have HG := hide hG
    have HO := hide hO
    have hn5 := HN5.out
    clear hG hO
    by_cases hlt : k < n
    · have hi2 : (k : Int) < (n : Int) := by omega
      obtain ⟨x, hx⟩ : ∃ x, ndAt (d1.drop (6 * k)) 0 = x := ⟨_, rfl⟩
      have HX := hide hx
      clear hx
      go_wp2_with fail
      let FF : Nat → Value → Prop := fun i vF => match i with | 0 => vF = .pointer (some ⟨P + 1, 0, none⟩) | 1 => vF = .slice s k c | 2 => vF = .pointer (some ⟨b, 0, none⟩) | 3 => vF = .agg #[.int .i64 x.k, .int .i64 x.a, .int .i64 x.b, .int .i64 x.d] | 4 => True | 5 => True | 6 => vF = .pointer (some ⟨P + 1, 0, none⟩) | _ => True
      let CC : Nat → Value → World → Prop := fun p u w' => match p with | 0 => Gw W w b P (P + 1) (d1.drop (6 * k)) (sh1 || decide (d1.length < 6 * k)) ⟨s, k, c, none, 0, 0, [], []⟩ w' ∧ OwnN w' P s k c (ndsAt d1 0 k) | 1 => Gw W w b P (P + 1) (d1.drop (6 * k + 6)) (sh1 || decide (d1.length < 6 * k + 6)) ⟨s, k, c, none, 0, 0, [], []⟩ w' ∧ OwnN w' P s k c (ndsAt d1 0 k) | 2 => Gw W w b P (P + 1) (d1.drop (6 * k + 6)) (sh1 || decide (d1.length < 6 * k + 6)) ⟨s, k, c, none, 0, 0, [], []⟩ w' ∧ OwnN w' P s k c (ndsAt d1 0 k) ∧ ∃ g, u = .slice (some ⟨g, 0, none⟩) 1 1 ∧ IsNds w' (some ⟨g, 0, none⟩) 1 1 [x] | _ => Gw W w b P (P + 1) (d1.drop (6 * k + 6)) (sh1 || decide (d1.length < 6 * k + 6)) ⟨s, k, c, none, 0, 0, [], []⟩ w' ∧ ∃ s2 c2, u = .slice s2 (k + 1) c2 ∧ OwnN w' P s2 (k + 1) c2 (ndsAt d1 0 k ++ [x])
      refine wp_region_endC FF CC [3, 4, 5] 7 _ rfl rfl rfl (by kernel_rfl) (by kernel_rfl) (by kernel_rfl) (fun w' hg _ => ⟨HG.out.later hg, HO.out.later hg⟩) ?_ ?_
      · refine ⟨?_, ?_, ?_, ?_, ?_, ?_, ?_, trivial⟩
        · refine stepC_plain rfl (by decide) ?_
          intro a' w' hC hs hd
          have e3 : a'.eval (.tmp 3) = .pointer (some ⟨P + 1, 0, none⟩) := hs.rest 3 rfl
          have ec : ∀ v, a'.eval (.const v) = v := fun _ => rfl
          have ef : ∀ g, a'.eval (.func g) = .func (.func g) #[] #[] := fun _ => rfl
          clear hd hs
          refine wpv (v := .pointer (some ⟨P + 1, 0, none⟩)) (w' := w') ?_ ⟨_, rfl, rfl, rfl⟩
          (generalize a'.eval = ev at ec ef e3 ⊢; simp [execOp, go_sem, *])
        · refine stepC_plain rfl (by decide) ?_
          intro a' w' hC hs hd
          have e10 : a'.eval (.tmp 10) = .pointer (some ⟨P + 1, 0, none⟩) := hd ⟨0, Ground.data⟩ (by simp) rfl
          have ec : ∀ v, a'.eval (.const v) = v := fun _ => rfl
          have ef : ∀ g, a'.eval (.func g) = .func (.func g) #[] #[] := fun _ => rfl
          obtain ⟨x0, x1⟩ : BoxG w' (P + 1) ⟨s, k, c, none, 0, 0, [], []⟩ := by obtain ⟨p, u, h⟩ := hC; match p with | 0 => exact h.1.x3 | 1 => exact h.1.x3 | 2 => exact h.1.x3 | p + 3 => exact h.1.x3
          clear hd hs
          refine wpv (v := .slice s k c) (w' := w') ?_ ⟨_, rfl, rfl, rfl⟩
          (generalize a'.eval = ev at ec ef e10 ⊢; simp [execOp, go_sem, *])
        · refine stepC_plain rfl (by decide) ?_
          intro a' w' hC hs hd
          have e0 : a'.eval (.tmp 0) = .pointer (some ⟨b, 0, none⟩) := hs.rest 0 rfl
          have ec : ∀ v, a'.eval (.const v) = v := fun _ => rfl
          have ef : ∀ g, a'.eval (.func g) = .func (.func g) #[] #[] := fun _ => rfl
          clear hd hs
          refine wpv (v := .pointer (some ⟨b, 0, none⟩)) (w' := w') ?_ ⟨_, rfl, rfl, rfl⟩
          (generalize a'.eval = ev at ec ef e0 ⊢; simp [execOp, go_sem, *])
        · refine stepC_turn (q := 0) rfl rfl ?_
          intro a' w' u hC hs hd hu
          have e12 : a'.eval (.tmp 12) = .pointer (some ⟨b, 0, none⟩) := hd ⟨2, Ground.data⟩ (by simp) rfl
          have ec : ∀ v, a'.eval (.const v) = v := fun _ => rfl
          have ef : ∀ g, a'.eval (.func g) = .func (.func g) #[] #[] := fun _ => rfl
          clear hd hs hu
          refine wpc ?_ ((rdnode_any W w' b _ _ hC.1.r HX.out).mono ?_)
          · (generalize a'.eval = ev at ec ef e12 ⊢; simp [execOp, go_sem, *])
          rintro e w2 ⟨he, hR2, hT2⟩
          exact ⟨_, he, _, rfl, rfl, hC.1.turn (Rd.step (by omega) hR2) hT2, hC.2.turn' hT2 (by decide)⟩
        · refine stepC_turn (q := 1) rfl rfl ?_
          intro a' w' u hC hs hd hu
          have e13 : a'.eval (.tmp 13) = .agg #[.int .i64 x.k, .int .i64 x.a, .int .i64 x.b, .int .i64 x.d] := hd ⟨3, Ground.data⟩ (by simp) rfl
          have ec : ∀ v, a'.eval (.const v) = v := fun _ => rfl
          have ef : ∀ g, a'.eval (.func g) = .func (.func g) #[] #[] := fun _ => rfl
          clear hd hs hu
          refine wpv (v := .slice (some ⟨w'.heap.size, 0, none⟩) 1 1) (w' := w'.alloc (.cells #[.int .i64 x.k, .int .i64 x.a, .int .i64 x.b, .int .i64 x.d] 37)) ?_ ⟨_, rfl, trivial, hC.1.later (Grow.alloc' _ _), hC.2.later (Grow.alloc' _ _), w'.heap.size, rfl, isNds_one w' x⟩
          (generalize a'.eval = ev at ec ef e13 ⊢; simp [execOp, go_sem, *])
        · refine stepC_turn (q := 2) rfl rfl ?_
          intro a' w' u hC hs hd hu
          have e11 : a'.eval (.tmp 11) = .slice s k c := hd ⟨1, Ground.data⟩ (by simp) rfl
          have e14 : a'.eval (.tmp 14) = u := (hu 1 4 rfl rfl).symm
          have ec : ∀ v, a'.eval (.const v) = v := fun _ => rfl
          have ef : ∀ g, a'.eval (.func g) = .func (.func g) #[] #[] := fun _ => rfl
          clear hd hs hu
          obtain ⟨g, rfl, hI⟩ := hC.2.2
          obtain ⟨s2, c2, w2, hrun, hown, hgb⟩ := run_ap_nd w' 24 P s k c (ndsAt d1 0 k) [x] hC.2.1 _ 1 1 hI (by omega) (by have := hC.1.t.size; have := HP.out; omega)
          refine wpv (v := .slice s2 (k + 1) c2) (w' := w2) ?_ ⟨_, rfl, trivial, hC.1.off hgb (by have := HP.out; have := HWw.out; omega) (by have := HP.out; have := HBW.out; omega) (by rw [← HP.out]; exact hC.2.1.rim hC.1.b2 hC.1.b3), s2, c2, rfl, hown⟩
          unfold execOp; simp only [resolve, invoke, builtin, Sem.run_bind, Sem.run_pure, Result.andThen_ok, List.map_toArray, List.map_cons, List.map_nil, e11, e14, hrun]
        · refine stepC_plain rfl (by decide) ?_
          intro a' w' hC hs hd
          have e3 : a'.eval (.tmp 3) = .pointer (some ⟨P + 1, 0, none⟩) := hs.rest 3 rfl
          have ec : ∀ v, a'.eval (.const v) = v := fun _ => rfl
          have ef : ∀ g, a'.eval (.func g) = .func (.func g) #[] #[] := fun _ => rfl
          clear hd hs
          refine wpv (v := .pointer (some ⟨P + 1, 0, none⟩)) (w' := w') ?_ ⟨_, rfl, rfl, rfl⟩
          (generalize a'.eval = ev at ec ef e3 ⊢; simp [execOp, go_sem, *])
      · intro a' w' u hC hs hd hu
        have e16 : a'.eval (.tmp 16) = .pointer (some ⟨P + 1, 0, none⟩) := hd 6 (by omega)
        have e15 : a'.eval (.tmp 15) = u := (hu 5 rfl).symm
        have ec : ∀ v, a'.eval (.const v) = v := fun _ => rfl
        have ef : ∀ g, a'.eval (.func g) = .func (.func g) #[] #[] := fun _ => rfl
        obtain ⟨hS, s2, c2, rfl, hown⟩ := hC
        refine wp_rowN _ _ rfl (P + 1) ⟨s, k, c, none, 0, 0, [], []⟩ s2 (k + 1) c2 e16 e15 hS.b3 hS.x3 ?_
        intro w2 hb2 hbb2 hg2
        have HG2 := hide (hS.set hg2 hb2 hbb2 (by have := HP.out; have := HWw.out; omega) (by have := HP.out; have := HBW.out; omega) (by have := HP.out; omega) (by omega))
        have HO2 := hide (hown.set hS.b3 hg2)
        clear hS hown hb2 hbb2 hg2 e15 e16 ec ef HG HO
        rw [frame_eq hs [false, false, false, false, false, false, false, false, false, false, true, true, true, true, true, true, true, false, false, false, false, false, false, false, false, false, false, false, false, false, false, false, false] (by kernel_rfl)]; simp only [mergeL]; clear hs hd hu; generalize a'.tmps = TT at *; try go_frame
        go_wp2_with fail
        go_roundw
        case rel => exact ⟨k + 1, s2, c2, by omega, by go_num, HG2.out, by rw [ndsAt_succ, ← nd_drop d1 (0 + 6 * k), Nat.zero_add, HX.out]; exact HO2.out⟩
        case measure => simp [intOf]; omega
    · have hi2 : ¬ (k : Int) < (n : Int) := by omega
      have hkn : k = n := by omega
      rw [hkn] at HG HO
      obtain ⟨d2, hd2⟩ : ∃ d2, d2 = d1.drop (6 * n) := ⟨_, rfl⟩
      obtain ⟨sh2, hsh2⟩ : ∃ s, s = (sh1 || decide (d1.length < 6 * n)) := ⟨_, rfl⟩
      obtain ⟨NN, hNN⟩ : ∃ N, N = ndsAt d1 0 n := ⟨_, rfl⟩
      rw [← hd2, ← hsh2] at HG
      rw [← hNN] at HO
      have hm' : (atB d2 0).toNat = m := by
        rw [hd2, HD1.out, List.drop_drop, atB_drop, Nat.add_zero]
        exact HMm.out.symm
      have HM' := hide hm'
      have HD2 := hide hd2
      have HS2 := hide hsh2
      have HNN := hide hNN
      clear hd2 hsh2 hNN hm' hkn hlt hn5 HG1
      obtain ⟨d3, hd3⟩ : ∃ d3, d3 = d2.drop 1 := ⟨_, rfl⟩
      obtain ⟨sh3, hsh3⟩ : ∃ s, s = (sh2 || decide (d2.length < 1)) := ⟨_, rfl⟩
      have HD3 := hide hd3
      have HS3 := hide hsh3
      clear hd3 hsh3
      go_wp2_with fail
      refine (rsmall_any W wi b d2 sh2 HG.out.r).mono ?_
      rintro _ w3 ⟨rfl, hR3, hT3⟩
      have HG3 : Hid (Gw W w b P (P + 1) d3 sh3 ⟨s, n, c, none, 0, 0, [], []⟩ w3) := hide (by rw [HD3.out, HS3.out]; exact HG.out.turn hR3 hT3)
      have HO3 := hide (HO.out.turn' hT3 (by decide))
      rw [HM'.out]
      clear hR3 hT3 HG HO
      go_wp2_with fail
      go_loopw [22] (fun i wr => ∃ (j : Nat) (t : Option Addr) (q : Nat), j ≤ m ∧ i = .int .i64 (j : Int) ∧ Gw W w b P (P + 1) (d3.drop (3 * j)) (sh3 || decide (d3.length < 3 * j)) ⟨s, n, c, t, j, q, [], []⟩ wr ∧ OwnN wr P s n c NN ∧ OwnE wr P t j q (edsAt d3 0 j)) (fun i _ => m - (intOf i).toNat)
      case atStart => exact ⟨0, none, 0, Nat.zero_le _, rfl, by simpa using HG3.out, HO3.out, OwnE.nil _ _⟩
      case round =>
        obtain ⟨j, t, q, hj, rfl, hG, hO, hE⟩ := hrel
        generalize wr = wj at *
        have HG := hide hG
        have HO := hide hO
        have HE := hide hE
        have hm5 := HM5.out
        clear hG hO hE
        by_cases hlt : j < m
        · have hi3 : (j : Int) < (m : Int) := by omega
          obtain ⟨x, hx⟩ : ∃ x, edAt (d3.drop (3 * j)) 0 = x := ⟨_, rfl⟩
          have HX := hide hx
          clear hx
          go_wp2_with fail
          let FF : Nat → Value → Prop := fun i vF => match i with | 0 => vF = .pointer (some ⟨P + 1, 1, none⟩) | 1 => vF = .slice t j q | 2 => vF = .pointer (some ⟨b, 0, none⟩) | 3 => vF = .agg #[.int .i64 x.f, .int .i64 x.t, .int .i64 x.p] | 4 => True | 5 => True | 6 => vF = .pointer (some ⟨P + 1, 1, none⟩) | _ => True
          let CC : Nat → Value → World → Prop := fun p u w' => match p with | 0 => (Gw W w b P (P + 1) (d3.drop (3 * j)) (sh3 || decide (d3.length < 3 * j)) ⟨s, n, c, t, j, q, [], []⟩ w' ∧ OwnN w' P s n c NN) ∧ OwnE w' P t j q (edsAt d3 0 j) | 1 => (Gw W w b P (P + 1) (d3.drop (3 * j + 3)) (sh3 || decide (d3.length < 3 * j + 3)) ⟨s, n, c, t, j, q, [], []⟩ w' ∧ OwnN w' P s n c NN) ∧ OwnE w' P t j q (edsAt d3 0 j) | 2 => (Gw W w b P (P + 1) (d3.drop (3 * j + 3)) (sh3 || decide (d3.length < 3 * j + 3)) ⟨s, n, c, t, j, q, [], []⟩ w' ∧ OwnN w' P s n c NN) ∧ OwnE w' P t j q (edsAt d3 0 j) ∧ ∃ g, u = .slice (some ⟨g, 0, none⟩) 1 1 ∧ IsEds w' (some ⟨g, 0, none⟩) 1 1 [x] | _ => (Gw W w b P (P + 1) (d3.drop (3 * j + 3)) (sh3 || decide (d3.length < 3 * j + 3)) ⟨s, n, c, t, j, q, [], []⟩ w' ∧ OwnN w' P s n c NN) ∧ ∃ s2 c2, u = .slice s2 (j + 1) c2 ∧ OwnE w' P s2 (j + 1) c2 (edsAt d3 0 j ++ [x])
          refine wp_region_endC FF CC [3, 4, 5] 7 _ rfl rfl rfl (by kernel_rfl) (by kernel_rfl) (by kernel_rfl) (fun w' hg _ => ⟨⟨HG.out.later hg, HO.out.later hg⟩, HE.out.later hg⟩) ?_ ?_
          · refine ⟨?_, ?_, ?_, ?_, ?_, ?_, ?_, trivial⟩
            · refine stepC_plain rfl (by decide) ?_
              intro a' w' hC hs hd
              have e3 : a'.eval (.tmp 3) = .pointer (some ⟨P + 1, 0, none⟩) := hs.rest 3 rfl
              have ec : ∀ v, a'.eval (.const v) = v := fun _ => rfl
              have ef : ∀ g, a'.eval (.func g) = .func (.func g) #[] #[] := fun _ => rfl
              clear hd hs
              refine wpv (v := .pointer (some ⟨P + 1, 1, none⟩)) (w' := w') ?_ ⟨_, rfl, rfl, rfl⟩
              (generalize a'.eval = ev at ec ef e3 ⊢; simp [execOp, go_sem, *])
            · refine stepC_plain rfl (by decide) ?_
              intro a' w' hC hs hd
              have e24 : a'.eval (.tmp 24) = .pointer (some ⟨P + 1, 1, none⟩) := hd ⟨0, Ground.data⟩ (by simp) rfl
              have ec : ∀ v, a'.eval (.const v) = v := fun _ => rfl
              have ef : ∀ g, a'.eval (.func g) = .func (.func g) #[] #[] := fun _ => rfl
              obtain ⟨x0, x1⟩ : BoxG w' (P + 1) ⟨s, n, c, t, j, q, [], []⟩ := by obtain ⟨p, u, h⟩ := hC; match p with | 0 => exact h.1.1.x3 | 1 => exact h.1.1.x3 | 2 => exact h.1.1.x3 | p + 3 => exact h.1.1.x3
              clear hd hs
              refine wpv (v := .slice t j q) (w' := w') ?_ ⟨_, rfl, rfl, rfl⟩
              (generalize a'.eval = ev at ec ef e24 ⊢; simp [execOp, go_sem, *])
            · refine stepC_plain rfl (by decide) ?_
              intro a' w' hC hs hd
              have e0 : a'.eval (.tmp 0) = .pointer (some ⟨b, 0, none⟩) := hs.rest 0 rfl
              have ec : ∀ v, a'.eval (.const v) = v := fun _ => rfl
              have ef : ∀ g, a'.eval (.func g) = .func (.func g) #[] #[] := fun _ => rfl
              clear hd hs
              refine wpv (v := .pointer (some ⟨b, 0, none⟩)) (w' := w') ?_ ⟨_, rfl, rfl, rfl⟩
              (generalize a'.eval = ev at ec ef e0 ⊢; simp [execOp, go_sem, *])
            · refine stepC_turn (q := 0) rfl rfl ?_
              intro a' w' u hC hs hd hu
              have e26 : a'.eval (.tmp 26) = .pointer (some ⟨b, 0, none⟩) := hd ⟨2, Ground.data⟩ (by simp) rfl
              have ec : ∀ v, a'.eval (.const v) = v := fun _ => rfl
              have ef : ∀ g, a'.eval (.func g) = .func (.func g) #[] #[] := fun _ => rfl
              clear hd hs hu
              refine wpc ?_ ((rdedge_any W w' b _ _ hC.1.1.r HX.out).mono ?_)
              · (generalize a'.eval = ev at ec ef e26 ⊢; simp [execOp, go_sem, *])
              rintro e w2 ⟨he, hR2, hT2⟩
              exact ⟨_, he, _, rfl, rfl, ⟨hC.1.1.turn (Rd.step (by omega) hR2) hT2, hC.1.2.turn' hT2 (by decide)⟩, hC.2.turn' hT2 (by decide)⟩
            · refine stepC_turn (q := 1) rfl rfl ?_
              intro a' w' u hC hs hd hu
              have e27 : a'.eval (.tmp 27) = .agg #[.int .i64 x.f, .int .i64 x.t, .int .i64 x.p] := hd ⟨3, Ground.data⟩ (by simp) rfl
              have ec : ∀ v, a'.eval (.const v) = v := fun _ => rfl
              have ef : ∀ g, a'.eval (.func g) = .func (.func g) #[] #[] := fun _ => rfl
              clear hd hs hu
              refine wpv (v := .slice (some ⟨w'.heap.size, 0, none⟩) 1 1) (w' := w'.alloc (.cells #[.int .i64 x.f, .int .i64 x.t, .int .i64 x.p] 39)) ?_ ⟨_, rfl, trivial, ⟨hC.1.1.later (Grow.alloc' _ _), hC.1.2.later (Grow.alloc' _ _)⟩, hC.2.later (Grow.alloc' _ _), w'.heap.size, rfl, isEds_one w' x⟩
              (generalize a'.eval = ev at ec ef e27 ⊢; simp [execOp, go_sem, *])
            · refine stepC_turn (q := 2) rfl rfl ?_
              intro a' w' u hC hs hd hu
              have e25 : a'.eval (.tmp 25) = .slice t j q := hd ⟨1, Ground.data⟩ (by simp) rfl
              have e28 : a'.eval (.tmp 28) = u := (hu 1 4 rfl rfl).symm
              have ec : ∀ v, a'.eval (.const v) = v := fun _ => rfl
              have ef : ∀ g, a'.eval (.func g) = .func (.func g) #[] #[] := fun _ => rfl
              clear hd hs hu
              obtain ⟨g, rfl, hI⟩ := hC.2.2
              obtain ⟨s2, c2, w2, hrun, hown, hgb⟩ := run_ap_ed w' 25 P t j q (edsAt d3 0 j) [x] hC.2.1 _ 1 1 hI (by omega) (by have := hC.1.1.t.size; have := HP.out; omega)
              refine wpv (v := .slice s2 (j + 1) c2) (w' := w2) ?_ ⟨_, rfl, trivial, ⟨hC.1.1.off hgb (by have := HP.out; have := HWw.out; omega) (by have := HP.out; have := HBW.out; omega) (by rw [← HP.out]; exact hC.2.1.rim hC.1.1.b2 hC.1.1.b3), hC.1.2.else hC.2.1 hgb⟩, s2, c2, rfl, hown⟩
              unfold execOp; simp only [resolve, invoke, builtin, Sem.run_bind, Sem.run_pure, Result.andThen_ok, List.map_toArray, List.map_cons, List.map_nil, e25, e28, hrun]
            · refine stepC_plain rfl (by decide) ?_
              intro a' w' hC hs hd
              have e3 : a'.eval (.tmp 3) = .pointer (some ⟨P + 1, 0, none⟩) := hs.rest 3 rfl
              have ec : ∀ v, a'.eval (.const v) = v := fun _ => rfl
              have ef : ∀ g, a'.eval (.func g) = .func (.func g) #[] #[] := fun _ => rfl
              clear hd hs
              refine wpv (v := .pointer (some ⟨P + 1, 1, none⟩)) (w' := w') ?_ ⟨_, rfl, rfl, rfl⟩
              (generalize a'.eval = ev at ec ef e3 ⊢; simp [execOp, go_sem, *])
          · intro a' w' u hC hs hd hu
            have e30 : a'.eval (.tmp 30) = .pointer (some ⟨P + 1, 1, none⟩) := hd 6 (by omega)
            have e29 : a'.eval (.tmp 29) = u := (hu 5 rfl).symm
            have ec : ∀ v, a'.eval (.const v) = v := fun _ => rfl
            have ef : ∀ g, a'.eval (.func g) = .func (.func g) #[] #[] := fun _ => rfl
            obtain ⟨⟨hS, hNO⟩, s2, c2, rfl, hown⟩ := hC
            refine wp_rowE _ _ rfl (P + 1) ⟨s, n, c, t, j, q, [], []⟩ s2 (j + 1) c2 e30 e29 hS.b3 hS.x3 ?_
            intro w2 hb2 hbb2 hg2
            have HG2 := hide (hS.set hg2 hb2 hbb2 (by have := HP.out; have := HWw.out; omega) (by have := HP.out; have := HBW.out; omega) (by have := HP.out; omega) (by omega))
            have HO2 := hide (hNO.set hS.b3 hg2)
            have HE2 := hide (hown.set hS.b3 hg2)
            clear hS hNO hown hb2 hbb2 hg2 e29 e30 ec ef HG HO HE
            rw [frame_eq hs [false, false, false, false, false, false, false, false, false, false, false, false, false, false, false, false, false, false, false, false, false, false, false, false, true, true, true, true, true, true, true, false, false] (by kernel_rfl)]; simp only [mergeL]; clear hs hd hu; generalize a'.tmps = TT at *; try go_frame
            go_wp2_with fail
            go_roundw
            case rel => exact ⟨j + 1, s2, c2, by omega, by go_num, HG2.out, HO2.out, by rw [edsAt_succ, ← ed_drop d3 (0 + 3 * j), Nat.zero_add, HX.out]; exact HE2.out⟩
            case measure => simp [intOf]; omega
        · have hi3 : ¬ (j : Int) < (m : Int) := by omega
          have hjm : j = m := by omega
          rw [hjm] at HG HE
          obtain ⟨x0, x1⟩ := HG.out.x3
          dsimp only at x0 x1
          rw [← hjm] at x1
          have HJ := hide hjm
          clear hlt hm5 hjm
          go_wp2_with (refine wpList_putG2 rfl _ _ rfl P ⟨s, n, c, t, j, q, [], []⟩ rfl rfl HG.out.b2 W HG.out.r.g HWw.out ?_)
          intro w5 hg5 hb5 hbb5 hk5 hz5
          have hby : wj.grownBy w5 (some P) := ⟨hg5.os.trans HG.out.r.g.os.symm, hg5.tape.trans HG.out.r.g.tape.symm, hg5.output.trans HG.out.r.g.output.symm, by omega, fun k _ hk => hk5 k (fun e => hk (by rw [e]))⟩
          have e3 : d3 = d.drop (2 + 6 * n) := by
            rw [HD3.out, HD2.out, HD1.out, List.drop_drop, List.drop_drop]
            congr 1
            omega
          have HR5 : Hid (Rd W w5 b (d.drop (2 + 6 * n + 3 * m)) (sh || decide (d.length < 2 + 6 * n + 3 * m))) := hide (by
            have h1 := HG.out.r.same hg5 (hk5 b (by have := HBW.out; have := HP.out; omega))
            have e1 : d3.drop (3 * m) = d.drop (2 + 6 * n + 3 * m) := by rw [e3, List.drop_drop]
            have e2 : (sh3 || decide (d3.length < 3 * m)) = (sh || decide (d.length < 2 + 6 * n + 3 * m)) := by
              have l1 : d1.length = d.length - 1 := by rw [HD1.out, List.length_drop]
              have l2 : d2.length = d.length - 1 - 6 * n := by rw [HD2.out, List.length_drop, l1]
              have l3 : d3.length = d.length - 1 - 6 * n - 1 := by rw [HD3.out, List.length_drop, l2]
              rw [HS3.out, HS2.out, HS1.out, l1, l2, l3, Bool.or_assoc, Bool.or_assoc, Bool.or_assoc]
              congr 1
              by_cases a1 : d.length < 1 <;> by_cases a2 : d.length - 1 < 6 * n <;> by_cases a3 : d.length - 1 - 6 * n < 1 <;> by_cases a4 : d.length - 1 - 6 * n - 1 < 3 * m <;> by_cases a5 : d.length < 2 + 6 * n + 3 * m <;> simp [a1, a2, a3, a4, a5] <;> omega
            rw [e1, e2] at h1
            exact h1)
          have HT5 := hide (HG.out.t.by' hby fun k e => by cases e; exact Nat.le_of_eq HP.out.symm)
          have HN5' : Hid (OwnN w5 P s n c (ndsAt d 1 n)) := hide (by
            have h1 := (HO.out.set HG.out.b2 hby)
            rw [HNN.out, HD1.out, nds_drop] at h1
            exact h1)
          have HE5' : Hid (OwnE w5 P t m q (edsAt d (2 + 6 * n) m)) := hide (by
            have h1 := (HE.out.set HG.out.b2 hby)
            rw [e3, eds_drop] at h1
            exact h1)
          have HB5 : Hid (BoxG w5 P ⟨s, n, c, t, m, q, [], []⟩) := hide (by have := hb5; rw [HJ.out] at this; exact this)
          clear hg5 hb5 hbb5 hk5 hz5 hby e3 x0 x1
          go_wp2_with fail
          exact bodyPost_ret (resultsG (fn := Tryz.f14) (i := 2) rfl _ _ (b := P) (g := ⟨s, n, c, t, m, q, [], []⟩) rfl HB5.out) rfl ⟨s, c, t, q, rfl, by rw [← HP.out]; exact HN5'.out, by rw [← HP.out]; exact HE5'.out, HR5.out, HT5.out⟩
end Go.Proofs.YtjebipagehhkjaaGreat
