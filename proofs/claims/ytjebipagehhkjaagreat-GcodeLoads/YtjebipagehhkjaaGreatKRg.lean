/-
  What gcode's reader makes of all its bytes: a graph, whose rows are the call's own; what was there stays as it was, but for the reader.
-/
import Derived.Test.YtjebipagehhkjaaGreatKRn
namespace Go.Proofs.YtjebipagehhkjaaGreat
set_option maxRecDepth 100000
open Go.ChangeShapes Go.WideShapes Go.ChangeAt Go.RowKit Go.Deep Go.Sort
set_option linter.unusedVariables false
set_option linter.unusedSimpArgs false

/-- A row stored into a graph of the call's own, the last operation of a region. -/
theorem wp_rowN {o : Oper} {a : Act} {w : World} {K : Act → World → Prop} {Q : Exit → Act → World → Prop} (x y : Operand) (ho : o.op = .store 24 x y) (b : Nat) (g : GA) (s : Option Addr) (n c : Nat)
    (hx : a.eval x = .pointer (some ⟨b, 0, none⟩)) (hy : a.eval y = .slice s n c) (hb : BlkG w b) (hG : BoxG w b g)
    (h : ∀ w2, BoxG w2 b ⟨s, n, c, g.t, g.m, g.q, [], []⟩ → BlkG w2 b → w.grownBy w2 (some b) → K (a.put o.dst undef) w2) : o.wp Tryz.prog a w K Q := by
  have hf := hb.frozen 0
  have hl := hb.lt
  obtain ⟨h0, h1⟩ := hG
  have hK : BoxG (w.setCell ⟨b, 0, none⟩ (.slice s n c)) b ⟨s, n, c, g.t, g.m, g.q, [], []⟩ := by
    constructor <;> simp [go_sem, h0, h1]
  have hB : BlkG (w.setCell ⟨b, 0, none⟩ (.slice s n c)) b := by
    obtain ⟨cs, hc, hs⟩ := hb
    exact ⟨_, heap_setCell_same w b 0 cs _ _ hc, by simpa using hs⟩
  have hO : w.grownBy (w.setCell ⟨b, 0, none⟩ (.slice s n c)) (some b) := ⟨rfl, rfl, rfl, by simp, fun k _ hk => heap_setCell_other w ⟨b, 0, none⟩ k _ (fun e => hk (by simp [e]))⟩
  have hk2 := h _ hK hB hO
  clear h hK hB hO
  unfold Oper.wp
  simp only [execOp, ho]
  generalize a.eval = ev at hx hy ⊢
  simp [hx, hy, go_sem, h0, hf, Result.andThen]
  exact hk2
/-- A row stored into a graph of the call's own, the last operation of a region. -/
theorem wp_rowE {o : Oper} {a : Act} {w : World} {K : Act → World → Prop} {Q : Exit → Act → World → Prop} (x y : Operand) (ho : o.op = .store 25 x y) (b : Nat) (g : GA) (s : Option Addr) (n c : Nat)
    (hx : a.eval x = .pointer (some ⟨b, 1, none⟩)) (hy : a.eval y = .slice s n c) (hb : BlkG w b) (hG : BoxG w b g)
    (h : ∀ w2, BoxG w2 b ⟨g.s, g.n, g.c, s, n, c, [], []⟩ → BlkG w2 b → w.grownBy w2 (some b) → K (a.put o.dst undef) w2) : o.wp Tryz.prog a w K Q := by
  have hf := hb.frozen 1
  have hl := hb.lt
  obtain ⟨h0, h1⟩ := hG
  have hK : BoxG (w.setCell ⟨b, 1, none⟩ (.slice s n c)) b ⟨g.s, g.n, g.c, s, n, c, [], []⟩ := by
    constructor <;> simp [go_sem, h0, h1]
  have hB : BlkG (w.setCell ⟨b, 1, none⟩ (.slice s n c)) b := by
    obtain ⟨cs, hc, hs⟩ := hb
    exact ⟨_, heap_setCell_same w b 1 cs _ _ hc, by simpa using hs⟩
  have hO : w.grownBy (w.setCell ⟨b, 1, none⟩ (.slice s n c)) (some b) := ⟨rfl, rfl, rfl, by simp, fun k _ hk => heap_setCell_other w ⟨b, 1, none⟩ k _ (fun e => hk (by simp [e]))⟩
  have hk2 := h _ hK hB hO
  clear h hK hB hO
  unfold Oper.wp
  simp only [execOp, ho]
  generalize a.eval = ev at hx hy ⊢
  simp [hx, hy, go_sem, h1, hf, Result.andThen]
  exact hk2
theorem Turn.by' {X : TypeId → Bool} {w w1 w2 : World} {r : Option Nat} (h : Turn X w w1) (hg : w1.grownBy w2 r) (hR : ∀ k, r = some k → w.heap.size ≤ k) : Turn X w w2 :=
  ⟨Nat.le_trans h.size hg.size, fun k hk => by
    have e := hg.block k (Nat.lt_of_lt_of_le hk h.size) (fun e => by have := hR k e.symm; omega)
    rcases h.block k hk with h1 | h1
    · exact .inl (e.trans h1)
    · exact .inr h1⟩
theorem nd_drop (d : List UInt8) (i : Nat) : ndAt (d.drop i) 0 = ndAt d i := by simp only [ndAt, atB_drop, Nat.zero_add, Nat.add_zero]
theorem ed_drop (d : List UInt8) (i : Nat) : edAt (d.drop i) 0 = edAt d i := by simp only [edAt, atB_drop, Nat.zero_add, Nat.add_zero]
theorem nds_drop (d : List UInt8) (i n : Nat) : ndsAt (d.drop i) 0 n = ndsAt d i n := by
  unfold ndsAt
  refine List.map_congr_left fun k _ => ?_
  rw [← nd_drop, ← nd_drop d, List.drop_drop]
  simp
theorem eds_drop (d : List UInt8) (i n : Nat) : edsAt (d.drop i) 0 n = edsAt d i n := by
  unfold edsAt
  refine List.map_congr_left fun k _ => ?_
  rw [← ed_drop, ← ed_drop d, List.drop_drop]
  simp
theorem flag_drop (sh : Bool) (d : List UInt8) (k j : Nat) (hj : 0 < j) : ((sh || decide (d.length < k)) || decide ((d.drop k).length < j)) = (sh || decide (d.length < k + j)) := by
  rw [List.length_drop, Bool.or_assoc]
  congr 1
  by_cases h1 : d.length < k <;> by_cases h2 : d.length - k < j <;> by_cases h3 : d.length < k + j <;> simp [h1, h2, h3] <;> omega
theorem Rd.step {W w : World} {b : Nat} {d : List UInt8} {sh : Bool} {k j : Nat} (hj : 0 < j) (h : Rd W w b ((d.drop k).drop j) ((sh || decide (d.length < k)) || decide ((d.drop k).length < j))) : Rd W w b (d.drop (k + j)) (sh || decide (d.length < k + j)) := by
  rw [flag_drop sh d k j hj, List.drop_drop] at h
  exact h
/-- A graph under way, read by a reader. -/
structure Gw (W w : World) (b R2 R3 : Nat) (d : List UInt8) (sh : Bool) (g : GA) (w' : World) : Prop where
  r : Rd W w' b d sh
  b2 : BlkG w' R2
  b3 : BlkG w' R3
  x3 : BoxG w' R3 g
  t : Turn XR w w'
section
variable {W w w' w2 : World} {b R2 R3 : Nat} {d d' : List UInt8} {sh sh' : Bool} {g g' : GA}
theorem Gw.later (h : Gw W w b R2 R3 d sh g w') (hg : Grow w' w2) : Gw W w b R2 R3 d sh g w2 := ⟨h.r.later hg, h.b2.later hg, h.b3.later hg, h.x3.later hg, h.t.trans (Turn.of_grow hg)⟩
theorem Gw.turn (h : Gw W w b R2 R3 d sh g w') (hR : Rd W w2 b d' sh') (hT : Turn XR w' w2) : Gw W w b R2 R3 d' sh' g w2 := ⟨hR, h.b2.turn hT (by decide), h.b3.turn hT (by decide), BoxG.turn hT (by decide) h.b3 h.x3, h.t.trans hT⟩
/-- One block of the call's own, which is none of these, has turned. -/
theorem Gw.off (h : Gw W w b R2 R3 d sh g w') {r : Option Nat} (hg : w'.grownBy w2 r) (hw : W.heap.size ≤ w.heap.size) (hb : b < w.heap.size) (h1 : ∀ k, r = some k → w.heap.size ≤ k ∧ k ≠ R2 ∧ k ≠ R3) : Gw W w b R2 R3 d sh g w2 := by
  have k2 : w2.heap[R2]? = w'.heap[R2]? := hg.block _ h.b2.lt fun e => (h1 R2 e.symm).2.1 rfl
  have k3 : w2.heap[R3]? = w'.heap[R3]? := hg.block _ h.b3.lt fun e => (h1 R3 e.symm).2.2 rfl
  exact ⟨h.r.same (Below.grown h.r.g hg h.r.g.size fun k e => Nat.le_trans hw (h1 k e).1) (hg.block _ h.r.at_ne fun e => by have := (h1 b e.symm).1; omega), h.b2.keep k2, h.b3.keep k3, h.x3.keep k3, h.t.by' hg fun k e => (h1 k e).1⟩
/-- The graph's own block has turned. -/
theorem Gw.set (h : Gw W w b R2 R3 d sh g w') (hg : w'.grownBy w2 (some R3)) (hx : BoxG w2 R3 g') (hB : BlkG w2 R3) (hw : W.heap.size ≤ w.heap.size) (hb : b < w.heap.size) (h3 : w.heap.size ≤ R3) (h2 : R2 ≠ R3) : Gw W w b R2 R3 d sh g' w2 := by
  have k2 : w2.heap[R2]? = w'.heap[R2]? := hg.block _ h.b2.lt fun e => h2 (Option.some.inj e)
  exact ⟨h.r.same (Below.grown h.r.g hg h.r.g.size fun k e => by cases e; omega) (hg.block _ h.r.at_ne fun e => by have := Option.some.inj e; omega), h.b2.keep k2, hB, hx, h.t.by' hg fun k e => by cases e; exact h3⟩
end
theorem OwnN.set {w w2 : World} {base n c R : Nat} {s : Option Addr} {d : List Nd} (h : OwnN w base s n c d) (hB : BlkG w R) (hg : w.grownBy w2 (some R)) : OwnN w2 base s n c d :=
  h.keep fun a ha => hg.block _ (h.lt a ha).1 fun e => h.neG hB a ha (Option.some.inj e)
theorem OwnN.else {w w2 : World} {base n c base' n' c' : Nat} {s s' : Option Addr} {d : List Nd} {d' : List Ed} (h : OwnN w base s n c d) (h' : OwnE w base' s' n' c' d') (hg : w.grownBy w2 (s'.map (·.block))) : OwnN w2 base s n c d :=
  h.keep fun a ha => hg.block _ (h.lt a ha).1 fun e => by
    cases s' with
    | none => simp at e
    | some a' =>
      obtain ⟨cs, h1⟩ := h.block a ha
      obtain ⟨cs', h2⟩ := h'.block a' rfl
      simp at e
      rw [← e, h1] at h2
      simp only [Option.some.injEq, Obj.cells.injEq] at h2
      exact absurd h2.2.1 (by decide)
theorem OwnN.rim {w : World} {base n c R2 R3 : Nat} {s : Option Addr} {d : List Nd} (h : OwnN w base s n c d) (h2 : BlkG w R2) (h3 : BlkG w R3) : ∀ k, s.map (·.block) = some k → base ≤ k ∧ k ≠ R2 ∧ k ≠ R3 := by
  intro k hk
  cases s with
  | none => cases hk
  | some a =>
    cases hk
    exact ⟨(h.lt a rfl).2, h.neG h2 a rfl, h.neG h3 a rfl⟩
theorem OwnE.set {w w2 : World} {base n c R : Nat} {s : Option Addr} {d : List Ed} (h : OwnE w base s n c d) (hB : BlkG w R) (hg : w.grownBy w2 (some R)) : OwnE w2 base s n c d :=
  h.keep fun a ha => hg.block _ (h.lt a ha).1 fun e => h.neG hB a ha (Option.some.inj e)
theorem OwnE.else {w w2 : World} {base n c base' n' c' : Nat} {s s' : Option Addr} {d : List Ed} {d' : List Nd} (h : OwnE w base s n c d) (h' : OwnN w base' s' n' c' d') (hg : w.grownBy w2 (s'.map (·.block))) : OwnE w2 base s n c d :=
  h.keep fun a ha => hg.block _ (h.lt a ha).1 fun e => by
    cases s' with
    | none => simp at e
    | some a' =>
      obtain ⟨cs, h1⟩ := h.block a ha
      obtain ⟨cs', h2⟩ := h'.block a' rfl
      simp at e
      rw [← e, h1] at h2
      simp only [Option.some.injEq, Obj.cells.injEq] at h2
      exact absurd h2.2.1 (by decide)
theorem OwnE.rim {w : World} {base n c R2 R3 : Nat} {s : Option Addr} {d : List Ed} (h : OwnE w base s n c d) (h2 : BlkG w R2) (h3 : BlkG w R3) : ∀ k, s.map (·.block) = some k → base ≤ k ∧ k ≠ R2 ∧ k ≠ R3 := by
  intro k hk
  cases s with
  | none => cases hk
  | some a =>
    cases hk
    exact ⟨(h.lt a rfl).2, h.neG h2 a rfl, h.neG h3 a rfl⟩
end Go.Proofs.YtjebipagehhkjaaGreat
