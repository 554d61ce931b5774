/-
  Heads of rows of nodes and of edges; rows stored into a graph of the call's own; rows of cells, written out.
-/
import Derived.Test.YtehianjfpmbfpaaGreatHBlk
namespace Go.Proofs.YtehianjfpmbfpaaGreat
set_option maxRecDepth 100000
open Go.RowKit Go.Sort
set_option linter.unusedVariables false
set_option linter.unusedSimpArgs false

def cutN (k n : Nat) : Nat := if k < n then k else n
theorem cutN_le (k n : Nat) : cutN k n ≤ k ∧ cutN k n ≤ n := by unfold cutN; split <;> omega
theorem IsNds.cut {w : World} {s : Option Addr} {n c : Nat} {d : List Nd} (h : IsNds w s n c d) (k : Nat) : IsNds w s (cutN k n) c (d.take k) := by
  unfold cutN
  split
  · exact h.take' k (by omega)
  · rw [List.take_of_length_le (by rw [h.1]; omega)]; exact h
theorem IsEds.cut {w : World} {s : Option Addr} {n c : Nat} {d : List Ed} (h : IsEds w s n c d) (k : Nat) : IsEds w s (cutN k n) c (d.take k) := by
  unfold cutN
  split
  · exact h.take' k (by omega)
  · rw [List.take_of_length_le (by rw [h.1]; omega)]; exact h
/-! ## A row stored into a graph of the call's own -/
theorem BlkG.lt {w : World} {b : Nat} (h : BlkG w b) : b < w.heap.size := by
  obtain ⟨cs, h, _⟩ := h
  exact (Array.getElem?_eq_some_iff.1 h).1
theorem BlkG.frozen {w : World} {b : Nat} (h : BlkG w b) (j : Nat) : w.frozen? ⟨b, j, none⟩ = false := by
  obtain ⟨cs, h, _⟩ := h
  exact frozen_of_row w b j cs _ h
/-- A whole graph stored into a block of the call's own. -/
theorem wpList_putG2 {ops : Array Oper} {rest : List Oper} {o : Oper} {a : Act} {w : World} {Q : Exit → Act → World → Prop} (hgd : o.guard = none) (x y : Operand) (ho : o.op = .store 25 x y) (b : Nat) (g : GA)
    (hx : a.eval x = .pointer (some ⟨b, 0, none⟩)) (hy : a.eval y = .agg #[.slice g.s g.n g.c, .slice g.t g.m g.q]) (hb : BlkG w b) (W : World) (hg : Grow W w) (hW : W.heap.size ≤ b) (h : ∀ w2, Grow W w2 → BoxG w2 b g → BlkG w2 b → (∀ k, k ≠ b → w2.heap[k]? = w.heap[k]?) → w2.heap.size = w.heap.size → wpList Tryz.prog ops Q rest (a.put o.dst undef) w2) : wpList Tryz.prog ops Q (o :: rest) a w := by
  have hb' := hb
  obtain ⟨cs, hb1, hs⟩ := hb
  refine wpList_store_row hgd 25 x y ho b _ hx hy _ _ hb1 (by kernel_rfl) (by rw [hs]; rfl) (by simp [Value.oneCell']) (h _ (below_setRow hg hW _) (hb'.box g) ?_ (fun k hk => setRow_other w b k _ hk) (by simp [World.setRow]))
  exact ⟨_, setRow_heap w b cs _ _ _ hb1, rfl⟩
theorem cell_of_heap {w w' : World} {k : Nat} (h : w'.heap[k]? = w.heap[k]?) (j : Nat) : w'.cell? ⟨k, j, none⟩ = w.cell? ⟨k, j, none⟩ := by
  simp only [World.cell?, h]
theorem wpList_setN {ops : Array Oper} {rest : List Oper} {o : Oper} {a : Act} {w : World} {Q : Exit → Act → World → Prop} (hgd : o.guard = none) (x y : Operand) (ho : o.op = .store 22 x y) (b : Nat) (g : GA) (s : Option Addr) (n c : Nat)
    (hx : a.eval x = .pointer (some ⟨b, 0, none⟩)) (hy : a.eval y = .slice s n c) (hb : BlkG w b) (hG : BoxG w b g) (W : World) (hg : Grow W w) (hW : W.heap.size ≤ b)
    (h : ∀ w2, Grow W w2 → BoxG w2 b ⟨s, n, c, g.t, g.m, g.q, [], []⟩ → BlkG w2 b → (∀ k, k ≠ b → w2.heap[k]? = w.heap[k]?) → w2.heap.size = w.heap.size → wpList Tryz.prog ops Q rest (a.put o.dst undef) w2) : wpList Tryz.prog ops Q (o :: rest) a w := by
  have hf := hb.frozen 0
  have hl := hb.lt
  obtain ⟨h0, h1⟩ := hG
  have hK : BoxG (w.setCell ⟨b, 0, none⟩ (.slice s n c)) b ⟨s, n, c, g.t, g.m, g.q, [], []⟩ := by
    constructor <;> simp [go_sem, h0, h1]
  have hB : BlkG (w.setCell ⟨b, 0, none⟩ (.slice s n c)) b := by
    obtain ⟨cs, hc, hs⟩ := hb
    exact ⟨_, heap_setCell_same w b 0 cs _ _ hc, by simpa using hs⟩
  have hO : ∀ k, k ≠ b → (w.setCell ⟨b, 0, none⟩ (.slice s n c)).heap[k]? = w.heap[k]? := fun k hk => heap_setCell_other w ⟨b, 0, none⟩ k _ (fun e => hk (by simp [e]))
  have hgr : Grow W (w.setCell ⟨b, 0, none⟩ (.slice s n c)) := hg.setCell hW _
  have hz : (w.setCell ⟨b, 0, none⟩ (.slice s n c)).heap.size = w.heap.size := by simp
  refine wpList_plain hgd fun K hK' => ?_
  have hk2 := hK' _ _ (h _ hgr hK hB hO hz)
  clear hK' h hK hB hO hgr hz
  unfold Oper.wp
  simp only [execOp, ho]
  generalize a.eval = ev at hx hy ⊢
  simp [hx, hy, go_sem, h0, hf, Result.andThen]
  exact hk2
theorem wpList_setE {ops : Array Oper} {rest : List Oper} {o : Oper} {a : Act} {w : World} {Q : Exit → Act → World → Prop} (hgd : o.guard = none) (x y : Operand) (ho : o.op = .store 23 x y) (b : Nat) (g : GA) (s : Option Addr) (n c : Nat)
    (hx : a.eval x = .pointer (some ⟨b, 1, none⟩)) (hy : a.eval y = .slice s n c) (hb : BlkG w b) (hG : BoxG w b g) (W : World) (hg : Grow W w) (hW : W.heap.size ≤ b)
    (h : ∀ w2, Grow W w2 → BoxG w2 b ⟨g.s, g.n, g.c, s, n, c, [], []⟩ → BlkG w2 b → (∀ k, k ≠ b → w2.heap[k]? = w.heap[k]?) → w2.heap.size = w.heap.size → wpList Tryz.prog ops Q rest (a.put o.dst undef) w2) : wpList Tryz.prog ops Q (o :: rest) a w := by
  have hf := hb.frozen 1
  have hl := hb.lt
  obtain ⟨h0, h1⟩ := hG
  have hK : BoxG (w.setCell ⟨b, 1, none⟩ (.slice s n c)) b ⟨g.s, g.n, g.c, s, n, c, [], []⟩ := by
    constructor <;> simp [go_sem, h0, h1]
  have hB : BlkG (w.setCell ⟨b, 1, none⟩ (.slice s n c)) b := by
    obtain ⟨cs, hc, hs⟩ := hb
    exact ⟨_, heap_setCell_same w b 1 cs _ _ hc, by simpa using hs⟩
  have hO : ∀ k, k ≠ b → (w.setCell ⟨b, 1, none⟩ (.slice s n c)).heap[k]? = w.heap[k]? := fun k hk => heap_setCell_other w ⟨b, 1, none⟩ k _ (fun e => hk (by simp [e]))
  have hgr : Grow W (w.setCell ⟨b, 1, none⟩ (.slice s n c)) := hg.setCell hW _
  have hz : (w.setCell ⟨b, 1, none⟩ (.slice s n c)).heap.size = w.heap.size := by simp
  refine wpList_plain hgd fun K hK' => ?_
  have hk2 := hK' _ _ (h _ hgr hK hB hO hz)
  clear hK' h hK hB hO hgr hz
  unfold Oper.wp
  simp only [execOp, ho]
  generalize a.eval = ev at hx hy ⊢
  simp [hx, hy, go_sem, h1, hf, Result.andThen]
  exact hk2
/-- Rows of cells, written out. -/
theorem isNds_lit (w : World) (b n : Nat) (d : List Nd) (hn : d.length = n) (h : ∀ j, j < n * 4 → ∀ v, (flatN d)[j]? = some v → w.cell? ⟨b, j, none⟩ = some v) : IsNds w (some ⟨b, 0, none⟩) n n d :=
  ⟨hn, Nat.le_refl _, .inr ⟨b, 0, rfl, fun j v hj => by
    have hj' : j < n * 4 := by
      have := (List.getElem?_eq_some_iff.1 hj).1
      rw [flatN_len, hn] at this
      exact this
    rw [Nat.zero_add]
    exact h j hj' v hj⟩⟩
theorem isEds_lit (w : World) (b n : Nat) (d : List Ed) (hn : d.length = n) (h : ∀ j, j < n * 3 → ∀ v, (flatE d)[j]? = some v → w.cell? ⟨b, j, none⟩ = some v) : IsEds w (some ⟨b, 0, none⟩) n n d :=
  ⟨hn, Nat.le_refl _, .inr ⟨b, 0, rfl, fun j v hj => by
    have hj' : j < n * 3 := by
      have := (List.getElem?_eq_some_iff.1 hj).1
      rw [flatE_len, hn] at this
      exact this
    rw [Nat.zero_add]
    exact h j hj' v hj⟩⟩
theorem IsNds.keep {w w' : World} {b o n cap : Nat} {d : List Nd} (h : IsNds w (some ⟨b, o, none⟩) n cap d) (hk : ∀ j, w'.cell? ⟨b, j, none⟩ = w.cell? ⟨b, j, none⟩) : IsNds w' (some ⟨b, o, none⟩) n cap d :=
  ⟨h.1, h.2.1, h.2.2.imp id fun ⟨b', o', e, r⟩ => ⟨b', o', e, fun j v hj => by
    simp at e
    obtain ⟨rfl, rfl⟩ := e
    rw [hk]
    exact r j v hj⟩⟩
theorem IsEds.keep {w w' : World} {b o n cap : Nat} {d : List Ed} (h : IsEds w (some ⟨b, o, none⟩) n cap d) (hk : ∀ j, w'.cell? ⟨b, j, none⟩ = w.cell? ⟨b, j, none⟩) : IsEds w' (some ⟨b, o, none⟩) n cap d :=
  ⟨h.1, h.2.1, h.2.2.imp id fun ⟨b', o', e, r⟩ => ⟨b', o', e, fun j v hj => by
    simp at e
    obtain ⟨rfl, rfl⟩ := e
    rw [hk]
    exact r j v hj⟩⟩

end Go.Proofs.YtehianjfpmbfpaaGreat
