/-
  Blocks that a call has made for a struct of numbers: a whole struct stored into one, and read from it.
-/
import Derived.Test.YtjebipagehhkjaaHCon
import Derived.Laws.Tables
import Derived.Laws.AppendOwn
import Derived.Laws.CopyOwn
namespace Go.Proofs.Ytjebipagehhkjaa
set_option maxRecDepth 100000
open Go.RowKit
set_option linter.unusedVariables false
set_option linter.unusedSimpArgs false

/-- A summary lies in a block. -/
def BoxS (w : World) (b : Nat) (t : Sm) : Prop := w.cell? ⟨b, 0, none⟩ = some (.int .i64 t.f) ∧ w.cell? ⟨b, 1, none⟩ = some (.int .i64 t.t) ∧ w.cell? ⟨b, 2, none⟩ = some (.int .i64 t.k) ∧ w.cell? ⟨b, 3, none⟩ = some (.int .i64 t.ep) ∧ w.cell? ⟨b, 4, none⟩ = some (.int .i64 t.x) ∧ w.cell? ⟨b, 5, none⟩ = some (.int .i64 t.y) ∧ w.cell? ⟨b, 6, none⟩ = some (.int .i64 t.z)
theorem BoxS.later {w w' : World} {b : Nat} {t : Sm} (hg : Grow w w') (h : BoxS w b t) : BoxS w' b t := by
  obtain ⟨h0, h1, h2, h3, h4, h5, h6⟩ := h
  exact ⟨cell_later hg h0, cell_later hg h1, cell_later hg h2, cell_later hg h3, cell_later hg h4, cell_later hg h5, cell_later hg h6⟩
/-- A block of the call's own, for one of these. -/
def BlkN (w : World) (b : Nat) : Prop := ∃ cs, w.heap[b]? = some (.cells cs 38 (0, 0)) ∧ cs.size = 4
theorem BlkN.later {w w' : World} {b : Nat} (hg : Grow w w') (h : BlkN w b) : BlkN w' b := by
  obtain ⟨cs, h, k⟩ := h
  exact ⟨cs, (hg.block b (Array.getElem?_eq_some_iff.1 h).1).trans h, k⟩
theorem BlkN.lt {w : World} {b : Nat} (h : BlkN w b) : b < w.heap.size := by
  obtain ⟨cs, h, k⟩ := h
  exact (Array.getElem?_eq_some_iff.1 h).1
theorem BlkN.new (w : World) : BlkN (w.alloc (.cells #[.int .i64 0, .int .i64 0, .int .i64 0, .int .i64 0] 38)) w.heap.size := ⟨_, (MapKept.heap_alloc w _).1, rfl⟩
theorem BlkN.box {w : World} {b : Nat} (h : BlkN w b) (t : Nd) : BoxN (w.setRow b #[.int .i64 t.k, .int .i64 t.a, .int .i64 t.b, .int .i64 t.d]) b t := by
  obtain ⟨cs, h, _⟩ := h
  exact ⟨by rw [cell_setRow_same w b 0 _ _ _ _ h]; rfl, by rw [cell_setRow_same w b 1 _ _ _ _ h]; rfl, by rw [cell_setRow_same w b 2 _ _ _ _ h]; rfl, by rw [cell_setRow_same w b 3 _ _ _ _ h]; rfl⟩
theorem wpList_storeN {ops : Array Oper} {rest : List Oper} {o : Oper} {a : Act} {w : World} {Q : Exit → Act → World → Prop} (hgd : o.guard = none) (x y : Operand) (ho : o.op = .store 38 x y) (b : Nat) (t : Nd)
    (hx : a.eval x = .pointer (some ⟨b, 0, none⟩)) (hy : a.eval y = .agg #[.int .i64 t.k, .int .i64 t.a, .int .i64 t.b, .int .i64 t.d]) (hb : BlkN w b) (h : wpList Try.prog ops Q rest (a.put o.dst undef) (w.setRow b #[.int .i64 t.k, .int .i64 t.a, .int .i64 t.b, .int .i64 t.d])) : wpList Try.prog ops Q (o :: rest) a w := by
  obtain ⟨cs, hb, hs⟩ := hb
  exact wpList_store_row hgd 38 x y ho b _ hx hy _ _ hb (by kernel_rfl) (by rw [hs]; rfl) (by simp [Value.oneCell']) h
theorem wpList_putN {ops : Array Oper} {rest : List Oper} {o : Oper} {a : Act} {w : World} {Q : Exit → Act → World → Prop} (hgd : o.guard = none) (x y : Operand) (ho : o.op = .store 38 x y) (b : Nat) (t : Nd)
    (hx : a.eval x = .pointer (some ⟨b, 0, none⟩)) (hy : a.eval y = .agg #[.int .i64 t.k, .int .i64 t.a, .int .i64 t.b, .int .i64 t.d]) (hb : BlkN w b) (W : World) (hg : Grow W w) (hW : W.heap.size ≤ b) (h : ∀ w2, Grow W w2 → BoxN w2 b t → wpList Try.prog ops Q rest (a.put o.dst undef) w2) : wpList Try.prog ops Q (o :: rest) a w :=
  wpList_storeN hgd x y ho b t hx hy hb (h _ (below_setRow hg hW _) (hb.box t))
theorem resultsN {fn : Func} {i : Nat} (h : fn.results = #[.cell i 38]) (tmps : Array Value) (w : World) {b : Nat} {t : Nd} (ht : tmps.getD i undef = .pointer (some ⟨b, 0, none⟩)) (hb : BoxN w b t) :
    (results fn tmps).run Try.prog w = .ok (.agg #[.int .i64 t.k, .int .i64 t.a, .int .i64 t.b, .int .i64 t.d]) w := by
  obtain ⟨h0, h1, h2, h3⟩ := hb
  simp only [Array.getD_eq_getD_getElem?] at ht
  simp [results, h, ht, go_sem, h0, h1, h2, h3]
/-- A block of the call's own, for one of these. -/
def BlkE (w : World) (b : Nat) : Prop := ∃ cs, w.heap[b]? = some (.cells cs 40 (0, 0)) ∧ cs.size = 3
theorem BlkE.later {w w' : World} {b : Nat} (hg : Grow w w') (h : BlkE w b) : BlkE w' b := by
  obtain ⟨cs, h, k⟩ := h
  exact ⟨cs, (hg.block b (Array.getElem?_eq_some_iff.1 h).1).trans h, k⟩
theorem BlkE.lt {w : World} {b : Nat} (h : BlkE w b) : b < w.heap.size := by
  obtain ⟨cs, h, k⟩ := h
  exact (Array.getElem?_eq_some_iff.1 h).1
theorem BlkE.new (w : World) : BlkE (w.alloc (.cells #[.int .i64 0, .int .i64 0, .int .i64 0] 40)) w.heap.size := ⟨_, (MapKept.heap_alloc w _).1, rfl⟩
theorem BlkE.box {w : World} {b : Nat} (h : BlkE w b) (t : Ed) : BoxE (w.setRow b #[.int .i64 t.f, .int .i64 t.t, .int .i64 t.p]) b t := by
  obtain ⟨cs, h, _⟩ := h
  exact ⟨by rw [cell_setRow_same w b 0 _ _ _ _ h]; rfl, by rw [cell_setRow_same w b 1 _ _ _ _ h]; rfl, by rw [cell_setRow_same w b 2 _ _ _ _ h]; rfl⟩
theorem wpList_storeE {ops : Array Oper} {rest : List Oper} {o : Oper} {a : Act} {w : World} {Q : Exit → Act → World → Prop} (hgd : o.guard = none) (x y : Operand) (ho : o.op = .store 40 x y) (b : Nat) (t : Ed)
    (hx : a.eval x = .pointer (some ⟨b, 0, none⟩)) (hy : a.eval y = .agg #[.int .i64 t.f, .int .i64 t.t, .int .i64 t.p]) (hb : BlkE w b) (h : wpList Try.prog ops Q rest (a.put o.dst undef) (w.setRow b #[.int .i64 t.f, .int .i64 t.t, .int .i64 t.p])) : wpList Try.prog ops Q (o :: rest) a w := by
  obtain ⟨cs, hb, hs⟩ := hb
  exact wpList_store_row hgd 40 x y ho b _ hx hy _ _ hb (by kernel_rfl) (by rw [hs]; rfl) (by simp [Value.oneCell']) h
theorem wpList_putE {ops : Array Oper} {rest : List Oper} {o : Oper} {a : Act} {w : World} {Q : Exit → Act → World → Prop} (hgd : o.guard = none) (x y : Operand) (ho : o.op = .store 40 x y) (b : Nat) (t : Ed)
    (hx : a.eval x = .pointer (some ⟨b, 0, none⟩)) (hy : a.eval y = .agg #[.int .i64 t.f, .int .i64 t.t, .int .i64 t.p]) (hb : BlkE w b) (W : World) (hg : Grow W w) (hW : W.heap.size ≤ b) (h : ∀ w2, Grow W w2 → BoxE w2 b t → wpList Try.prog ops Q rest (a.put o.dst undef) w2) : wpList Try.prog ops Q (o :: rest) a w :=
  wpList_storeE hgd x y ho b t hx hy hb (h _ (below_setRow hg hW _) (hb.box t))
theorem resultsE {fn : Func} {i : Nat} (h : fn.results = #[.cell i 40]) (tmps : Array Value) (w : World) {b : Nat} {t : Ed} (ht : tmps.getD i undef = .pointer (some ⟨b, 0, none⟩)) (hb : BoxE w b t) :
    (results fn tmps).run Try.prog w = .ok (.agg #[.int .i64 t.f, .int .i64 t.t, .int .i64 t.p]) w := by
  obtain ⟨h0, h1, h2⟩ := hb
  simp only [Array.getD_eq_getD_getElem?] at ht
  simp [results, h, ht, go_sem, h0, h1, h2]
theorem grow_setRow {W w : World} {b : Nat} (hg : Grow W w) (hb : W.heap.size ≤ b) (cs : Array Value) : Grow W (w.setRow b cs) := below_setRow hg hb cs

theorem GrewBut.cell' {w w2 : World} {base : Nat} {s : Option Addr} (h : GrewBut w w2 base s) {b o : Nat} {v : Value} (hb : w.cell? ⟨b, o, none⟩ = some v) (hs : ∀ a, s = some a → a.block < b) : w2.cell? ⟨b, o, none⟩ = some v := by
  refine h.grown.cell hb ?_
  cases s with
  | none => simp
  | some a =>
    intro e
    have := hs a rfl
    simp at e
    omega
theorem BoxN.but {w w2 : World} {base b : Nat} {s : Option Addr} {t} (hB : BoxN w b t) (h : GrewBut w w2 base s) (hs : ∀ a, s = some a → a.block < b) : BoxN w2 b t := by
  obtain ⟨h0, h1, h2, h3⟩ := hB
  exact ⟨h.cell' h0 hs, h.cell' h1 hs, h.cell' h2 hs, h.cell' h3 hs⟩
theorem BoxE.but {w w2 : World} {base b : Nat} {s : Option Addr} {t} (hB : BoxE w b t) (h : GrewBut w w2 base s) (hs : ∀ a, s = some a → a.block < b) : BoxE w2 b t := by
  obtain ⟨h0, h1, h2⟩ := hB
  exact ⟨h.cell' h0 hs, h.cell' h1 hs, h.cell' h2 hs⟩
theorem BoxG.but {w w2 : World} {base b : Nat} {s : Option Addr} {t} (hB : BoxG w b t) (h : GrewBut w w2 base s) (hs : ∀ a, s = some a → a.block < b) : BoxG w2 b t := by
  obtain ⟨h0, h1⟩ := hB
  exact ⟨h.cell' h0 hs, h.cell' h1 hs⟩

/-- A block of the call's own, for a graph. -/
def BlkG (w : World) (b : Nat) : Prop := ∃ cs, w.heap[b]? = some (.cells cs 25 (0, 0)) ∧ cs.size = 2
theorem BlkG.later {w w' : World} {b : Nat} (hg : Grow w w') (h : BlkG w b) : BlkG w' b := by
  obtain ⟨cs, h, k⟩ := h
  exact ⟨cs, (hg.block b (Array.getElem?_eq_some_iff.1 h).1).trans h, k⟩
theorem BlkG.new (w : World) (x y : Value) : BlkG (w.alloc (.cells #[x, y] 25)) w.heap.size := ⟨_, (MapKept.heap_alloc w _).1, rfl⟩
theorem BlkG.box {w : World} {b : Nat} (h : BlkG w b) (g : GA) : BoxG (w.setRow b #[.slice g.s g.n g.c, .slice g.t g.m g.q]) b g := by
  obtain ⟨cs, h, _⟩ := h
  exact ⟨by rw [cell_setRow_same w b 0 _ _ _ _ h]; rfl, by rw [cell_setRow_same w b 1 _ _ _ _ h]; rfl⟩
theorem wpList_putG {ops : Array Oper} {rest : List Oper} {o : Oper} {a : Act} {w : World} {Q : Exit → Act → World → Prop} (hgd : o.guard = none) (x y : Operand) (ho : o.op = .store 25 x y) (b : Nat) (g : GA)
    (hx : a.eval x = .pointer (some ⟨b, 0, none⟩)) (hy : a.eval y = .agg #[.slice g.s g.n g.c, .slice g.t g.m g.q]) (hb : BlkG w b) (W : World) (hg : Grow W w) (hW : W.heap.size ≤ b) (h : ∀ w2, Grow W w2 → BoxG w2 b g → (∀ x : Addr, x.block ≠ b → w2.cell? x = w.cell? x) → w2.heap.size = w.heap.size → wpList Try.prog ops Q rest (a.put o.dst undef) w2) : wpList Try.prog ops Q (o :: rest) a w := by
  have hb' := hb
  obtain ⟨cs, hb1, hs⟩ := hb
  exact wpList_store_row hgd 25 x y ho b _ hx hy _ _ hb1 (by kernel_rfl) (by rw [hs]; rfl) (by simp [Value.oneCell']) (h _ (below_setRow hg hW _) (hb'.box g) (fun x hx => cell_setRow_other w b _ x hx) (by simp [World.setRow]))
theorem resultsG {fn : Func} {i : Nat} (h : fn.results = #[.cell i 25]) (tmps : Array Value) (w : World) {b : Nat} {g : GA} (ht : tmps.getD i undef = .pointer (some ⟨b, 0, none⟩)) (hb : BoxG w b g) :
    (results fn tmps).run Try.prog w = .ok (.agg #[.slice g.s g.n g.c, .slice g.t g.m g.q]) w := by
  obtain ⟨h0, h1⟩ := hb
  simp only [Array.getD_eq_getD_getElem?] at ht
  simp [results, h, ht, go_sem, h0, h1]

end Go.Proofs.Ytjebipagehhkjaa
