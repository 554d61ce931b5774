/-
  What the writer and the reader of graphs have: a block of two cells, a row of bytes and a flag; what may have turned behind a step; stores into such a block.
-/
import Derived.Test.YtjebipagehhkjaaGreatKRow
import Derived.Test.YtjebipagehhkjaaGreatVAp
import Derived.Test.YtjebipagehhkjaaGreatEndC
import Derived.Deep.Cut
namespace Go.Proofs.YtjebipagehhkjaaGreat
set_option maxRecDepth 100000
open Go.ChangeShapes Go.WideShapes Go.ChangeAt Go.RowKit Go.Deep Go.Sort
set_option linter.unusedVariables false
set_option linter.unusedSimpArgs false

theorem byT : ByT 22 5 := by
  refine ⟨by kernel_rfl, by kernel_rfl, ?_⟩
  cases hi : Tryz.prog.info? 5 with
  | none =>
    have : (Tryz.prog.info? 5).isSome = true := by kernel_rfl
    rw [hi] at this; cases this
  | some i =>
    have hz : (Tryz.prog.info? 5).map (·.zero) = some (some (.int .u8 0)) := by kernel_rfl
    have hs : (Tryz.prog.info? 5).map (·.size) = some 1 := by kernel_rfl
    have hb : (Tryz.prog.info? 5).map (·.bytes) = some 1 := by kernel_rfl
    rw [hi] at hz hs hb
    simp only [Option.map_some, Option.some.injEq] at hz hs hb
    exact ⟨i, rfl, hz, hs, hb⟩

/-- Of what was there only blocks of some types may have turned. -/
structure Turn (X : TypeId → Bool) (w w' : World) : Prop where
  size : w.heap.size ≤ w'.heap.size
  block : ∀ k, k < w.heap.size → w'.heap[k]? = w.heap[k]? ∨ ∃ cs T, w.heap[k]? = some (.cells cs T (0, 0)) ∧ X T = true
theorem Turn.refl (X : TypeId → Bool) (w : World) : Turn X w w := ⟨Nat.le_refl _, fun _ _ => .inl rfl⟩
theorem Turn.of_grow {X : TypeId → Bool} {w w' : World} (h : Grow w w') : Turn X w w' := ⟨h.size, fun k hk => .inl (h.block k hk)⟩
theorem Turn.trans {X : TypeId → Bool} {a b c : World} (h : Turn X a b) (k : Turn X b c) : Turn X a c :=
  ⟨Nat.le_trans h.size k.size, fun i hi => by
    rcases h.block i hi with h1 | h1
    · rcases k.block i (Nat.lt_of_lt_of_le hi h.size) with h2 | ⟨cs, T, h2, h3⟩
      · exact .inl (h2.trans h1)
      · exact .inr ⟨cs, T, by rw [← h1]; exact h2, h3⟩
    · exact .inr h1⟩
theorem Turn.same {X : TypeId → Bool} {w w' : World} (h : Turn X w w') {k : Nat} {cs : Array Value} {T : TypeId} (hk : w.heap[k]? = some (.cells cs T (0, 0))) (hX : X T = false) : w'.heap[k]? = w.heap[k]? := by
  rcases h.block k (Array.getElem?_eq_some_iff.1 hk).1 with h1 | ⟨cs', T', h1, h2⟩
  · exact h1
  · rw [hk] at h1
    simp only [Option.some.injEq, Obj.cells.injEq] at h1
    rw [← h1.2.1, hX] at h2
    cases h2
/-- One block of a type has turned. -/
theorem Turn.one {X : TypeId → Bool} {w w' : World} {b : Nat} {cs : Array Value} {T : TypeId} (hg : w.grownBy w' (some b)) (hb : w.heap[b]? = some (.cells cs T (0, 0))) (hX : X T = true) : Turn X w w' :=
  ⟨hg.size, fun k hk => by
    by_cases e : k = b
    · subst e; exact .inr ⟨cs, T, hb, hX⟩
    · exact .inl (hg.block k hk (fun h => e (Option.some.inj h)))⟩
theorem grow_by {W w w' : World} {b : Nat} (hg : Grow W w) (h : w.grownBy w' (some b)) (hb : W.heap.size ≤ b) : Grow W w' :=
  Below.grown hg h hg.size (fun k e => by cases e; exact hb)

theorem BlkG.turn {Y : TypeId → Bool} {w w' : World} {b : Nat} (h : Turn Y w w') (hY : Y 27 = false) (hb : BlkG w b) : BlkG w' b := by
  obtain ⟨cs, h1, h2⟩ := hb
  exact ⟨cs, (h.same h1 hY).trans h1, h2⟩
theorem BoxG.turn {Y : TypeId → Bool} {w w' : World} {b : Nat} {t : GA} (h : Turn Y w w') (hY : Y 27 = false) (hb : BlkG w b) (hx : BoxG w b t) : BoxG w' b t := by
  obtain ⟨cs, h1, h2⟩ := hb
  have hk := h.same h1 hY
  obtain ⟨x0, x1⟩ := hx
  exact ⟨(cell_of_heap hk 0).trans x0, (cell_of_heap hk 1).trans x1⟩
theorem BlkG.new' (w : World) (t : GA) : BlkG (w.alloc (.cells #[.slice t.s t.n t.c, .slice t.t t.m t.q] 27)) w.heap.size := ⟨_, (MapKept.heap_alloc w _).1, rfl⟩
theorem BlkN.turn {Y : TypeId → Bool} {w w' : World} {b : Nat} (h : Turn Y w w') (hY : Y 37 = false) (hb : BlkN w b) : BlkN w' b := by
  obtain ⟨cs, h1, h2⟩ := hb
  exact ⟨cs, (h.same h1 hY).trans h1, h2⟩
theorem BoxN.turn {Y : TypeId → Bool} {w w' : World} {b : Nat} {t : Nd} (h : Turn Y w w') (hY : Y 37 = false) (hb : BlkN w b) (hx : BoxN w b t) : BoxN w' b t := by
  obtain ⟨cs, h1, h2⟩ := hb
  have hk := h.same h1 hY
  obtain ⟨x0, x1, x2, x3⟩ := hx
  exact ⟨(cell_of_heap hk 0).trans x0, (cell_of_heap hk 1).trans x1, (cell_of_heap hk 2).trans x2, (cell_of_heap hk 3).trans x3⟩
theorem BlkN.new' (w : World) (t : Nd) : BlkN (w.alloc (.cells #[.int .i64 t.k, .int .i64 t.a, .int .i64 t.b, .int .i64 t.d] 37)) w.heap.size := ⟨_, (MapKept.heap_alloc w _).1, rfl⟩
theorem BlkE.turn {Y : TypeId → Bool} {w w' : World} {b : Nat} (h : Turn Y w w') (hY : Y 39 = false) (hb : BlkE w b) : BlkE w' b := by
  obtain ⟨cs, h1, h2⟩ := hb
  exact ⟨cs, (h.same h1 hY).trans h1, h2⟩
theorem BoxE.turn {Y : TypeId → Bool} {w w' : World} {b : Nat} {t : Ed} (h : Turn Y w w') (hY : Y 39 = false) (hb : BlkE w b) (hx : BoxE w b t) : BoxE w' b t := by
  obtain ⟨cs, h1, h2⟩ := hb
  have hk := h.same h1 hY
  obtain ⟨x0, x1, x2⟩ := hx
  exact ⟨(cell_of_heap hk 0).trans x0, (cell_of_heap hk 1).trans x1, (cell_of_heap hk 2).trans x2⟩
theorem BlkE.new' (w : World) (t : Ed) : BlkE (w.alloc (.cells #[.int .i64 t.f, .int .i64 t.t, .int .i64 t.p] 39)) w.heap.size := ⟨_, (MapKept.heap_alloc w _).1, rfl⟩
theorem OwnN.turn' {Y : TypeId → Bool} {w w' : World} {base n c : Nat} {s : Option Addr} {d : List Nd} (h : Turn Y w w') (hY : Y 37 = false) (hO : OwnN w base s n c d) : OwnN w' base s n c d :=
  hO.keep fun a ha => by obtain ⟨cs, hc⟩ := hO.block a ha; exact h.same hc hY
theorem OwnE.turn' {Y : TypeId → Bool} {w w' : World} {base n c : Nat} {s : Option Addr} {d : List Ed} (h : Turn Y w w') (hY : Y 39 = false) (hO : OwnE w base s n c d) : OwnE w' base s n c d :=
  hO.keep fun a ha => by obtain ⟨cs, hc⟩ := hO.block a ha; exact h.same hc hY
theorem OwnU.block {B : TypeId} {w : World} {base n cap : Nat} {s : Option Addr} {d : List UInt8} (h : OwnU B w base s n cap d) : ∀ a, s = some a → ∃ cs, w.heap[a.block]? = some (.cells cs B (0, 0)) := by
  intro a ha
  rcases h.2.1.2 with ⟨h', _⟩ | ⟨g, cap', cur, h', hb, hg, r⟩
  · simp only [Value.slice.injEq] at h'
    rw [ha] at h'; cases h'.1
  · simp only [Value.slice.injEq] at h'
    rw [ha] at h'
    cases h'.1
    exact ⟨cur, hg⟩
theorem OwnU.turnB {B : TypeId} {Y : TypeId → Bool} {w w' : World} {base n c : Nat} {s : Option Addr} {d : List UInt8} (h : Turn Y w w') (hY : Y B = false) (hO : OwnU B w base s n c d) : OwnU B w' base s n c d :=
  hO.keep fun a ha => by obtain ⟨cs, hc⟩ := hO.block a ha; exact h.same hc hY

/-! ## A block of two cells: a row of bytes and a flag -/
def Cel (w : World) (b : Nat) (T : TypeId) (s : Option Addr) (n c : Nat) (u : Bool) : Prop := w.heap[b]? = some (.cells #[.slice s n c, .bool u] T (0, 0))
theorem Cel.cells {w : World} {b : Nat} {T : TypeId} {s : Option Addr} {n c : Nat} {u : Bool} (h : Cel w b T s n c u) : w.cell? ⟨b, 0, none⟩ = some (.slice s n c) ∧ w.cell? ⟨b, 1, none⟩ = some (.bool u) :=
  ⟨by rw [cell_of_row w b 0 _ _ _ h]; rfl, by rw [cell_of_row w b 1 _ _ _ h]; rfl⟩
theorem Cel.later {w w' : World} {b : Nat} {T : TypeId} {s : Option Addr} {n c : Nat} {u : Bool} (hg : Grow w w') (h : Cel w b T s n c u) : Cel w' b T s n c u :=
  (hg.block b (Array.getElem?_eq_some_iff.1 h).1).trans h
theorem Cel.lt {w : World} {b : Nat} {T : TypeId} {s : Option Addr} {n c : Nat} {u : Bool} (h : Cel w b T s n c u) : b < w.heap.size := (Array.getElem?_eq_some_iff.1 h).1
theorem wpList_setRow {ops : Array Oper} {rest : List Oper} {o : Oper} {a : Act} {w : World} {Q : Exit → Act → World → Prop} (hgd : o.guard = none) (x y : Operand) (ho : o.op = .store 22 x y) (b : Nat) (T : TypeId) (s : Option Addr) (n c : Nat) (u : Bool) (s2 : Option Addr) (n2 c2 : Nat)
    (hx : a.eval x = .pointer (some ⟨b, 0, none⟩)) (hy : a.eval y = .slice s2 n2 c2) (hb : Cel w b T s n c u)
    (h : ∀ w2, Cel w2 b T s2 n2 c2 u → w.grownBy w2 (some b) → wpList Tryz.prog ops Q rest (a.put o.dst undef) w2) : wpList Tryz.prog ops Q (o :: rest) a w := by
  have hf := frozen_of_row w b 0 _ _ hb
  obtain ⟨h0, h1⟩ := hb.cells
  have hl := hb.lt
  have hC : Cel (w.setCell ⟨b, 0, none⟩ (.slice s2 n2 c2)) b T s2 n2 c2 u := by
    have := heap_setCell_same w b 0 _ _ (.slice s2 n2 c2) hb
    exact this
  have hO : w.grownBy (w.setCell ⟨b, 0, none⟩ (.slice s2 n2 c2)) (some b) := ⟨rfl, rfl, rfl, by simp, fun k _ hk => heap_setCell_other w ⟨b, 0, none⟩ k _ (fun e => hk (by simp [e]))⟩
  refine wpList_plain hgd fun K hK' => ?_
  have hk2 := hK' _ _ (h _ hC hO)
  clear hK' h hC hO
  unfold Oper.wp
  simp only [execOp, ho]
  generalize a.eval = ev at hx hy ⊢
  simp [hx, hy, go_sem, h0, hf, Result.andThen]
  exact hk2
theorem wpList_setFlag {ops : Array Oper} {rest : List Oper} {o : Oper} {a : Act} {w : World} {Q : Exit → Act → World → Prop} (hgd : o.guard = none) (x y : Operand) (ho : o.op = .store 4 x y) (b : Nat) (T : TypeId) (s : Option Addr) (n c : Nat) (u v : Bool)
    (hx : a.eval x = .pointer (some ⟨b, 1, none⟩)) (hy : a.eval y = .bool v) (hb : Cel w b T s n c u)
    (h : ∀ w2, Cel w2 b T s n c v → w.grownBy w2 (some b) → wpList Tryz.prog ops Q rest (a.put o.dst undef) w2) : wpList Tryz.prog ops Q (o :: rest) a w := by
  have hf := frozen_of_row w b 1 _ _ hb
  obtain ⟨h0, h1⟩ := hb.cells
  have hl := hb.lt
  have hC : Cel (w.setCell ⟨b, 1, none⟩ (.bool v)) b T s n c v := by
    have := heap_setCell_same w b 1 _ _ (.bool v) hb
    exact this
  have hO : w.grownBy (w.setCell ⟨b, 1, none⟩ (.bool v)) (some b) := ⟨rfl, rfl, rfl, by simp, fun k _ hk => heap_setCell_other w ⟨b, 1, none⟩ k _ (fun e => hk (by simp [e]))⟩
  refine wpList_plain hgd fun K hK' => ?_
  have hk2 := hK' _ _ (h _ hC hO)
  clear hK' h hC hO
  unfold Oper.wp
  simp only [execOp, ho]
  generalize a.eval = ev at hx hy ⊢
  simp [hx, hy, go_sem, h1, hf, Result.andThen]
  exact hk2
end Go.Proofs.YtjebipagehhkjaaGreat
