/-
  Rows of bytes that a call has made, by append or as a literal of its own (which the run time marks): append onto one.
-/
import Derived.Test.YtjebipagehhkjaaGreatKRow
import Derived.Test.YtjebipagehhkjaaGreatVAp
import Derived.Test.YtjebipagehhkjaaGreatEndC
import Derived.Deep.Cut
import Derived.Lib.SlBytesConst
/-
  What the writer and the reader of graphs have: a block of two cells, a row of bytes and a flag; what may have turned behind a step; stores into such a block.
-/
namespace Go.Proofs.YtjebipagehhkjaaGreat
set_option maxRecDepth 100000
open Go.ChangeShapes Go.WideShapes Go.ChangeAt Go.RowKit Go.Deep Go.Sort
set_option linter.unusedVariables false
set_option linter.unusedSimpArgs false

theorem byT : ByT 22 5 := by
  refine ⟨by kernel_rfl, by kernel_rfl, ?_⟩
  cases hi : Tryz.prog.info? 5 with
  | none =>
    have : (Tryz.prog.info? 5).isSome = true := by kernel_rfl
    rw [hi] at this; cases this
  | some i =>
    have hz : (Tryz.prog.info? 5).map (·.zero) = some (some (.int .u8 0)) := by kernel_rfl
    have hs : (Tryz.prog.info? 5).map (·.size) = some 1 := by kernel_rfl
    have hb : (Tryz.prog.info? 5).map (·.bytes) = some 1 := by kernel_rfl
    rw [hi] at hz hs hb
    simp only [Option.map_some, Option.some.injEq] at hz hs hb
    exact ⟨i, rfl, hz, hs, hb⟩

/-- Of what was there only blocks of some types may have turned. -/
structure Turn (X : TypeId → Bool) (w w' : World) : Prop where
  size : w.heap.size ≤ w'.heap.size
  block : ∀ k, k < w.heap.size → w'.heap[k]? = w.heap[k]? ∨ ∃ cs T, w.heap[k]? = some (.cells cs T (0, 0)) ∧ X T = true
theorem Turn.refl (X : TypeId → Bool) (w : World) : Turn X w w := ⟨Nat.le_refl _, fun _ _ => .inl rfl⟩
theorem Turn.of_grow {X : TypeId → Bool} {w w' : World} (h : Grow w w') : Turn X w w' := ⟨h.size, fun k hk => .inl (h.block k hk)⟩
theorem Turn.trans {X : TypeId → Bool} {a b c : World} (h : Turn X a b) (k : Turn X b c) : Turn X a c :=
  ⟨Nat.le_trans h.size k.size, fun i hi => by
    rcases h.block i hi with h1 | h1
    · rcases k.block i (Nat.lt_of_lt_of_le hi h.size) with h2 | ⟨cs, T, h2, h3⟩
      · exact .inl (h2.trans h1)
      · exact .inr ⟨cs, T, by rw [← h1]; exact h2, h3⟩
    · exact .inr h1⟩
theorem Turn.same {X : TypeId → Bool} {w w' : World} (h : Turn X w w') {k : Nat} {cs : Array Value} {T : TypeId} (hk : w.heap[k]? = some (.cells cs T (0, 0))) (hX : X T = false) : w'.heap[k]? = w.heap[k]? := by
  rcases h.block k (Array.getElem?_eq_some_iff.1 hk).1 with h1 | ⟨cs', T', h1, h2⟩
  · exact h1
  · rw [hk] at h1
    simp only [Option.some.injEq, Obj.cells.injEq] at h1
    rw [← h1.2.1, hX] at h2
    cases h2
/-- One block of a type has turned. -/
theorem Turn.one {X : TypeId → Bool} {w w' : World} {b : Nat} {cs : Array Value} {T : TypeId} (hg : w.grownBy w' (some b)) (hb : w.heap[b]? = some (.cells cs T (0, 0))) (hX : X T = true) : Turn X w w' :=
  ⟨hg.size, fun k hk => by
    by_cases e : k = b
    · subst e; exact .inr ⟨cs, T, hb, hX⟩
    · exact .inl (hg.block k hk (fun h => e (Option.some.inj h)))⟩
theorem grow_by {W w w' : World} {b : Nat} (hg : Grow W w) (h : w.grownBy w' (some b)) (hb : W.heap.size ≤ b) : Grow W w' :=
  Below.grown hg h hg.size (fun k e => by cases e; exact hb)

theorem BlkG.turn {Y : TypeId → Bool} {w w' : World} {b : Nat} (h : Turn Y w w') (hY : Y 27 = false) (hb : BlkG w b) : BlkG w' b := by
  obtain ⟨cs, h1, h2⟩ := hb
  exact ⟨cs, (h.same h1 hY).trans h1, h2⟩
theorem BoxG.turn {Y : TypeId → Bool} {w w' : World} {b : Nat} {t : GA} (h : Turn Y w w') (hY : Y 27 = false) (hb : BlkG w b) (hx : BoxG w b t) : BoxG w' b t := by
  obtain ⟨cs, h1, h2⟩ := hb
  have hk := h.same h1 hY
  obtain ⟨x0, x1⟩ := hx
  exact ⟨(cell_of_heap hk 0).trans x0, (cell_of_heap hk 1).trans x1⟩
theorem BlkG.new' (w : World) (t : GA) : BlkG (w.alloc (.cells #[.slice t.s t.n t.c, .slice t.t t.m t.q] 27)) w.heap.size := ⟨_, (MapKept.heap_alloc w _).1, rfl⟩
theorem BlkN.turn {Y : TypeId → Bool} {w w' : World} {b : Nat} (h : Turn Y w w') (hY : Y 37 = false) (hb : BlkN w b) : BlkN w' b := by
  obtain ⟨cs, h1, h2⟩ := hb
  exact ⟨cs, (h.same h1 hY).trans h1, h2⟩
theorem BoxN.turn {Y : TypeId → Bool} {w w' : World} {b : Nat} {t : Nd} (h : Turn Y w w') (hY : Y 37 = false) (hb : BlkN w b) (hx : BoxN w b t) : BoxN w' b t := by
  obtain ⟨cs, h1, h2⟩ := hb
  have hk := h.same h1 hY
  obtain ⟨x0, x1, x2, x3⟩ := hx
  exact ⟨(cell_of_heap hk 0).trans x0, (cell_of_heap hk 1).trans x1, (cell_of_heap hk 2).trans x2, (cell_of_heap hk 3).trans x3⟩
theorem BlkN.new' (w : World) (t : Nd) : BlkN (w.alloc (.cells #[.int .i64 t.k, .int .i64 t.a, .int .i64 t.b, .int .i64 t.d] 37)) w.heap.size := ⟨_, (MapKept.heap_alloc w _).1, rfl⟩
theorem BlkE.turn {Y : TypeId → Bool} {w w' : World} {b : Nat} (h : Turn Y w w') (hY : Y 39 = false) (hb : BlkE w b) : BlkE w' b := by
  obtain ⟨cs, h1, h2⟩ := hb
  exact ⟨cs, (h.same h1 hY).trans h1, h2⟩
theorem BoxE.turn {Y : TypeId → Bool} {w w' : World} {b : Nat} {t : Ed} (h : Turn Y w w') (hY : Y 39 = false) (hb : BlkE w b) (hx : BoxE w b t) : BoxE w' b t := by
  obtain ⟨cs, h1, h2⟩ := hb
  have hk := h.same h1 hY
  obtain ⟨x0, x1, x2⟩ := hx
  exact ⟨(cell_of_heap hk 0).trans x0, (cell_of_heap hk 1).trans x1, (cell_of_heap hk 2).trans x2⟩
theorem BlkE.new' (w : World) (t : Ed) : BlkE (w.alloc (.cells #[.int .i64 t.f, .int .i64 t.t, .int .i64 t.p] 39)) w.heap.size := ⟨_, (MapKept.heap_alloc w _).1, rfl⟩
theorem OwnN.turn' {Y : TypeId → Bool} {w w' : World} {base n c : Nat} {s : Option Addr} {d : List Nd} (h : Turn Y w w') (hY : Y 37 = false) (hO : OwnN w base s n c d) : OwnN w' base s n c d :=
  hO.keep fun a ha => by obtain ⟨cs, hc⟩ := hO.block a ha; exact h.same hc hY
theorem OwnE.turn' {Y : TypeId → Bool} {w w' : World} {base n c : Nat} {s : Option Addr} {d : List Ed} (h : Turn Y w w') (hY : Y 39 = false) (hO : OwnE w base s n c d) : OwnE w' base s n c d :=
  hO.keep fun a ha => by obtain ⟨cs, hc⟩ := hO.block a ha; exact h.same hc hY
theorem OwnU.block {B : TypeId} {w : World} {base n cap : Nat} {s : Option Addr} {d : List UInt8} (h : OwnU B w base s n cap d) : ∀ a, s = some a → ∃ cs, w.heap[a.block]? = some (.cells cs B (0, 0)) := by
  intro a ha
  rcases h.2.1.2 with ⟨h', _⟩ | ⟨g, cap', cur, h', hb, hg, r⟩
  · simp only [Value.slice.injEq] at h'
    rw [ha] at h'; cases h'.1
  · simp only [Value.slice.injEq] at h'
    rw [ha] at h'
    cases h'.1
    exact ⟨cur, hg⟩
theorem OwnU.turnB {B : TypeId} {Y : TypeId → Bool} {w w' : World} {base n c : Nat} {s : Option Addr} {d : List UInt8} (h : Turn Y w w') (hY : Y B = false) (hO : OwnU B w base s n c d) : OwnU B w' base s n c d :=
  hO.keep fun a ha => by obtain ⟨cs, hc⟩ := hO.block a ha; exact h.same hc hY

/-! ## A block of two cells: a row of bytes and a flag -/
def Cel (w : World) (b : Nat) (T : TypeId) (s : Option Addr) (n c : Nat) (u : Bool) : Prop := w.heap[b]? = some (.cells #[.slice s n c, .bool u] T (0, 0))
theorem Cel.cells {w : World} {b : Nat} {T : TypeId} {s : Option Addr} {n c : Nat} {u : Bool} (h : Cel w b T s n c u) : w.cell? ⟨b, 0, none⟩ = some (.slice s n c) ∧ w.cell? ⟨b, 1, none⟩ = some (.bool u) :=
  ⟨by rw [cell_of_row w b 0 _ _ _ h]; rfl, by rw [cell_of_row w b 1 _ _ _ h]; rfl⟩
theorem Cel.later {w w' : World} {b : Nat} {T : TypeId} {s : Option Addr} {n c : Nat} {u : Bool} (hg : Grow w w') (h : Cel w b T s n c u) : Cel w' b T s n c u :=
  (hg.block b (Array.getElem?_eq_some_iff.1 h).1).trans h
theorem Cel.lt {w : World} {b : Nat} {T : TypeId} {s : Option Addr} {n c : Nat} {u : Bool} (h : Cel w b T s n c u) : b < w.heap.size := (Array.getElem?_eq_some_iff.1 h).1
theorem wpList_setRow {ops : Array Oper} {rest : List Oper} {o : Oper} {a : Act} {w : World} {Q : Exit → Act → World → Prop} (hgd : o.guard = none) (x y : Operand) (ho : o.op = .store 22 x y) (b : Nat) (T : TypeId) (s : Option Addr) (n c : Nat) (u : Bool) (s2 : Option Addr) (n2 c2 : Nat)
    (hx : a.eval x = .pointer (some ⟨b, 0, none⟩)) (hy : a.eval y = .slice s2 n2 c2) (hb : Cel w b T s n c u)
    (h : ∀ w2, Cel w2 b T s2 n2 c2 u → w.grownBy w2 (some b) → wpList Tryz.prog ops Q rest (a.put o.dst undef) w2) : wpList Tryz.prog ops Q (o :: rest) a w := by
  have hf := frozen_of_row w b 0 _ _ hb
  obtain ⟨h0, h1⟩ := hb.cells
  have hl := hb.lt
  have hC : Cel (w.setCell ⟨b, 0, none⟩ (.slice s2 n2 c2)) b T s2 n2 c2 u := by
    have := heap_setCell_same w b 0 _ _ (.slice s2 n2 c2) hb
    exact this
  have hO : w.grownBy (w.setCell ⟨b, 0, none⟩ (.slice s2 n2 c2)) (some b) := ⟨rfl, rfl, rfl, by simp, fun k _ hk => heap_setCell_other w ⟨b, 0, none⟩ k _ (fun e => hk (by simp [e]))⟩
  refine wpList_plain hgd fun K hK' => ?_
  have hk2 := hK' _ _ (h _ hC hO)
  clear hK' h hC hO
  unfold Oper.wp
  simp only [execOp, ho]
  generalize a.eval = ev at hx hy ⊢
  simp [hx, hy, go_sem, h0, hf, Result.andThen]
  exact hk2
theorem wpList_setFlag {ops : Array Oper} {rest : List Oper} {o : Oper} {a : Act} {w : World} {Q : Exit → Act → World → Prop} (hgd : o.guard = none) (x y : Operand) (ho : o.op = .store 4 x y) (b : Nat) (T : TypeId) (s : Option Addr) (n c : Nat) (u v : Bool)
    (hx : a.eval x = .pointer (some ⟨b, 1, none⟩)) (hy : a.eval y = .bool v) (hb : Cel w b T s n c u)
    (h : ∀ w2, Cel w2 b T s n c v → w.grownBy w2 (some b) → wpList Tryz.prog ops Q rest (a.put o.dst undef) w2) : wpList Tryz.prog ops Q (o :: rest) a w := by
  have hf := frozen_of_row w b 1 _ _ hb
  obtain ⟨h0, h1⟩ := hb.cells
  have hl := hb.lt
  have hC : Cel (w.setCell ⟨b, 1, none⟩ (.bool v)) b T s n c v := by
    have := heap_setCell_same w b 1 _ _ (.bool v) hb
    exact this
  have hO : w.grownBy (w.setCell ⟨b, 1, none⟩ (.bool v)) (some b) := ⟨rfl, rfl, rfl, by simp, fun k _ hk => heap_setCell_other w ⟨b, 1, none⟩ k _ (fun e => hk (by simp [e]))⟩
  refine wpList_plain hgd fun K hK' => ?_
  have hk2 := hK' _ _ (h _ hC hO)
  clear hK' h hC hO
  unfold Oper.wp
  simp only [execOp, ho]
  generalize a.eval = ev at hx hy ⊢
  simp [hx, hy, go_sem, h1, hf, Result.andThen]
  exact hk2
end Go.Proofs.YtjebipagehhkjaaGreat
namespace Go.Proofs.YtjebipagehhkjaaGreat
set_option maxRecDepth 100000
open Go.ChangeShapes Go.WideShapes Go.ChangeAt Go.RowKit Go.Deep Go.Sort
set_option linter.unusedVariables false
set_option linter.unusedSimpArgs false

/-- A literal's row, full. -/
def FullU (B : TypeId) (w : World) (base : Nat) (s : Option Addr) (n c : Nat) (d : List UInt8) : Prop :=
  d.length = n ∧ c = n ∧ ∃ g fr, s = some ⟨g, 0, none⟩ ∧ base ≤ g ∧ w.heap[g]? = some (.cells (flatU d).toArray B fr)
def RowW (B : TypeId) (w : World) (base : Nat) (s : Option Addr) (n c : Nat) (d : List UInt8) : Prop := OwnU B w base s n c d ∨ FullU B w base s n c d
theorem RowW.len {B : TypeId} {w : World} {base n c : Nat} {s : Option Addr} {d : List UInt8} (h : RowW B w base s n c d) : d.length = n := h.elim (fun h => h.1) (fun h => h.1)
theorem cell_of_row' (w : World) (g j : Nat) (cs : Array Value) (t : TypeId) (fr : Nat × Nat) (hg : w.heap[g]? = some (.cells cs t fr)) : w.cell? ⟨g, j, none⟩ = cs[j]? := by
  obtain ⟨a, b⟩ := fr
  simp [World.cell?, hg]
theorem RowW.block {B : TypeId} {w : World} {base n c : Nat} {s : Option Addr} {d : List UInt8} (h : RowW B w base s n c d) : ∀ a, s = some a → ∃ cs fr, w.heap[a.block]? = some (.cells cs B fr) := by
  intro a ha
  rcases h with h | ⟨h1, h2, g, fr, h3, h4, h5⟩
  · obtain ⟨cs, hc⟩ := h.block a ha
    exact ⟨cs, _, hc⟩
  · rw [ha] at h3
    cases h3
    exact ⟨_, fr, h5⟩
theorem RowW.lt {B : TypeId} {w : World} {base n c : Nat} {s : Option Addr} {d : List UInt8} (h : RowW B w base s n c d) : ∀ a, s = some a → a.block < w.heap.size := by
  intro a ha
  obtain ⟨cs, fr, hc⟩ := h.block a ha
  exact (Array.getElem?_eq_some_iff.1 hc).1
theorem RowW.keep {B : TypeId} {w w' : World} {base n c : Nat} {s : Option Addr} {d : List UInt8} (h : RowW B w base s n c d) (hk : ∀ a, s = some a → w'.heap[a.block]? = w.heap[a.block]?) : RowW B w' base s n c d := by
  rcases h with h | ⟨h1, h2, g, fr, h3, h4, h5⟩
  · exact .inl (h.keep hk)
  · exact .inr ⟨h1, h2, g, fr, h3, h4, (hk _ h3).trans h5⟩
theorem RowW.later {B : TypeId} {w w' : World} {base n c : Nat} {s : Option Addr} {d : List UInt8} (h : RowW B w base s n c d) (hg : Grow w w') : RowW B w' base s n c d :=
  h.keep fun a ha => hg.block _ (h.lt a ha)
theorem RowW.is {B : TypeId} {w : World} {base n c : Nat} {s : Option Addr} {d : List UInt8} (h : RowW B w base s n c d) : IsBy w s n c d := by
  rcases h with h | ⟨h1, h2, g, fr, h3, h4, h5⟩
  · exact h.is
  · refine ⟨h1, by omega, .inr ⟨g, 0, h3, fun j v hj => ?_⟩⟩
    rw [Nat.zero_add, cell_of_row' w g j _ _ _ h5]
    simpa using hj
theorem Cel.keep {w w' : World} {b : Nat} {T : TypeId} {s : Option Addr} {n c : Nat} {u : Bool} (hk : w'.heap[b]? = w.heap[b]?) (h : Cel w b T s n c u) : Cel w' b T s n c u := hk.trans h
theorem RowW.off {B T : TypeId} {w : World} {base n cap b k c : Nat} {u : Bool} {s s' : Option Addr} {d : List UInt8} (hne : B ≠ T) (h : RowW B w base s n cap d) (hC : Cel w b T s' k c u) : ∀ a, s = some a → a.block ≠ b := by
  intro a ha e
  obtain ⟨cs, fr, hc⟩ := h.block a ha
  unfold Cel at hC
  rw [e, hC] at hc
  simp only [Option.some.injEq, Obj.cells.injEq] at hc
  exact hne hc.2.1.symm
theorem RowW.by' {B T : TypeId} {w w' : World} {base n cap b k c : Nat} {u : Bool} {s s' : Option Addr} {d : List UInt8} (hne : B ≠ T) (h : RowW B w base s n cap d) (hC : Cel w b T s' k c u) (hg : w.grownBy w' (some b)) : RowW B w' base s n cap d :=
  h.keep fun a ha => hg.block _ (h.lt a ha) fun e => h.off hne hC a ha (Option.some.inj e)
/-- What may have turned behind an append. -/
structure Appd (B : TypeId) (base : Nat) (w w2 : World) : Prop where
  turn : ∀ X : TypeId → Bool, X B = true → Turn X w w2
  by' : ∃ r, w.grownBy w2 r ∧ ∀ k, r = some k → base ≤ k ∧ ∃ cs, w.heap[k]? = some (.cells cs B (0, 0))
theorem Appd.grow {B : TypeId} {base : Nat} {W w w2 : World} (h : Appd B base w w2) (hg : Grow W w) (hb : W.heap.size ≤ base) : Grow W w2 := by
  obtain ⟨r, h1, h2⟩ := h.by'
  exact Below.grown hg h1 hg.size fun k e => Nat.le_trans hb (h2 k e).1
theorem Appd.cel {B T : TypeId} {base : Nat} {w w2 : World} {b k c : Nat} {u : Bool} {s : Option Addr} (h : Appd B base w w2) (hne : B ≠ T) (hC : Cel w b T s k c u) : Cel w2 b T s k c u := by
  obtain ⟨r, h1, h2⟩ := h.by'
  refine hC.keep (h1.block b hC.lt fun e => ?_)
  obtain ⟨_, cs, hc⟩ := h2 b e.symm
  unfold Cel at hC
  rw [hC] at hc
  simp only [Option.some.injEq, Obj.cells.injEq] at hc
  exact hne hc.2.1.symm
theorem Appd.of_grow {B : TypeId} {base : Nat} {w w2 : World} (h : Grow w w2) : Appd B base w w2 :=
  ⟨fun X _ => Turn.of_grow h, none, ⟨h.os, h.tape, h.output, h.size, fun k hk _ => h.block k hk⟩, fun k e => by cases e⟩
theorem run_ap_row {T B : TypeId} (hT : ByT T B) (w : World) (rt : TypeId) (base : Nat) (s : Option Addr) (n cap : Nat) (d e : List UInt8) (hown : RowW B w base s n cap d) (s' : Option Addr) (m c : Nat) (he : IsBy w s' m c e) (hm : 0 < m) (hlen : n + m ≤ 1000000) (hbase : base ≤ w.heap.size) :
    ∃ s2 c2 w2, (Builtin.append_ #[T, T] rt #[.slice s n cap, .slice s' m c]).run Tryz.prog w = .ok (.slice s2 (n + m) c2) w2
      ∧ OwnU B w2 base s2 (n + m) c2 (d ++ e) ∧ Appd B base w w2 := by
  rcases hown with hO | ⟨h1, h2, g, fr, rfl, h4, h5⟩
  · obtain ⟨s2, c2, w2, e1, e2, e3, _⟩ := run_ap_by hT w rt base s n cap d e hO s' m c he hlen hbase
    refine ⟨s2, c2, w2, e1, e2, ⟨fun X hX => ⟨e3.size, fun k hk => ?_⟩, s.map (·.block), e3, fun k hk => ?_⟩⟩
    · cases s with
      | none => exact .inl (e3.block k hk (by simp))
      | some a =>
        by_cases e : k = a.block
        · obtain ⟨cs, hc⟩ := hO.block a rfl
          exact .inr ⟨cs, B, by rw [e]; exact hc, hX⟩
        · exact .inl (e3.block k hk (by simp; exact e))
    · cases s with
      | none => cases hk
      | some a =>
        cases hk
        exact ⟨(hO.lt a rfl).2, hO.block a rfl⟩
  · subst h2
    obtain ⟨i, hi, hz, hsz, hby⟩ := hT.info
    have hne : e ≠ [] := fun h => by have := he.1; rw [h] at this; simp at this; omega
    obtain ⟨b', o', rfl, hr⟩ := he.2.2.resolve_left hne
    have h6 := run_append_grow (P := Tryz.prog) w T rt B i _ hT.row hi hz ⟨g, 0, none⟩ cap cap (flatU d) (by rw [flatU_len, h1, hsz, Nat.mul_one]) (fun j v hj => by rw [addr_add, Nat.zero_add, cell_of_row' w g j _ _ _ h5]; simpa using hj) ⟨b', o', none⟩ m c (flatU e) (by rw [flatU_len, he.1, hsz, Nat.mul_one]) (fun j v hj => by rw [addr_add]; exact hr j v hj) (by omega) (by omega) (growslice_fits (by omega) (by rw [hby]; omega))
    refine ⟨_, _, _, h6, ⟨by rw [List.length_append, h1, he.1], ⟨by rw [flatU_len, List.length_append, h1, he.1]; omega, .inr ⟨w.heap.size, _, _, rfl, hbase, (MapKept.heap_alloc w.drew _).1, ?_, ?_, ?_, ?_⟩⟩, fun h => by cases h⟩, Appd.of_grow (grow_drewAlloc _ _)⟩
    · exact grownCap_ge w (cap + m) cap B
    · exact grownCap_le_maxLen w (cap + m) cap B (by simp [maxLen]; omega)
    · have := grownCap_ge w (cap + m) cap B
      have hz1 : (Value.int .u8 0).cells.size = 1 := rfl
      simp only [Array.size_append, List.size_toArray, size_zeroCells, hz1, flatU_len, h1, he.1]
      omega
    · have hl : (cap + m) * 1 = (flatU d ++ flatU e).length := by rw [List.length_append, flatU_len, flatU_len, h1, he.1, Nat.mul_one]
      simp only [Array.toList_append, List.append_assoc]
      rw [← List.append_assoc, hl, List.take_left, flatU_append]
theorem wpList_apd_row {T B : TypeId} (hT : ByT T B) {w : World} {ops : Array Oper} {rest : List Oper} {o : Oper} {a : Act} {Q : Exit → Act → World → Prop} (hgd : o.guard = none) (s x : Operand)
    (ho : o.op = .call { callee := .builtin .append, args := #[s, x], argTypes := #[T, T] })
    (base : Nat) (s0 : Option Addr) (n cap : Nat) (d e : List UInt8) (hs : a.eval s = .slice s0 n cap) (hown : RowW B w base s0 n cap d)
    (s' : Option Addr) (m c : Nat) (hx : a.eval x = .slice s' m c) (he : IsBy w s' m c e) (hm : 0 < m) (hlen : n + m ≤ 1000000) (hbase : base ≤ w.heap.size)
    (h : ∀ s2 c2 w2, OwnU B w2 base s2 (n + m) c2 (d ++ e) → Appd B base w w2 → wpList Tryz.prog ops Q rest (a.put o.dst (.slice s2 (n + m) c2)) w2) :
    wpList Tryz.prog ops Q (o :: rest) a w := by
  obtain ⟨s2, c2, w2, h0, h1, h2⟩ := run_ap_row hT w o.type base s0 n cap d e hown s' m c he hm hlen hbase
  refine wpList_plain hgd fun K hK => ?_
  unfold Oper.wp execOp
  simp only [ho, resolve, invoke, builtin, Sem.run_bind, Sem.run_pure, Result.andThen_ok, List.map_toArray, List.map_cons, List.map_nil, hs, hx, h0]
  exact hK _ _ (h s2 c2 w2 h1 h2)
end Go.Proofs.YtjebipagehhkjaaGreat
