/-
  A graph under way: it lies in a block of the call's own, its rows are the call's own; rows made longer and stored into it.
-/
import Derived.Test.YtjebipagehhkjaaGreatGBk
import Derived.Test.YtjebipagehhkjaaGreatVRw
namespace Go.Proofs.YtjebipagehhkjaaGreat
set_option maxRecDepth 100000
open Go.RowKit Go.Sort
set_option linter.unusedVariables false
set_option linter.unusedSimpArgs false

/-- A graph under way. -/
structure MkG (w : World) (base b : Nat) (s : Option Addr) (n c : Nat) (t : Option Addr) (m q : Nat) (N : List Nd) (E : List Ed) : Prop where
  box : BoxG w b ⟨s, n, c, t, m, q, [], []⟩
  blk : BlkG w b
  rn : OwnN w base s n c N
  re : OwnE w base t m q E
  d1 : ∀ a, s = some a → a.block ≠ b
  d2 : ∀ a, t = some a → a.block ≠ b
  d3 : ∀ a a', s = some a → t = some a' → a.block ≠ a'.block
  bb : base ≤ b
theorem BlkG.keep {w w' : World} {b : Nat} (h : BlkG w b) (hk : w'.heap[b]? = w.heap[b]?) : BlkG w' b := by
  obtain ⟨cs, h, k⟩ := h
  exact ⟨cs, hk.trans h, k⟩
theorem BoxG.keep {w w' : World} {b : Nat} {g : GA} (h : BoxG w b g) (hk : w'.heap[b]? = w.heap[b]?) : BoxG w' b g :=
  ⟨(cell_of_heap hk 0).trans h.1, (cell_of_heap hk 1).trans h.2⟩
theorem MkG.later {w w' : World} {base b : Nat} {s : Option Addr} {n c : Nat} {t : Option Addr} {m q : Nat} {N : List Nd} {E : List Ed} (h : MkG w base b s n c t m q N E) (hg : Grow w w') : MkG w' base b s n c t m q N E :=
  ⟨h.box.later hg, h.blk.later hg, h.rn.later hg, h.re.later hg, h.d1, h.d2, h.d3, h.bb⟩
/-- A row made longer, then stored. -/
theorem MkG.setN {w w2 w3 : World} {base b : Nat} {s : Option Addr} {n c : Nat} {t : Option Addr} {m q : Nat} {N : List Nd} {E : List Ed} {s2 : Option Addr} {n2 c2 : Nat} {N2 : List Nd}
    (h : MkG w base b s n c t m q N E) (hg : GrewBut w w2 base s) (hO : OwnN w2 base s2 n2 c2 N2) {w0 : World} (h0 : MkG w0 base b s n c t m q N E) (hl : Lies s s2 w0.heap.size)
    (hbox : BoxG w3 b ⟨s2, n2, c2, t, m, q, [], []⟩) (hblk : BlkG w3 b) (hk : ∀ k, k ≠ b → w3.heap[k]? = w2.heap[k]?) : MkG w3 base b s2 n2 c2 t m q N2 E := by
  have hbl := h0.blk.lt
  have d1 : ∀ a, s2 = some a → a.block ≠ b := fun a ha => by
    rcases hl a ha with h1 | h1
    · cases s with
      | none => simp at h1
      | some a0 => simp at h1; rw [← h1]; exact h.d1 a0 rfl
    · omega
  have d3 : ∀ a a', s2 = some a → t = some a' → a.block ≠ a'.block := fun a a' ha ha' => by
    rcases hl a ha with h1 | h1
    · cases s with
      | none => simp at h1
      | some a0 => simp at h1; rw [← h1]; exact h.d3 a0 a' rfl ha'
    · have := (h0.re.lt a' ha').1
      omega
  refine ⟨hbox, hblk, hO.keep fun a ha => hk _ (d1 a ha), h.re.keep fun a ha => ?_, d1, h.d2, d3, h.bb⟩
  rw [hk _ (h.d2 a ha)]
  refine hg.grown.block _ (h.re.lt a ha).1 ?_
  cases s with
  | none => simp
  | some a0 =>
    have := h.d3 a0 a rfl ha
    simp
    exact fun e => this e.symm
theorem MkG.setE {w w2 w3 : World} {base b : Nat} {s : Option Addr} {n c : Nat} {t : Option Addr} {m q : Nat} {N : List Nd} {E : List Ed} {s2 : Option Addr} {n2 c2 : Nat} {E2 : List Ed}
    (h : MkG w base b s n c t m q N E) (hg : GrewBut w w2 base t) (hO : OwnE w2 base s2 n2 c2 E2) {w0 : World} (h0 : MkG w0 base b s n c t m q N E) (hl : Lies t s2 w0.heap.size)
    (hbox : BoxG w3 b ⟨s, n, c, s2, n2, c2, [], []⟩) (hblk : BlkG w3 b) (hk : ∀ k, k ≠ b → w3.heap[k]? = w2.heap[k]?) : MkG w3 base b s n c s2 n2 c2 N E2 := by
  have hbl := h0.blk.lt
  have d1 : ∀ a, s2 = some a → a.block ≠ b := fun a ha => by
    rcases hl a ha with h1 | h1
    · cases t with
      | none => simp at h1
      | some a0 => simp at h1; rw [← h1]; exact h.d2 a0 rfl
    · omega
  have d3 : ∀ a a', s = some a → s2 = some a' → a.block ≠ a'.block := fun a a' ha ha' => by
    rcases hl a' ha' with h1 | h1
    · cases t with
      | none => simp at h1
      | some a0 => simp at h1; rw [← h1]; exact h.d3 a a0 ha rfl
    · have := (h0.rn.lt a ha).1
      omega
  refine ⟨hbox, hblk, h.rn.keep fun a ha => ?_, hO.keep fun a ha => hk _ (d1 a ha), h.d1, d1, d3, h.bb⟩
  rw [hk _ (h.d1 a ha)]
  refine hg.grown.block _ (h.rn.lt a ha).1 ?_
  cases t with
  | none => simp
  | some a0 =>
    have := h.d3 a a0 ha rfl
    simp
    exact fun e => this e
/-- The block and the box still stand behind a row's turn. -/
theorem MkG.boxN {w w2 : World} {base b : Nat} {s : Option Addr} {n c : Nat} {t : Option Addr} {m q : Nat} {N : List Nd} {E : List Ed} (h : MkG w base b s n c t m q N E) (hg : GrewBut w w2 base s) : BoxG w2 b ⟨s, n, c, t, m, q, [], []⟩ ∧ BlkG w2 b := by
  have hk : w2.heap[b]? = w.heap[b]? := by
    refine hg.grown.block _ h.blk.lt ?_
    cases s with
    | none => simp
    | some a0 =>
      have := h.d1 a0 rfl
      simp
      exact fun e => this e.symm
  exact ⟨h.box.keep hk, h.blk.keep hk⟩
theorem MkG.boxE {w w2 : World} {base b : Nat} {s : Option Addr} {n c : Nat} {t : Option Addr} {m q : Nat} {N : List Nd} {E : List Ed} (h : MkG w base b s n c t m q N E) (hg : GrewBut w w2 base t) : BoxG w2 b ⟨s, n, c, t, m, q, [], []⟩ ∧ BlkG w2 b := by
  have hk : w2.heap[b]? = w.heap[b]? := by
    refine hg.grown.block _ h.blk.lt ?_
    cases t with
    | none => simp
    | some a0 =>
      have := h.d2 a0 rfl
      simp
      exact fun e => this e.symm
  exact ⟨h.box.keep hk, h.blk.keep hk⟩
/-- A whole node stored; the block stays one. -/
theorem wpList_putN2 {ops : Array Oper} {rest : List Oper} {o : Oper} {a : Act} {w : World} {Q : Exit → Act → World → Prop} (hgd : o.guard = none) (x y : Operand) (ho : o.op = .store 37 x y) (b : Nat) (t : Nd)
    (hx : a.eval x = .pointer (some ⟨b, 0, none⟩)) (hy : a.eval y = .agg #[.int .i64 t.k, .int .i64 t.a, .int .i64 t.b, .int .i64 t.d]) (hb : BlkN w b) (W : World) (hg : Grow W w) (hW : W.heap.size ≤ b) (h : ∀ w2, Grow W w2 → BoxN w2 b t → BlkN w2 b → wpList Tryz.prog ops Q rest (a.put o.dst undef) w2) : wpList Tryz.prog ops Q (o :: rest) a w := by
  have hb' := hb
  obtain ⟨cs, hb1, hs⟩ := hb
  exact wpList_storeN hgd x y ho b t hx hy hb' (h _ (below_setRow hg hW _) (hb'.box t) ⟨_, setRow_heap w b cs _ _ _ hb1, rfl⟩)
theorem isNds_one (w : World) (x : Nd) : IsNds (w.alloc (.cells #[.int .i64 x.k, .int .i64 x.a, .int .i64 x.b, .int .i64 x.d] 37)) (some ⟨w.heap.size, 0, none⟩) 1 1 [x] := ⟨rfl, Nat.le_refl _, .inr ⟨_, _, rfl, RowN_one w x⟩⟩
theorem isEds_one (w : World) (x : Ed) : IsEds (w.alloc (.cells #[.int .i64 x.f, .int .i64 x.t, .int .i64 x.p] 39)) (some ⟨w.heap.size, 0, none⟩) 1 1 [x] := ⟨rfl, Nat.le_refl _, .inr ⟨_, _, rfl, RowE_one w x⟩⟩

end Go.Proofs.YtjebipagehhkjaaGreat
