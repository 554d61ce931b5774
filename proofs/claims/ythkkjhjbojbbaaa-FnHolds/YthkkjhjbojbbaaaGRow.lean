/-
  Rows of records and of numbers: their cells one behind the other, where they lie, those that a call has made by append, nil ones too; l[:k] and l[k:]; how records that come in as arguments are opened.
-/
import Derived.Test.YthkkjhjbojbbaaaGPl
import Derived.Test.YthkkjhjbojbbaaaInv
import Derived.ProofKit
import Derived.OpenShut
import Derived.ShutString
import Derived.ChangeOld
import Derived.Below
import Derived.Deep.Strs
import Derived.Maps.AppendAt
import Derived.Laws.OwnMore
import Derived.Deep.Slices
namespace Go.Proofs.Ythkkjhjbojbbaaa
set_option maxRecDepth 100000
open Go.ChangeShapes Go.WideShapes Go.ChangeAt Go.RowKit Go.Deep
set_option linter.unusedVariables false

theorem own : ownKnob Try.prog.godebug = none := by kernel_rfl
theorem laidOut : laidOutB Try.prog = true := by kernel_rfl
theorem Grow.alloc' (w : World) (o : Obj) : Grow w (w.alloc o) := (Below.refl _ _).alloc (Nat.le_refl _) _
theorem addr_add (b o j : Nat) : (Addr.mk b o none).add j = ⟨b, o + j, none⟩ := by cases j <;> rfl
theorem grow_app {W0 wq w2 : World} {g : Nat} (h : Grow W0 wq) (gb : wq.grownBy w2 (some g)) (hg : W0.heap.size ≤ g) : Grow W0 w2 :=
  Below.grown h gb h.size (fun k e => by cases e; exact hg)
theorem ret_slice {a : Option Addr} {m n c : Nat} (h : m = n) : Ending.returned (.slice a m c) = .returned (.slice a n c) := by rw [h]
/-- A record lies in a block. -/
def Box (w : World) (b : Nat) (t : Rc) : Prop := w.cell? ⟨b, 0, none⟩ = some (.int .i64 t.k) ∧ w.cell? ⟨b, 1, none⟩ = some (.int .i64 t.v)
theorem Box.later {w w' : World} {b : Nat} {t : Rc} (hg : Grow w w') (h : Box w b t) : Box w' b t := ⟨cell_later hg h.1, cell_later hg h.2⟩
theorem Box.new (w : World) (t : Rc) : Box (w.alloc (.cells #[.int .i64 t.k, .int .i64 t.v] 23)) w.heap.size t := by simp [Box, go_sem]
theorem Box.lt {w : World} {b : Nat} {t : Rc} (h : Box w b t) : b < w.heap.size := World.block_lt_of_cell? _ _ h.1
def RcWf (t : Rc) : Prop := (Lit.int .i64 t.k).wf = true ∧ (Lit.int .i64 t.v).wf = true
theorem open_rc {H : Type} {enc : TypeId × Value → H} {W : World} {r : Reach} {b0 : Nat} {v : Value} {d : DataW H} {p : List MemPlace} {base : Nat} {spare : Nat → Bool} {held : Bool}
    (hv : Value.okWide Try.prog W r b0 23 v) (h : DataW.Trod enc Try.prog W base spare held 23 v d p) : ∃ t : Rc, v = .agg #[.int .i64 t.k, .int .i64 t.v] ∧ RcWf t := by
  obtain ⟨cs, rfl, hsz⟩ := okWide_struct Try.underlying23 hv
  have hC : Try.prog.cellsOf 23 = 2 := by kernel_rfl
  have hC3 : Try.prog.cellsOf 3 = 1 := by kernel_rfl
  rw [hC] at hsz
  obtain ⟨l⟩ := cs
  match l, hsz with
  | [c0, c1], _ =>
    obtain ⟨fuel, hf⟩ := h
    obtain ⟨y0, y1, n, hx, _, h0, h1⟩ := trod_struct2 Try.underlying23 hf
    simp only [Value.cells] at h0 h1
    simp [hC3] at h0 h1
    obtain ⟨e, e0, _, we⟩ := DataW.trod_int Try.underlying3 h0
    obtain ⟨d', e1, _, wd⟩ := DataW.trod_int Try.underlying3 h1
    simp at e0 e1
    subst e0 e1
    exact ⟨⟨e, d'⟩, rfl, we, wd⟩
def encR (t : Rc) : List Value := [.int .i64 t.k, .int .i64 t.v]
theorem rc_cells {H : Type} {enc : TypeId × Value → H} {W : World} {base : Nat} {spare : Nat → Bool} {held : Bool} {fuel : Nat} {cs : List Value} {y : DataW H × List MemPlace}
    (hf : DataW.trod enc Try.prog W base spare held fuel 23 cs = some y) : ∃ t : Rc, cs = encR t ∧ RcWf t := by
  have hC : Try.prog.cellsOf 23 = 2 := by kernel_rfl
  have hC3 : Try.prog.cellsOf 3 = 1 := by kernel_rfl
  obtain ⟨y0, y1, n, hx, hlen, h0, h1⟩ := trod_struct2 Try.underlying23 hf
  rw [hC] at hlen
  match cs, hlen with
  | [c0, c1], _ =>
    simp [hC3] at h0 h1
    obtain ⟨e, e0, _, we⟩ := DataW.trod_int Try.underlying3 h0
    obtain ⟨d', e1, _, wd⟩ := DataW.trod_int Try.underlying3 h1
    simp at e0 e1
    subst e0 e1
    exact ⟨⟨e, d'⟩, rfl, we, wd⟩

theorem encR_len (t : Rc) : (encR t).length = 2 := rfl
/-- The cells of a row. -/
def flatR (d : List Rc) : List Value := d.flatMap encR
theorem flatR_nil : flatR [] = [] := rfl
theorem flatR_cons (t : Rc) (d : List Rc) : flatR (t :: d) = encR t ++ flatR d := rfl
theorem flatR_append (d e : List Rc) : flatR (d ++ e) = flatR d ++ flatR e := by simp [flatR]
theorem flatR_len : ∀ d : List Rc, (flatR d).length = d.length * 2
  | [] => rfl
  | t :: d => by rw [flatR_cons, List.length_append, flatR_len d, encR_len, List.length_cons]; omega
theorem flatR_drop : ∀ (d : List Rc) (j : Nat), (flatR d).drop (j * 2) = flatR (d.drop j)
  | [], j => by simp [flatR]
  | t :: d, 0 => by simp
  | t :: d, j + 1 => by
    rw [flatR_cons, show (j + 1) * 2 = (encR t).length + j * 2 by rw [encR_len]; omega, List.drop_append, List.drop_of_length_le (by omega)]
    simpa using flatR_drop d j
theorem flatR_take : ∀ (d : List Rc) (j : Nat), (flatR d).take (j * 2) = flatR (d.take j)
  | [], j => by simp [flatR]
  | t :: d, 0 => by simp [flatR]
  | t :: d, j + 1 => by
    rw [flatR_cons, show (j + 1) * 2 = (encR t).length + j * 2 by rw [encR_len]; omega, List.take_length_add_append, flatR_take d j]
    rfl
theorem flatR_get (d : List Rc) (j i : Nat) (hj : j < d.length) (hi : i < 2) : (flatR d)[j * 2 + i]? = (encR d[j])[i]? := by
  rw [← List.getElem?_drop, flatR_drop, List.drop_eq_getElem_cons hj, flatR_cons, List.getElem?_append_left (by rw [encR_len]; exact hi)]
theorem oneCell_encR (x : Rc) : ∀ v ∈ encR x, v.oneCell' = true := by
  intro v hv
  simp [encR] at hv
  rcases hv with rfl | rfl <;> rfl
theorem oneCell_flatR (d : List Rc) : ∀ v ∈ flatR d, v.oneCell' = true := by
  intro v hv
  obtain ⟨x, _, hx⟩ := List.mem_flatMap.1 hv
  exact oneCell_encR x v hx

/-- A row lies in a block. -/
def RowR (w : World) (b o : Nat) (d : List Rc) : Prop := ∀ (j : Nat) v, (flatR d)[j]? = some v → w.cell? ⟨b, o + j, none⟩ = some v
theorem RowR.later {w w' : World} {b o : Nat} {d : List Rc} (hg : Grow w w') (h : RowR w b o d) : RowR w' b o d := fun j v hj => cell_later hg (h j v hj)
theorem RowR.at {w : World} {b o : Nat} {d : List Rc} (h : RowR w b o d) (j : Nat) (hj : j < d.length) :
    w.cell? ⟨b, o + j * 2, none⟩ = some (.int .i64 d[j].k) ∧ w.cell? ⟨b, o + j * 2 + 1, none⟩ = some (.int .i64 d[j].v) := by
  have k (i : Nat) (hi : i < 2) (v : Value) (hv : (encR d[j])[i]? = some v) : w.cell? ⟨b, o + (j * 2 + i), none⟩ = some v := h _ v (by rw [flatR_get d j i hj hi]; exact hv)
  exact ⟨k 0 (by omega) _ rfl, k 1 (by omega) _ rfl⟩
theorem RowR.drop' {w : World} {b o : Nat} {d : List Rc} (h : RowR w b o d) (k : Nat) : RowR w b (o + k * 2) (d.drop k) := by
  intro j v hj
  rw [← flatR_drop, List.getElem?_drop] at hj
  rw [Nat.add_assoc]; exact h _ v hj
theorem RowR.take' {w : World} {b o : Nat} {d : List Rc} (h : RowR w b o d) (k : Nat) : RowR w b o (d.take k) := by
  intro j v hj
  rw [← flatR_take] at hj
  refine h j v ?_
  rw [List.getElem?_take] at hj
  split at hj
  · exact hj
  · cases hj
theorem RowR_one (w : World) (t : Rc) : RowR (w.alloc (.cells #[.int .i64 t.k, .int .i64 t.v] 23)) w.heap.size 0 [t] := by
  intro j v hj
  have hj' : j < 2 := by
    have := (List.getElem?_eq_some_iff.1 hj).1
    rw [flatR_len] at this
    simpa using this
  have e : flatR [t] = encR t := by simp [flatR]
  rw [e] at hj
  have : j = 0 ∨ j = 1 := by omega
  rcases this with rfl | rfl <;> simp [encR] at hj <;> subst hj <;> simp [go_sem]
theorem RowR_of {w : World} {b o : Nat} (f : Nat → Rc) (n : Nat) (h : ∀ i, i < n → ∀ j : Nat, j < 2 → w.cell? ⟨b, o + (i * 2 + j), none⟩ = (encR (f i))[j]?) : RowR w b o ((List.range n).map f) := by
  intro k v hk
  have hk' : k < n * 2 := by
    have := (List.getElem?_eq_some_iff.1 hk).1
    rw [flatR_len] at this
    simpa using this
  have e : k = k / 2 * 2 + k % 2 := by omega
  have h1 := flatR_get ((List.range n).map f) (k / 2) (k % 2) (by simp; omega) (by omega)
  rw [← e, hk] at h1
  have h2 := h (k / 2) (by omega) (k % 2) (by omega)
  rw [← e] at h2
  rw [h2, h1]
  simp

/-- The call owns a row, in block g. -/
def OwnR (w : World) (base g cap : Nat) (d : List Rc) : Prop := w.ownsRow base 23 2 (.slice (some ⟨g, 0, none⟩) d.length cap) d.length (flatR d)
theorem OwnR.parts {w : World} {base g cap : Nat} {d : List Rc} (h : OwnR w base g cap d) :
    ∃ cur, base ≤ g ∧ w.heap[g]? = some (.cells cur 23 (0, 0)) ∧ d.length ≤ cap ∧ cap ≤ maxLen ∧ cur.size = cap * 2 ∧ cur.toList.take (d.length * 2) = flatR d := by
  rcases h.2 with ⟨h', _⟩ | ⟨g', cap', cur, h', hb, hg, h1, h2, h3, h4⟩
  · simp at h'
  · simp only [Value.slice.injEq, Option.some.injEq, Addr.mk.injEq, and_true, true_and] at h'
    obtain ⟨rfl, rfl⟩ := h'
    exact ⟨cur, hb, hg, h1, h2, h3, h4⟩
theorem OwnR.mk' {w : World} {base g cap : Nat} {d : List Rc} {cur : Array Value} (hb : base ≤ g) (hg : w.heap[g]? = some (.cells cur 23 (0, 0))) (h1 : d.length ≤ cap) (h2 : cap ≤ maxLen) (h3 : cur.size = cap * 2) (h4 : cur.toList.take (d.length * 2) = flatR d) : OwnR w base g cap d :=
  ⟨flatR_len d, .inr ⟨g, cap, cur, rfl, hb, hg, h1, h2, h3, h4⟩⟩
theorem OwnR.lt {w : World} {base g cap : Nat} {d : List Rc} (h : OwnR w base g cap d) : g < w.heap.size := by
  obtain ⟨cur, _, hg, _⟩ := h.parts
  exact (Array.getElem?_eq_some_iff.1 hg).1
theorem OwnR.le {w : World} {base g cap : Nat} {d : List Rc} (h : OwnR w base g cap d) : base ≤ g ∧ d.length ≤ cap ∧ cap ≤ maxLen := by
  obtain ⟨cur, hb, _, h1, h2, _⟩ := h.parts
  exact ⟨hb, h1, h2⟩
theorem OwnR.row {w : World} {base g cap : Nat} {d : List Rc} (h : OwnR w base g cap d) : RowR w g 0 d := by
  intro j v hj
  have hj' : j < d.length * 2 := by rw [← flatR_len]; exact (List.getElem?_eq_some_iff.1 hj).1
  have := World.ownsRow.cellAt h j hj'
  rw [Nat.zero_add, this]; exact hj
theorem OwnR.keep {w w' : World} {base g cap : Nat} {d : List Rc} (h : OwnR w base g cap d) (he : w'.heap[g]? = w.heap[g]?) : OwnR w' base g cap d := by
  obtain ⟨cur, hb, hg, h1, h2, h3, h4⟩ := h.parts
  exact OwnR.mk' hb (he.trans hg) h1 h2 h3 h4
theorem OwnR.later {w w' : World} {base g cap : Nat} {d : List Rc} (h : OwnR w base g cap d) (hg : Grow w w') : OwnR w' base g cap d := h.keep (hg.block g h.lt)
theorem OwnR.rebase {w : World} {base base' g cap : Nat} {d : List Rc} (h : OwnR w base g cap d) (hb : base' ≤ g) : OwnR w base' g cap d := by
  obtain ⟨cur, _, hg, h1, h2, h3, h4⟩ := h.parts
  exact OwnR.mk' hb hg h1 h2 h3 h4
theorem OwnR.lit0 (w : World) (base : Nat) (hb : base ≤ w.heap.size) : OwnR (w.alloc (.cells #[] 23)) base w.heap.size 0 [] :=
  OwnR.mk' hb (MapKept.heap_alloc w _).1 (Nat.le_refl _) (by simp [maxLen]) rfl rfl
theorem info_rc : ∃ i, Try.prog.info? 23 = some i ∧ i.zero = some (.agg #[.int .i64 0, .int .i64 0]) ∧ i.size = 2 ∧ i.bytes = 16 := by
  cases hi : Try.prog.info? 23 with
  | none =>
    have : (Try.prog.info? 23).isSome = true := by kernel_rfl
    rw [hi] at this; cases this
  | some i =>
    have hz : (Try.prog.info? 23).map (·.zero) = some (some (.agg #[.int .i64 0, .int .i64 0])) := by kernel_rfl
    have hs : (Try.prog.info? 23).map (·.size) = some 2 := by kernel_rfl
    have hb : (Try.prog.info? 23).map (·.bytes) = some 16 := by kernel_rfl
    rw [hi] at hz hs hb
    simp only [Option.map_some, Option.some.injEq] at hz hs hb
    exact ⟨i, rfl, hz, hs, hb⟩
/-- A slice that came in. -/
def IsRcs (w : World) (s : Option Addr) (n cap : Nat) (d : List Rc) : Prop :=
  d.length = n ∧ n ≤ cap ∧ (d = [] ∨ ∃ b o, s = some ⟨b, o, none⟩ ∧ RowR w b o d)
theorem IsRcs.later {w w' : World} {s : Option Addr} {n cap : Nat} {d : List Rc} (hg : Grow w w') (h : IsRcs w s n cap d) : IsRcs w' s n cap d :=
  ⟨h.1, h.2.1, h.2.2.imp id fun ⟨b, o, e, r⟩ => ⟨b, o, e, r.later hg⟩⟩
/-- The first k of them. -/
theorem IsRcs.take' {w : World} {s : Option Addr} {n cap : Nat} {d : List Rc} (h : IsRcs w s n cap d) (k : Nat) (hk : k ≤ n) : IsRcs w s k cap (d.take k) :=
  ⟨by rw [List.length_take, h.1]; omega, by have := h.2.1; omega, h.2.2.imp (fun e => by rw [e]; simp) fun ⟨b, o, e, r⟩ => ⟨b, o, e, r.take' k⟩⟩
/-- append(x, y...) on a row that the call owns. -/
theorem wpList_app_rc {w : World} {ops : Array Oper} {rest : List Oper} {o : Oper} {a : Act} {Q : Exit → Act → World → Prop} (hgd : o.guard = none) (s x : Operand)
    (ho : o.op = .call { callee := .builtin .append, args := #[s, x], argTypes := #[30, 30] })
    (base g cap : Nat) (d e : List Rc) (n : Nat) (hn : n = d.length) (hs : a.eval s = .slice (some ⟨g, 0, none⟩) n cap) (hown : OwnR w base g cap d)
    (b off m c : Nat) (hx : a.eval x = .slice (some ⟨b, off, none⟩) m c) (hm : e.length = m) (hsrc : RowR w b off e) (hlen : d.length + m ≤ 1000000) (hbase : base ≤ w.heap.size)
    (h : ∀ g' cap' w', OwnR w' base g' cap' (d ++ e) → w.grownBy w' (some g) → (g' = g ∨ g' = w.heap.size) → wpList Try.prog ops Q rest (a.put o.dst (.slice (some ⟨g', 0, none⟩) (n + m) cap')) w') :
    wpList Try.prog ops Q (o :: rest) a w := by
  obtain ⟨i, hi, hz, hsz, hby⟩ := info_rc
  subst hn
  refine wpList_append_own_at w hgd s x 30 ho base 23 i _ 2 16 Try.underlying30 hi hz hsz hby rfl (by omega) _ d.length (flatR d) hs hown ⟨b, off, none⟩ m c (flatR e) hx (by rw [flatR_len, hm]) (fun j u hj => by rw [addr_add]; exact hsrc j u hj) (oneCell_flatR e) (by simp [maxLen]; omega) (by omega) hbase ?_
  intro v' w' h1 h2 h3 h4
  have hl : (d ++ e).length = d.length + m := by rw [List.length_append, hm]
  rcases h1.2 with ⟨h', _⟩ | ⟨g', cap', cur, h', hb, hg, k1, k2, k3, k4⟩
  · have := (h3.1 h').1
    simp at this
  · subst h'
    refine h g' cap' w' (OwnR.mk' hb hg (by rw [hl]; exact k1) k2 k3 (by rw [hl, flatR_append]; exact k4)) h2 ?_
    rcases h4 with h4 | h4 <;> simp [Value.ownBlock] at h4
    · exact .inl h4
    · exact .inr h4
theorem rows_rcs {H : Type} {enc : TypeId × Value → H} {W : World} {s : Option Addr} {len cap : Nat} {d : DataW H} {p : List MemPlace} {base : Nat} {spare : Nat → Bool} {held : Bool}
    (h : DataW.Trod enc Try.prog W base spare held 30 (.slice s len cap) d p) : ∃ l, IsRcs W s len cap l ∧ ∀ r ∈ l, RcWf r := by
  have hC : Try.prog.cellsOf 23 = 2 := by kernel_rfl
  obtain ⟨fuel, hf⟩ := h
  rcases open_slice Try.underlying30 hf with ⟨hcs, _⟩ | ⟨a, l, c, m, n, D, Pl, hcs, _, hl, _, hm, _, hi⟩
  · simp [Value.cells] at hcs
    obtain ⟨rfl, rfl, rfl⟩ := hcs
    exact ⟨[], ⟨rfl, Nat.le_refl _, .inl rfl⟩, by simp⟩
  · simp [Value.cells] at hcs
    obtain ⟨rfl, rfl, rfl⟩ := hcs
    have hlm : len ≤ m := by rw [hm]; split <;> omega
    by_cases h0 : len = 0
    · subst h0
      exact ⟨[], ⟨rfl, hl, .inl rfl⟩, by simp⟩
    · rw [hC] at hi
      have key : ∀ i, i < len → ∃ t : Rc, RcWf t ∧ ∀ j : Nat, j < 2 → W.cell? ((a.add (i * 2)).add j) = (encR t)[j]? := by
        intro i hi'
        obtain ⟨cs', h1, h2⟩ := hi i (by omega)
        obtain ⟨t, rfl, hwf⟩ := rc_cells h2
        refine ⟨t, hwf, fun j hj => ?_⟩
        exact (World.cells?_some h1).2.2 j (by omega)
      have hch : ∃ f : Nat → Rc, ∀ i, i < len → RcWf (f i) ∧ ∀ j : Nat, j < 2 → W.cell? ((a.add (i * 2)).add j) = (encR (f i))[j]? :=
        ⟨fun i => if h : i < len then (key i h).choose else ⟨0, 0⟩, fun i hi' => by
          have := (key i hi').choose_spec
          simpa [hi'] using this⟩
      obtain ⟨f, hf'⟩ := hch
      have hc := (hf' 0 (by omega)).2 0 (by omega)
      obtain ⟨b, off, spot⟩ := a
      have hspot : spot = none := by
        have h5 : W.cell? (⟨b, off, spot⟩ : Addr) = some (.int .i64 (f 0).k) := by simpa [Addr.add, encR] using hc
        simpa using World.cell?_spot h5
      subst hspot
      refine ⟨(List.range len).map f, ⟨by simp, hl, .inr ⟨b, off, rfl, RowR_of f len fun i hi' j hj => ?_⟩⟩, fun r hr => by obtain ⟨i, hi', rfl⟩ := List.mem_map.1 hr; exact (hf' i (List.mem_range.1 hi')).1⟩
      have := (hf' i hi').2 j hj
      rw [addr_add, addr_add] at this
      rw [← Nat.add_assoc]; exact this

/-- The world has grown, but for the one row, which is the call's own. -/
structure GrewBut (w w' : World) (base : Nat) (s : Option Addr) : Prop where
  grown : w.grownBy w' (s.map (·.block))
  own : ∀ a, s = some a → base ≤ a.block

theorem GrewBut.grow {W w w' : World} {base : Nat} {s : Option Addr} (h : GrewBut w w' base s) (hW : Grow W w) (hb : W.heap.size ≤ base) : Grow W w' := by
  cases s with
  | none => exact Below.grown hW h.grown hW.size (fun k e => by cases e)
  | some a => exact Below.grown hW h.grown hW.size (fun k e => by cases e; exact Nat.le_trans hb (h.own a rfl))

/-- The call owns a row, or it is nil. -/
def OwnRV (w : World) (base : Nat) (s : Option Addr) (n cap : Nat) (d : List Rc) : Prop :=
  d.length = n ∧ ((s = none ∧ cap = 0 ∧ d = []) ∨ ∃ g, s = some ⟨g, 0, none⟩ ∧ OwnR w base g cap d)
theorem OwnRV.nil (w : World) (base : Nat) : OwnRV w base none 0 0 [] := ⟨rfl, .inl ⟨rfl, rfl, rfl⟩⟩
theorem OwnRV.of {w : World} {base g cap n : Nat} {d : List Rc} (h : OwnR w base g cap d) (hn : d.length = n) : OwnRV w base (some ⟨g, 0, none⟩) n cap d := ⟨hn, .inr ⟨g, rfl, h⟩⟩
theorem OwnRV.is {w : World} {base n cap : Nat} {s : Option Addr} {d : List Rc} (h : OwnRV w base s n cap d) : IsRcs w s n cap d := by
  obtain ⟨hn, ⟨rfl, rfl, rfl⟩ | ⟨g, rfl, ho⟩⟩ := h
  · exact ⟨hn, by simp at hn; omega, .inl rfl⟩
  · exact ⟨hn, by rw [← hn]; exact ho.le.2.1, .inr ⟨g, 0, rfl, ho.row⟩⟩
theorem OwnRV.later {w w' : World} {base n cap : Nat} {s : Option Addr} {d : List Rc} (h : OwnRV w base s n cap d) (hg : Grow w w') : OwnRV w' base s n cap d :=
  ⟨h.1, h.2.imp id fun ⟨g, e, ho⟩ => ⟨g, e, ho.later hg⟩⟩
theorem OwnRV.rebase {w : World} {base base' n cap : Nat} {s : Option Addr} {d : List Rc} (h : OwnRV w base s n cap d) (hb : base' ≤ base) : OwnRV w base' s n cap d :=
  ⟨h.1, h.2.imp id fun ⟨g, e, ho⟩ => ⟨g, e, ho.rebase (Nat.le_trans hb ho.le.1)⟩⟩
/-- append(x, y...) on a row that the call owns, or nil. -/
theorem wpList_apv_rc {w : World} {ops : Array Oper} {rest : List Oper} {o : Oper} {a : Act} {Q : Exit → Act → World → Prop} (hgd : o.guard = none) (s x : Operand)
    (ho : o.op = .call { callee := .builtin .append, args := #[s, x], argTypes := #[30, 30] })
    (base : Nat) (s0 : Option Addr) (cap : Nat) (d e : List Rc) (n : Nat) (hs : a.eval s = .slice s0 n cap) (hown : OwnRV w base s0 n cap d)
    (b off m c : Nat) (hx : a.eval x = .slice (some ⟨b, off, none⟩) m c) (hm : e.length = m) (hm0 : 0 < m) (hsrc : RowR w b off e) (hlen : d.length + m ≤ 1000000) (hbase : base ≤ w.heap.size)
    (h : ∀ g' cap' w', OwnR w' base g' cap' (d ++ e) → GrewBut w w' base s0 → wpList Try.prog ops Q rest (a.put o.dst (.slice (some ⟨g', 0, none⟩) (n + m) cap')) w') :
    wpList Try.prog ops Q (o :: rest) a w := by
  obtain ⟨i, hi, hz, hsz, hby⟩ := info_rc
  obtain ⟨hn, hown⟩ := hown
  subst hn
  have hr : w.ownsRow base 23 2 (.slice s0 d.length cap) d.length (flatR d) := by
    rcases hown with ⟨rfl, rfl, rfl⟩ | ⟨g, rfl, h1⟩
    · exact World.ownsRow_nil w base _ _
    · exact h1
  refine wpList_append_own_at w hgd s x 30 ho base 23 i _ 2 16 Try.underlying30 hi hz hsz hby rfl (by omega) _ d.length (flatR d) hs hr ⟨b, off, none⟩ m c (flatR e) hx (by rw [flatR_len, hm]) (fun j u hj => by rw [addr_add]; exact hsrc j u hj) (oneCell_flatR e) (by simp [maxLen]; omega) (by omega) hbase ?_
  intro v' w' h1 h2 h3 h4
  have hl : (d ++ e).length = d.length + m := by rw [List.length_append, hm]
  rcases h1.2 with ⟨h', _⟩ | ⟨g', cap', cur, h', hb, hg, k1, k2, k3, k4⟩
  · have := (h3.1 h').2
    omega
  · subst h'
    refine h g' cap' w' (OwnR.mk' hb hg (by rw [hl]; exact k1) k2 k3 (by rw [hl, flatR_append]; exact k4)) ⟨?_, ?_⟩
    · rcases hown with ⟨rfl, rfl, rfl⟩ | ⟨g, rfl, h1⟩
      · exact h2
      · exact h2
    · intro a ha
      rcases hown with ⟨rfl, rfl, rfl⟩ | ⟨g, rfl, h1⟩
      · cases ha
      · cases ha; exact h1.le.1

theorem grow_drewAlloc (w : World) (o : Obj) : Grow w (w.drew.alloc o) := Grow.trans' (b := w.drew) ⟨rfl, rfl, rfl, Nat.le_refl _, fun _ _ => rfl⟩ (Grow.alloc' w.drew o)
/-- A value is a slice of these. -/
def IsRowR (d : List Rc) (v : Value) (w : World) : Prop := ∃ s n cap, v = .slice s n cap ∧ IsRcs w s n cap d
theorem IsRowR.later {d : List Rc} {v : Value} {w w' : World} (hg : Grow w w') : IsRowR d v w → IsRowR d v w' := fun ⟨s, n, cap, e, h⟩ => ⟨s, n, cap, e, h.later hg⟩
/-- A value is a slice of these that the call owns, or nil. -/
def OwnRowR (base : Nat) (d : List Rc) (v : Value) (w : World) : Prop := ∃ s n cap, v = .slice s n cap ∧ OwnRV w base s n cap d
theorem OwnRowR.later {base : Nat} {d : List Rc} {v : Value} {w w' : World} (hg : Grow w w') : OwnRowR base d v w → OwnRowR base d v w' := fun ⟨s, n, cap, e, h⟩ => ⟨s, n, cap, e, h.later hg⟩
theorem OwnRowR.is {base : Nat} {d : List Rc} {v : Value} {w : World} : OwnRowR base d v w → IsRowR d v w := fun ⟨s, n, cap, e, h⟩ => ⟨s, n, cap, e, h.is⟩
/-- A value is a new empty slice. -/
def LitR (base : Nat) (v : Value) (w : World) : Prop := ∃ g, v = .slice (some ⟨g, 0, none⟩) 0 0 ∧ OwnR w base g 0 []
theorem LitR.later {base : Nat} {v : Value} {w w' : World} (hg : Grow w w') : LitR base v w → LitR base v w' := fun ⟨g, e, h⟩ => ⟨g, e, h.later hg⟩
/-- A value is a slice of these, and a bool. -/
def IsAddR (d : List Rc) (p : Bool) (v : Value) (w : World) : Prop := ∃ s n cap, v = .tuple #[.slice s n cap, .bool p] ∧ IsRcs w s n cap d
theorem IsAddR.later {d : List Rc} {p : Bool} {v : Value} {w w' : World} (hg : Grow w w') : IsAddR d p v w → IsAddR d p v w' := fun ⟨s, n, cap, e, h⟩ => ⟨s, n, cap, e, h.later hg⟩
theorem isRowR_one (w : World) (t : Rc) : IsRowR [t] (.slice (some ⟨w.heap.size, 0, none⟩) 1 1) (w.alloc (.cells #[.int .i64 t.k, .int .i64 t.v] 23)) :=
  ⟨_, _, _, rfl, rfl, Nat.le_refl _, .inr ⟨_, _, rfl, RowR_one w t⟩⟩
theorem litR_new (w : World) (base : Nat) (hb : base ≤ w.heap.size) : LitR base (.slice (some ⟨w.heap.size, 0, none⟩) 0 0) (w.alloc (.cells #[] 23)) := ⟨_, rfl, OwnR.lit0 w base hb⟩
theorem app_none_rc (s : Option Addr) (n cap : Nat) (hn : n ≤ cap) (c : Nat) (rt : TypeId) (w : World) :
    (Builtin.append_ #[30, 30] rt #[.slice s n cap, .slice none 0 c]).run Try.prog w = (Builtin.append_ #[30, 30] rt #[.slice s n cap, .slice (some ⟨0, 0, none⟩) 0 c]).run Try.prog w := by
  obtain ⟨i, hi, hz, hsz, hby⟩ := info_rc
  have hl : (loadCells ⟨0, 0, none⟩ 0).run Try.prog w = .ok #[] w := by simpa using run_loadCells_list (P := Try.prog) w ⟨0, 0, none⟩ [] (by simp)
  cases s <;> simp [Builtin.append_, run_underlying Try.underlying30, sizeOf, typeInfo, hi, Builtin.lenOf, Builtin.firstCells, hl, hn]
/-- What append does. -/
theorem run_apv_rc (w : World) (rt : TypeId) (base : Nat) (s : Option Addr) (n cap : Nat) (d e : List Rc) (hown : OwnRV w base s n cap d) (s' : Option Addr) (m c : Nat) (he : IsRcs w s' m c e) (hlen : n + m ≤ 1000000) (hbase : base ≤ w.heap.size) :
    ∃ s2 c2 w2, (Builtin.append_ #[30, 30] rt #[.slice s n cap, .slice s' m c]).run Try.prog w = .ok (.slice s2 (n + m) c2) w2
      ∧ OwnRV w2 base s2 (n + m) c2 (d ++ e) ∧ GrewBut w w2 base s := by
  obtain ⟨i, hi, hz, hsz, hby⟩ := info_rc
  obtain ⟨hm, _, hs⟩ := he
  have hnc := hown.is.2.1
  obtain ⟨hn, hown⟩ := hown
  subst hn
  have hr : w.ownsRow base 23 2 (.slice s d.length cap) d.length (flatR d) := by
    rcases hown with ⟨rfl, rfl, rfl⟩ | ⟨g, rfl, h1⟩
    · exact World.ownsRow_nil w base _ _
    · exact h1
  have key : ∀ (a : Addr), (∀ j v, (flatR e)[j]? = some v → w.cell? (a.add j) = some v) → ∃ s2 c2 w2, (Builtin.append_ #[30, 30] rt #[.slice s d.length cap, .slice (some a) m c]).run Try.prog w = .ok (.slice s2 (d.length + m) c2) w2
      ∧ OwnRV w2 base s2 (d.length + m) c2 (d ++ e) ∧ GrewBut w w2 base s := by
    intro a ha
    obtain ⟨v', w', h0, h1, h2, h3, h4⟩ := run_append_own_at (P := Try.prog) w base 30 rt 23 i _ 2 16 Try.underlying30 hi hz hsz hby rfl (by omega) _ d.length (flatR d) hr a m c (flatR e) (by rw [flatR_len, hm]) ha (oneCell_flatR e) (by simp [maxLen]; omega) (by omega) hbase
    have hl : (d ++ e).length = d.length + m := by rw [List.length_append, hm]
    have hgb : GrewBut w w' base s := by
      refine ⟨?_, ?_⟩
      · rcases hown with ⟨rfl, rfl, rfl⟩ | ⟨g, rfl, h1⟩
        · exact h2
        · exact h2
      · intro a ha
        rcases hown with ⟨rfl, rfl, rfl⟩ | ⟨g, rfl, h1⟩
        · cases ha
        · cases ha; exact h1.le.1
    rcases h1.2 with ⟨h', h''⟩ | ⟨g', cap', cur, h', hb, hg, k1, k2, k3, k4⟩
    · subst h'
      have h5 : d.length + m = 0 := h''
      have hl0 : (d ++ e).length = 0 := hl.trans h5
      rw [h5]
      exact ⟨none, 0, w', h0, ⟨hl0, .inl ⟨rfl, rfl, List.eq_nil_of_length_eq_zero hl0⟩⟩, hgb⟩
    · subst h'
      exact ⟨some ⟨g', 0, none⟩, cap', w', h0, ⟨hl, .inr ⟨g', rfl, OwnR.mk' hb hg (by rw [hl]; exact k1) k2 k3 (by rw [hl, flatR_append]; exact k4)⟩⟩, hgb⟩
  rcases hs with rfl | ⟨b, off, rfl, hr⟩
  · have hm0 : m = 0 := by simp at hm; omega
    subst hm0
    cases s' with
    | none =>
      rw [app_none_rc _ _ _ hnc]
      exact key _ (fun j v hj => by simp [flatR] at hj)
    | some a => exact key a (fun j v hj => by simp [flatR] at hj)
  · exact key _ (fun j v hj => by rw [addr_add]; exact hr j v hj)
theorem app_empty_rc (g cap : Nat) (s : Option Addr) (rt : TypeId) (w : World) :
    (Builtin.append_ #[30, 30] rt #[.slice (some ⟨g, 0, none⟩) 0 0, .slice s 0 cap]).run Try.prog w = .ok (.slice (some ⟨g, 0, none⟩) 0 0) w := by
  have hl : ∀ (x : Addr), (loadCells x 0).run Try.prog w = .ok #[] w := fun x => by simpa using run_loadCells_list (P := Try.prog) w x [] (by simp)
  obtain ⟨i, hi, _⟩ := info_rc
  cases s <;> simp [Builtin.append_, run_underlying Try.underlying30, sizeOf, typeInfo, hi, Builtin.lenOf, Builtin.firstCells, storeCells, hl]
/-- What append onto a new empty slice does: nothing that was there changes. -/
theorem run_ap0_rc (w : World) (rt : TypeId) (base g : Nat) (e : List Rc) (hown : OwnR w base g 0 []) (s' : Option Addr) (m c : Nat) (he : IsRcs w s' m c e) (hlen : m ≤ 1000000) (hbase : base ≤ w.heap.size) :
    ∃ s2 c2 w2, (Builtin.append_ #[30, 30] rt #[.slice (some ⟨g, 0, none⟩) 0 0, .slice s' m c]).run Try.prog w = .ok (.slice s2 m c2) w2
      ∧ OwnRV w2 base s2 m c2 e ∧ Grow w w2 := by
  obtain ⟨s2, c2, w2, h1, h2, h3⟩ := run_apv_rc w rt base (some ⟨g, 0, none⟩) 0 0 [] e (.of hown rfl) s' m c he (by omega) hbase
  rw [Nat.zero_add] at h1 h2
  by_cases h0 : m = 0
  · subst h0
    rw [app_empty_rc] at h1
    obtain ⟨h4, rfl⟩ : Value.slice (some ⟨g, 0, none⟩) 0 0 = .slice s2 0 c2 ∧ w = w2 := by cases h1; exact ⟨rfl, rfl⟩
    exact ⟨s2, c2, w, by rw [app_empty_rc, h4], h2, Grow.rfl' _⟩
  · obtain ⟨hm, hmc, hs⟩ := he
    have hne : e ≠ [] := fun h => by rw [h] at hm; simp at hm; omega
    obtain ⟨b, off, rfl, hr⟩ := hs.resolve_left hne
    obtain ⟨i, hi, hz, hsz, hby⟩ := info_rc
    have h4 := run_append_grow (P := Try.prog) w 30 rt 23 i _ Try.underlying30 hi hz ⟨g, 0, none⟩ 0 0 [] (by simp) (by simp) ⟨b, off, none⟩ m c (flatR e) (by rw [flatR_len, hm, hsz]) (fun j v hj => by rw [addr_add]; exact hr j v hj) (by omega) (by omega) (growslice_fits (by omega) (by rw [hby]; omega))
    refine ⟨s2, c2, w2, h1, h2, ?_⟩
    rw [h4] at h1
    have : w.drew.alloc _ = w2 := (Result.ok.inj h1).2
    rw [← this]
    exact grow_drewAlloc _ _
theorem wpList_apd_rc {w : World} {ops : Array Oper} {rest : List Oper} {o : Oper} {a : Act} {Q : Exit → Act → World → Prop} (hgd : o.guard = none) (s x : Operand)
    (ho : o.op = .call { callee := .builtin .append, args := #[s, x], argTypes := #[30, 30] })
    (base : Nat) (s0 : Option Addr) (n cap : Nat) (d e : List Rc) (hs : a.eval s = .slice s0 n cap) (hown : OwnRV w base s0 n cap d)
    (s' : Option Addr) (m c : Nat) (hx : a.eval x = .slice s' m c) (he : IsRcs w s' m c e) (hlen : n + m ≤ 1000000) (hbase : base ≤ w.heap.size)
    (h : ∀ s2 c2 w2, OwnRV w2 base s2 (n + m) c2 (d ++ e) → GrewBut w w2 base s0 → wpList Try.prog ops Q rest (a.put o.dst (.slice s2 (n + m) c2)) w2) :
    wpList Try.prog ops Q (o :: rest) a w := by
  obtain ⟨s2, c2, w2, h0, h1, h2⟩ := run_apv_rc w o.type base s0 n cap d e hown s' m c he hlen hbase
  refine wpList_plain hgd fun K hK => ?_
  unfold Oper.wp execOp
  simp only [ho, resolve, invoke, builtin, Sem.run_bind, Sem.run_pure, Result.andThen_ok, List.map_toArray, List.map_cons, List.map_nil, hs, hx, h0]
  exact hK _ _ (h s2 c2 w2 h1 h2)

/-- Where l[k:] lies. -/
def fromA (a : Option Addr) (cap k K : Nat) : Option Addr := if cap = k then a else a.map (·.add (k * K))
theorem run_headR (a : Option Addr) (n cap k : Nat) (w : World) (h1 : (k : Int) ≤ (cap : Int)) :
    (Instr.slice 30 (.slice a n cap) none (some (.int .i64 (k : Int))) none).run Try.prog w = .ok (.slice a k cap) w := by
  have h0 : (0 : Int) ≤ (k : Int) := by omega
  have z := Try.sizeOf23
  cases a with
  | none => simp [go_sem, h1]
  | some a =>
    obtain ⟨b, o, s⟩ := a
    by_cases hc : cap = 0
    · have hk : k = 0 := by omega
      subst hk
      simp [go_sem, hc]
    · simp [go_sem, h1, hc]
theorem run_tailR (a : Option Addr) (n cap k : Nat) (w : World) (h1 : (k : Int) ≤ (n : Int)) :
    (Instr.slice 30 (.slice a n cap) (some (.int .i64 (k : Int))) none none).run Try.prog w = .ok (.slice (fromA a cap k 2) (n - k) (cap - k)) w := by
  have h0 : (0 : Int) ≤ (k : Int) := by omega
  have z := Try.sizeOf23
  unfold fromA
  by_cases hc : cap = k
  · subst hc
    cases a <;> simp [go_sem, h1]
  · cases a <;> simp [go_sem, h1, hc]
theorem IsRcs.from' {w : World} {s : Option Addr} {n cap : Nat} {d : List Rc} (h : IsRcs w s n cap d) (k : Nat) (hk : k ≤ n) : IsRcs w (fromA s cap k 2) (n - k) (cap - k) (d.drop k) := by
  refine ⟨by rw [List.length_drop, h.1], by have := h.2.1; omega, ?_⟩
  by_cases hn : k = n
  · left
    rw [List.drop_of_length_le]
    rw [h.1]; omega
  · rcases h.2.2 with e | ⟨b, o, rfl, r⟩
    · left; rw [e]; simp
    · right
      have hc : ¬ cap = k := by have := h.2.1; omega
      refine ⟨b, o + k * 2, ?_, r.drop' k⟩
      unfold fromA
      rw [if_neg hc]
      simp [addr_add]

end Go.Proofs.Ythkkjhjbojbbaaa
