/-
  Rows of times that a call has made by append: what one append makes of them.
-/
import Derived.Test.YtbohgfcndclbjaaSrt
import Derived.Maps.AppendAt
import Derived.Laws.OwnMore
namespace Go.Proofs.Ytbohgfcndclbjaa
open Go.RowKit
set_option linter.unusedVariables false

/-- The call owns a row of times, in block g. -/
def OwnS (w : World) (base g cap : Nat) (d : List Tm) : Prop := w.ownsRow base 25 5 (.slice (some ⟨g, 0, none⟩) d.length cap) d.length (flatT d)

theorem OwnS.parts {w : World} {base g cap : Nat} {d : List Tm} (h : OwnS w base g cap d) :
    ∃ cur, base ≤ g ∧ w.heap[g]? = some (.cells cur 25 (0, 0)) ∧ d.length ≤ cap ∧ cap ≤ maxLen ∧ cur.size = cap * 5 ∧ cur.toList.take (d.length * 5) = flatT d := by
  rcases h.2 with ⟨h', _⟩ | ⟨g', cap', cur, h', hb, hg, h1, h2, h3, h4⟩
  · simp at h'
  · simp only [Value.slice.injEq, Option.some.injEq, Addr.mk.injEq, and_true, true_and] at h'
    obtain ⟨rfl, rfl⟩ := h'
    exact ⟨cur, hb, hg, h1, h2, h3, h4⟩
theorem OwnS.mk' {w : World} {base g cap : Nat} {d : List Tm} {cur : Array Value} (hb : base ≤ g) (hg : w.heap[g]? = some (.cells cur 25 (0, 0))) (h1 : d.length ≤ cap) (h2 : cap ≤ maxLen) (h3 : cur.size = cap * 5) (h4 : cur.toList.take (d.length * 5) = flatT d) : OwnS w base g cap d :=
  ⟨flatT_len d, .inr ⟨g, cap, cur, rfl, hb, hg, h1, h2, h3, h4⟩⟩
theorem OwnS.lt {w : World} {base g cap : Nat} {d : List Tm} (h : OwnS w base g cap d) : g < w.heap.size := by
  obtain ⟨cur, _, hg, _⟩ := h.parts
  exact (Array.getElem?_eq_some_iff.1 hg).1
theorem OwnS.le {w : World} {base g cap : Nat} {d : List Tm} (h : OwnS w base g cap d) : base ≤ g ∧ d.length ≤ cap ∧ cap ≤ maxLen := by
  obtain ⟨cur, hb, _, h1, h2, _⟩ := h.parts
  exact ⟨hb, h1, h2⟩
theorem OwnS.row {w : World} {base g cap : Nat} {d : List Tm} (h : OwnS w base g cap d) : RowT w g 0 d := by
  intro j v hj
  have hj' : j < d.length * 5 := by rw [← flatT_len]; exact (List.getElem?_eq_some_iff.1 hj).1
  have := World.ownsRow.cellAt h j hj'
  rw [Nat.zero_add, this]; exact hj
theorem OwnS.keep {w w' : World} {base g cap : Nat} {d : List Tm} (h : OwnS w base g cap d) (he : w'.heap[g]? = w.heap[g]?) : OwnS w' base g cap d := by
  obtain ⟨cur, hb, hg, h1, h2, h3, h4⟩ := h.parts
  exact OwnS.mk' hb (he.trans hg) h1 h2 h3 h4
theorem OwnS.later {w w' : World} {base g cap : Nat} {d : List Tm} (h : OwnS w base g cap d) (hg : Grow w w') : OwnS w' base g cap d := h.keep (hg.block g h.lt)
theorem OwnS.rebase {w : World} {base base' g cap : Nat} {d : List Tm} (h : OwnS w base g cap d) (hb : base' ≤ g) : OwnS w base' g cap d := by
  obtain ⟨cur, _, hg, h1, h2, h3, h4⟩ := h.parts
  exact OwnS.mk' hb hg h1 h2 h3 h4
theorem OwnS.lit0 (w : World) (base : Nat) (hb : base ≤ w.heap.size) : OwnS (w.alloc (.cells #[] 25)) base w.heap.size 0 [] :=
  OwnS.mk' hb (MapKept.heap_alloc w _).1 (Nat.le_refl _) (by simp [maxLen]) rfl rfl

theorem info_time : ∃ i, Try.prog.info? 25 = some i ∧ i.zero = some (.agg #[.int .i64 0, .int .i64 0, .int .i64 0, .int .i64 0, .int .i64 0]) ∧ i.size = 5 ∧ i.bytes = 40 := by
  cases hi : Try.prog.info? 25 with
  | none =>
    have : (Try.prog.info? 25).isSome = true := by kernel_rfl
    rw [hi] at this; cases this
  | some i =>
    have hz : (Try.prog.info? 25).map (·.zero) = some (some (.agg #[.int .i64 0, .int .i64 0, .int .i64 0, .int .i64 0, .int .i64 0])) := by kernel_rfl
    have hs : (Try.prog.info? 25).map (·.size) = some 5 := by kernel_rfl
    have hb : (Try.prog.info? 25).map (·.bytes) = some 40 := by kernel_rfl
    rw [hi] at hz hs hb
    simp only [Option.map_some, Option.some.injEq] at hz hs hb
    exact ⟨i, rfl, hz, hs, hb⟩

/-- append(x, y...) on a row that the call owns. -/
theorem wpList_appT {w : World} {ops : Array Oper} {rest : List Oper} {o : Oper} {a : Act} {Q : Exit → Act → World → Prop} (hgd : o.guard = none) (s x : Operand)
    (ho : o.op = .call { callee := .builtin .append, args := #[s, x], argTypes := #[36, 36] })
    (base g cap : Nat) (d e : List Tm) (n : Nat) (hn : n = d.length) (hs : a.eval s = .slice (some ⟨g, 0, none⟩) n cap) (hown : OwnS w base g cap d)
    (b off m c : Nat) (hx : a.eval x = .slice (some ⟨b, off, none⟩) m c) (hm : e.length = m) (hsrc : RowT w b off e) (hlen : d.length + m ≤ 1000000) (hbase : base ≤ w.heap.size)
    (h : ∀ g' cap' w', OwnS w' base g' cap' (d ++ e) → w.grownBy w' (some g) → (g' = g ∨ g' = w.heap.size) → wpList Try.prog ops Q rest (a.put o.dst (.slice (some ⟨g', 0, none⟩) (n + m) cap')) w') :
    wpList Try.prog ops Q (o :: rest) a w := by
  obtain ⟨i, hi, hz, hsz, hby⟩ := info_time
  subst hn
  refine wpList_append_own_at w hgd s x 36 ho base 25 i _ 5 40 Try.underlying36 hi hz hsz hby rfl (by omega) _ d.length (flatT d) hs hown ⟨b, off, none⟩ m c (flatT e) hx (by rw [flatT_len, hm]) (fun j u hj => by rw [addr_add]; exact hsrc j u hj) (oneCell_flat e) (by simp [maxLen]; omega) (by omega) hbase ?_
  intro v' w' h1 h2 h3 h4
  have hl : (d ++ e).length = d.length + m := by rw [List.length_append, hm]
  rcases h1.2 with ⟨h', _⟩ | ⟨g', cap', cur, h', hb, hg, k1, k2, k3, k4⟩
  · have := (h3.1 h').1
    simp at this
  · subst h'
    refine h g' cap' w' (OwnS.mk' hb hg (by rw [hl]; exact k1) k2 k3 (by rw [hl, flatT_append]; exact k4)) h2 ?_
    rcases h4 with h4 | h4 <;> simp [Value.ownBlock] at h4
    · exact .inl h4
    · exact .inr h4

end Go.Proofs.Ytbohgfcndclbjaa
