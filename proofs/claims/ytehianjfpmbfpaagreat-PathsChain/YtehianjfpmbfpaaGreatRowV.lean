/-
  Rows that a call owns and that may still be nil; append of one more to such a row.
-/
import Derived.Test.YtehianjfpmbfpaaGreatRowG
namespace Go.Proofs.YtehianjfpmbfpaaGreat
set_option maxRecDepth 100000
open Go.ChangeShapes Go.WideShapes Go.ChangeAt Go.RowKit Go.Deep
set_option linter.unusedVariables false

/-- The world has grown, but for the one row, which is the call's own. -/
structure GrewBut (w w' : World) (base : Nat) (s : Option Addr) : Prop where
  grown : w.grownBy w' (s.map (·.block))
  own : ∀ a, s = some a → base ≤ a.block

theorem GrewBut.grow {W w w' : World} {base : Nat} {s : Option Addr} (h : GrewBut w w' base s) (hW : Grow W w) (hb : W.heap.size ≤ base) : Grow W w' := by
  cases s with
  | none => exact Below.grown hW h.grown hW.size (fun k e => by cases e)
  | some a => exact Below.grown hW h.grown hW.size (fun k e => by cases e; exact Nat.le_trans hb (h.own a rfl))

/-- The call owns a row, or it is nil. -/
def OwnSV (w : World) (base : Nat) (s : Option Addr) (n cap : Nat) (d : List Tm) : Prop :=
  d.length = n ∧ ((s = none ∧ cap = 0 ∧ d = []) ∨ ∃ g, s = some ⟨g, 0, none⟩ ∧ OwnS w base g cap d)
theorem OwnSV.nil (w : World) (base : Nat) : OwnSV w base none 0 0 [] := ⟨rfl, .inl ⟨rfl, rfl, rfl⟩⟩
theorem OwnSV.of {w : World} {base g cap n : Nat} {d : List Tm} (h : OwnS w base g cap d) (hn : d.length = n) : OwnSV w base (some ⟨g, 0, none⟩) n cap d := ⟨hn, .inr ⟨g, rfl, h⟩⟩
theorem OwnSV.is {w : World} {base n cap : Nat} {s : Option Addr} {d : List Tm} (h : OwnSV w base s n cap d) : IsTms w s n cap d := by
  obtain ⟨hn, ⟨rfl, rfl, rfl⟩ | ⟨g, rfl, ho⟩⟩ := h
  · exact ⟨hn, by simp at hn; omega, .inl rfl⟩
  · exact ⟨hn, by rw [← hn]; exact ho.le.2.1, .inr ⟨g, 0, rfl, ho.row⟩⟩
theorem OwnSV.later {w w' : World} {base n cap : Nat} {s : Option Addr} {d : List Tm} (h : OwnSV w base s n cap d) (hg : Grow w w') : OwnSV w' base s n cap d :=
  ⟨h.1, h.2.imp id fun ⟨g, e, ho⟩ => ⟨g, e, ho.later hg⟩⟩
theorem OwnSV.rebase {w : World} {base base' n cap : Nat} {s : Option Addr} {d : List Tm} (h : OwnSV w base s n cap d) (hb : base' ≤ base) : OwnSV w base' s n cap d :=
  ⟨h.1, h.2.imp id fun ⟨g, e, ho⟩ => ⟨g, e, ho.rebase (Nat.le_trans hb ho.le.1)⟩⟩
/-- append(x, y...) on a row that the call owns, or nil. -/
theorem wpList_apv_tm {w : World} {ops : Array Oper} {rest : List Oper} {o : Oper} {a : Act} {Q : Exit → Act → World → Prop} (hgd : o.guard = none) (s x : Operand)
    (ho : o.op = .call { callee := .builtin .append, args := #[s, x], argTypes := #[39, 39] })
    (base : Nat) (s0 : Option Addr) (cap : Nat) (d e : List Tm) (n : Nat) (hs : a.eval s = .slice s0 n cap) (hown : OwnSV w base s0 n cap d)
    (b off m c : Nat) (hx : a.eval x = .slice (some ⟨b, off, none⟩) m c) (hm : e.length = m) (hm0 : 0 < m) (hsrc : RowT w b off e) (hlen : d.length + m ≤ 1000000000000) (hbase : base ≤ w.heap.size)
    (h : ∀ g' cap' w', OwnS w' base g' cap' (d ++ e) → GrewBut w w' base s0 → wpList Tryz.prog ops Q rest (a.put o.dst (.slice (some ⟨g', 0, none⟩) (n + m) cap')) w') :
    wpList Tryz.prog ops Q (o :: rest) a w := by
  obtain ⟨i, hi, hz, hsz, hby⟩ := info_tm
  obtain ⟨hn, hown⟩ := hown
  subst hn
  have hr : w.ownsRow base 43 5 (.slice s0 d.length cap) d.length (flatT d) := by
    rcases hown with ⟨rfl, rfl, rfl⟩ | ⟨g, rfl, h1⟩
    · exact World.ownsRow_nil w base _ _
    · exact h1
  refine wpList_append_own_at w hgd s x 39 ho base 43 i _ 5 40 Tryz.underlying39 hi hz hsz hby rfl (by omega) _ d.length (flatT d) hs hr ⟨b, off, none⟩ m c (flatT e) hx (by rw [flatT_len, hm]) (fun j u hj => by rw [addr_add]; exact hsrc j u hj) (oneCell_flatT e) (by simp [maxLen]; omega) (by omega) hbase ?_
  intro v' w' h1 h2 h3 h4
  have hl : (d ++ e).length = d.length + m := by rw [List.length_append, hm]
  rcases h1.2 with ⟨h', _⟩ | ⟨g', cap', cur, h', hb, hg, k1, k2, k3, k4⟩
  · have := (h3.1 h').2
    omega
  · subst h'
    refine h g' cap' w' (OwnS.mk' hb hg (by rw [hl]; exact k1) k2 k3 (by rw [hl, flatT_append]; exact k4)) ⟨?_, ?_⟩
    · rcases hown with ⟨rfl, rfl, rfl⟩ | ⟨g, rfl, h1⟩
      · exact h2
      · exact h2
    · intro a ha
      rcases hown with ⟨rfl, rfl, rfl⟩ | ⟨g, rfl, h1⟩
      · cases ha
      · cases ha; exact h1.le.1
/-- The call owns a row, or it is nil. -/
def OwnMV (w : World) (base : Nat) (s : Option Addr) (n cap : Nat) (d : List Sm) : Prop :=
  d.length = n ∧ ((s = none ∧ cap = 0 ∧ d = []) ∨ ∃ g, s = some ⟨g, 0, none⟩ ∧ OwnM w base g cap d)
theorem OwnMV.nil (w : World) (base : Nat) : OwnMV w base none 0 0 [] := ⟨rfl, .inl ⟨rfl, rfl, rfl⟩⟩
theorem OwnMV.of {w : World} {base g cap n : Nat} {d : List Sm} (h : OwnM w base g cap d) (hn : d.length = n) : OwnMV w base (some ⟨g, 0, none⟩) n cap d := ⟨hn, .inr ⟨g, rfl, h⟩⟩
theorem OwnMV.is {w : World} {base n cap : Nat} {s : Option Addr} {d : List Sm} (h : OwnMV w base s n cap d) : IsSms w s n cap d := by
  obtain ⟨hn, ⟨rfl, rfl, rfl⟩ | ⟨g, rfl, ho⟩⟩ := h
  · exact ⟨hn, by simp at hn; omega, .inl rfl⟩
  · exact ⟨hn, by rw [← hn]; exact ho.le.2.1, .inr ⟨g, 0, rfl, ho.row⟩⟩
theorem OwnMV.later {w w' : World} {base n cap : Nat} {s : Option Addr} {d : List Sm} (h : OwnMV w base s n cap d) (hg : Grow w w') : OwnMV w' base s n cap d :=
  ⟨h.1, h.2.imp id fun ⟨g, e, ho⟩ => ⟨g, e, ho.later hg⟩⟩
theorem OwnMV.rebase {w : World} {base base' n cap : Nat} {s : Option Addr} {d : List Sm} (h : OwnMV w base s n cap d) (hb : base' ≤ base) : OwnMV w base' s n cap d :=
  ⟨h.1, h.2.imp id fun ⟨g, e, ho⟩ => ⟨g, e, ho.rebase (Nat.le_trans hb ho.le.1)⟩⟩
/-- append(x, y...) on a row that the call owns, or nil. -/
theorem wpList_apv_sm {w : World} {ops : Array Oper} {rest : List Oper} {o : Oper} {a : Act} {Q : Exit → Act → World → Prop} (hgd : o.guard = none) (s x : Operand)
    (ho : o.op = .call { callee := .builtin .append, args := #[s, x], argTypes := #[33, 33] })
    (base : Nat) (s0 : Option Addr) (cap : Nat) (d e : List Sm) (n : Nat) (hs : a.eval s = .slice s0 n cap) (hown : OwnMV w base s0 n cap d)
    (b off m c : Nat) (hx : a.eval x = .slice (some ⟨b, off, none⟩) m c) (hm : e.length = m) (hm0 : 0 < m) (hsrc : RowM w b off e) (hlen : d.length + m ≤ 1000000000000) (hbase : base ≤ w.heap.size)
    (h : ∀ g' cap' w', OwnM w' base g' cap' (d ++ e) → GrewBut w w' base s0 → wpList Tryz.prog ops Q rest (a.put o.dst (.slice (some ⟨g', 0, none⟩) (n + m) cap')) w') :
    wpList Tryz.prog ops Q (o :: rest) a w := by
  obtain ⟨i, hi, hz, hsz, hby⟩ := info_sm
  obtain ⟨hn, hown⟩ := hown
  subst hn
  have hr : w.ownsRow base 68 7 (.slice s0 d.length cap) d.length (flatM d) := by
    rcases hown with ⟨rfl, rfl, rfl⟩ | ⟨g, rfl, h1⟩
    · exact World.ownsRow_nil w base _ _
    · exact h1
  refine wpList_append_own_at w hgd s x 33 ho base 68 i _ 7 56 Tryz.underlying33 hi hz hsz hby rfl (by omega) _ d.length (flatM d) hs hr ⟨b, off, none⟩ m c (flatM e) hx (by rw [flatM_len, hm]) (fun j u hj => by rw [addr_add]; exact hsrc j u hj) (oneCell_flatM e) (by simp [maxLen]; omega) (by omega) hbase ?_
  intro v' w' h1 h2 h3 h4
  have hl : (d ++ e).length = d.length + m := by rw [List.length_append, hm]
  rcases h1.2 with ⟨h', _⟩ | ⟨g', cap', cur, h', hb, hg, k1, k2, k3, k4⟩
  · have := (h3.1 h').2
    omega
  · subst h'
    refine h g' cap' w' (OwnM.mk' hb hg (by rw [hl]; exact k1) k2 k3 (by rw [hl, flatM_append]; exact k4)) ⟨?_, ?_⟩
    · rcases hown with ⟨rfl, rfl, rfl⟩ | ⟨g, rfl, h1⟩
      · exact h2
      · exact h2
    · intro a ha
      rcases hown with ⟨rfl, rfl, rfl⟩ | ⟨g, rfl, h1⟩
      · cases ha
      · cases ha; exact h1.le.1

end Go.Proofs.YtehianjfpmbfpaaGreat
