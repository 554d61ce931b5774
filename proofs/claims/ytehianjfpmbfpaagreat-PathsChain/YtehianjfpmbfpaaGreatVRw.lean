/-
  Rows of nodes and of edges that a call has made by append; rows of Booleans that a call has made by make: a store into one, what stands in it. Heads of rows: l[:k] of numbers.
-/
import Derived.Test.YtehianjfpmbfpaaGreatHRow
import Derived.Test.YtehianjfpmbfpaaGreatVDf
import Derived.Laws.MakeOwn
namespace Go.Proofs.YtehianjfpmbfpaaGreat
set_option maxRecDepth 100000
open Go.ChangeShapes Go.WideShapes Go.ChangeAt Go.RowKit Go.Deep
set_option linter.unusedVariables false
set_option linter.unusedSimpArgs false

/-- Where a row made longer lies: where it was, or beyond what was there. -/
def Lies (s s2 : Option Addr) (z : Nat) : Prop := ∀ a, s2 = some a → s.map (·.block) = some a.block ∨ z ≤ a.block
/-- The call owns a row, or it is nil. -/
def OwnN (w : World) (base : Nat) (s : Option Addr) (n cap : Nat) (d : List Nd) : Prop :=
  d.length = n ∧ w.ownsRow base 63 4 (.slice s n cap) n (flatN d) ∧ (s = none → cap = 0)
theorem OwnN.nil (w : World) (base : Nat) : OwnN w base none 0 0 [] := ⟨rfl, World.ownsRow_nil w base _ _, fun _ => rfl⟩
theorem OwnN.keep {w w' : World} {base n cap : Nat} {s : Option Addr} {d : List Nd} (h : OwnN w base s n cap d) (hk : ∀ a, s = some a → w'.heap[a.block]? = w.heap[a.block]?) : OwnN w' base s n cap d := by
  obtain ⟨h1, h2, h3⟩ := h
  refine ⟨h1, ⟨h2.1, ?_⟩, h3⟩
  rcases h2.2 with h' | ⟨g, cap', cur, h', hb, hg, r⟩
  · exact .inl h'
  · simp only [Value.slice.injEq] at h'
    obtain ⟨rfl, _, rfl⟩ := h'
    exact .inr ⟨g, cap, cur, rfl, hb, (hk _ rfl).trans hg, r⟩
theorem OwnN.lt {w : World} {base n cap : Nat} {s : Option Addr} {d : List Nd} (h : OwnN w base s n cap d) : ∀ a, s = some a → a.block < w.heap.size ∧ base ≤ a.block := by
  intro a ha
  rcases h.2.1.2 with ⟨h', _⟩ | ⟨g, cap', cur, h', hb, hg, r⟩
  · simp only [Value.slice.injEq] at h'
    rw [ha] at h'; cases h'.1
  · simp only [Value.slice.injEq] at h'
    rw [ha] at h'
    cases h'.1
    exact ⟨(Array.getElem?_eq_some_iff.1 hg).1, hb⟩
theorem OwnN.later {w w' : World} {base n cap : Nat} {s : Option Addr} {d : List Nd} (h : OwnN w base s n cap d) (hg : Grow w w') : OwnN w' base s n cap d :=
  h.keep fun a ha => hg.block _ (h.lt a ha).1
theorem OwnN.is {w : World} {base n cap : Nat} {s : Option Addr} {d : List Nd} (h : OwnN w base s n cap d) : IsNds w s n cap d := by
  obtain ⟨h1, h2, h3⟩ := h
  rcases h2.2 with ⟨h', h''⟩ | ⟨g, cap', cur, h', hb, hg, k1, k2, k3, k4⟩
  · have hn : n = 0 := h''
    refine ⟨h1, by omega, .inl ?_⟩
    exact List.eq_nil_of_length_eq_zero (by omega)
  · simp only [Value.slice.injEq] at h'
    obtain ⟨rfl, _, rfl⟩ := h'
    refine ⟨h1, k1, .inr ⟨g, 0, rfl, fun j v hj => ?_⟩⟩
    have hj' : j < n * 4 := by rw [← h1, ← flatN_len]; exact (List.getElem?_eq_some_iff.1 hj).1
    have := World.ownsRow.cellAt h2 j hj'
    rw [Nat.zero_add, this]; exact hj
theorem OwnN.rebase {w : World} {base base' n cap : Nat} {s : Option Addr} {d : List Nd} (h : OwnN w base s n cap d) (hb : base' ≤ base) : OwnN w base' s n cap d :=
  ⟨h.1, ⟨h.2.1.1, h.2.1.2.imp id fun ⟨g, cap', cur, e, hg, r⟩ => ⟨g, cap', cur, e, Nat.le_trans hb hg, r⟩⟩, h.2.2⟩
theorem OwnN.lit0 (w : World) (base : Nat) (hb : base ≤ w.heap.size) : OwnN (w.alloc (.cells #[] 63)) base (some ⟨w.heap.size, 0, none⟩) 0 0 [] :=
  ⟨rfl, ⟨rfl, .inr ⟨w.heap.size, 0, #[], rfl, hb, (MapKept.heap_alloc w _).1, Nat.le_refl _, Nat.zero_le _, rfl, rfl⟩⟩, fun h => by cases h⟩
theorem info_nd : ∃ i, Tryz.prog.info? 63 = some i ∧ i.zero = some (.agg #[.int .i64 0, .int .i64 0, .int .i64 0, .int .i64 0]) ∧ i.size = 4 ∧ i.bytes = 32 := by
  cases hi : Tryz.prog.info? 63 with
  | none =>
    have : (Tryz.prog.info? 63).isSome = true := by kernel_rfl
    rw [hi] at this; cases this
  | some i =>
    have hz : (Tryz.prog.info? 63).map (·.zero) = some (some (.agg #[.int .i64 0, .int .i64 0, .int .i64 0, .int .i64 0])) := by kernel_rfl
    have hs : (Tryz.prog.info? 63).map (·.size) = some 4 := by kernel_rfl
    have hb : (Tryz.prog.info? 63).map (·.bytes) = some 32 := by kernel_rfl
    rw [hi] at hz hs hb
    simp only [Option.map_some, Option.some.injEq] at hz hs hb
    exact ⟨i, rfl, hz, hs, hb⟩
theorem app_none_nd (s : Option Addr) (n cap : Nat) (hn : n ≤ cap) (c : Nat) (rt : TypeId) (w : World) :
    (Builtin.append_ #[22, 22] rt #[.slice s n cap, .slice none 0 c]).run Tryz.prog w = (Builtin.append_ #[22, 22] rt #[.slice s n cap, .slice (some ⟨0, 0, none⟩) 0 c]).run Tryz.prog w := by
  obtain ⟨i, hi, hz, hsz, hby⟩ := info_nd
  have hl : (loadCells ⟨0, 0, none⟩ 0).run Tryz.prog w = .ok #[] w := by simpa using run_loadCells_list (P := Tryz.prog) w ⟨0, 0, none⟩ [] (by simp)
  cases s <;> simp [Builtin.append_, run_underlying Tryz.underlying22, sizeOf, typeInfo, hi, Builtin.lenOf, Builtin.firstCells, hl, hn]
/-- What append does. -/
theorem run_ap_nd (w : World) (rt : TypeId) (base : Nat) (s : Option Addr) (n cap : Nat) (d e : List Nd) (hown : OwnN w base s n cap d) (s' : Option Addr) (m c : Nat) (he : IsNds w s' m c e) (hlen : n + m ≤ 1000000) (hbase : base ≤ w.heap.size) :
    ∃ s2 c2 w2, (Builtin.append_ #[22, 22] rt #[.slice s n cap, .slice s' m c]).run Tryz.prog w = .ok (.slice s2 (n + m) c2) w2
      ∧ OwnN w2 base s2 (n + m) c2 (d ++ e) ∧ w.grownBy w2 (s.map (·.block)) := by
  obtain ⟨i, hi, hz, hsz, hby⟩ := info_nd
  have hnc := hown.is.2.1
  obtain ⟨hm, _, hs⟩ := he
  obtain ⟨hn, hr, hz0⟩ := hown
  have key : ∀ (x : Addr), (∀ j u, (flatN e)[j]? = some u → w.cell? (x.add j) = some u) → ∃ s2 c2 w2, (Builtin.append_ #[22, 22] rt #[.slice s n cap, .slice (some x) m c]).run Tryz.prog w = .ok (.slice s2 (n + m) c2) w2
      ∧ OwnN w2 base s2 (n + m) c2 (d ++ e) ∧ w.grownBy w2 (s.map (·.block)) := by
    intro x hx
    obtain ⟨v', w', h0, h1, h2, h3, h4⟩ := run_append_own_at (P := Tryz.prog) w base 22 rt 63 i _ 4 32 Tryz.underlying22 hi hz hsz hby rfl (by omega) _ n (flatN d) hr x m c (flatN e) (by rw [flatN_len, hm]) hx (oneCell_flatN e) (by simp [maxLen]; omega) (by omega) hbase
    have hob : (Value.slice s n cap).ownBlock = s.map (·.block) := by cases s <;> rfl
    rw [hob] at h2 h4
    have hl : (d ++ e).length = n + m := by rw [List.length_append, hn, hm]
    have hfl : flatN d ++ flatN e = flatN (d ++ e) := (flatN_append d e).symm
    rw [hfl] at h1
    rcases h1.2 with ⟨h', h''⟩ | ⟨g', cap', cur, h', hb, hg, k⟩
    · subst h'
      have h5 : n + m = 0 := h''
      refine ⟨none, 0, w', by rw [h0, h5], ⟨hl, ?_, fun _ => rfl⟩, h2⟩
      rw [h5] at h1 ⊢
      exact h1
    · subst h'
      exact ⟨some ⟨g', 0, none⟩, cap', w', h0, ⟨hl, h1, fun k => by cases k⟩, h2⟩
  rcases hs with rfl | ⟨b, off, rfl, hrw⟩
  · have hm0 : m = 0 := by rw [← hm]; rfl
    subst hm0
    cases s' with
    | none =>
      rw [app_none_nd _ _ _ hnc]
      exact key _ (fun j v hj => by simp [flatN] at hj)
    | some a => exact key a (fun j v hj => by simp [flatN] at hj)
  · exact key _ (fun j v hj => by rw [addr_add]; exact hrw j v hj)
theorem wpList_apd_nd {w : World} {ops : Array Oper} {rest : List Oper} {o : Oper} {a : Act} {Q : Exit → Act → World → Prop} (hgd : o.guard = none) (s x : Operand)
    (ho : o.op = .call { callee := .builtin .append, args := #[s, x], argTypes := #[22, 22] })
    (base : Nat) (s0 : Option Addr) (n cap : Nat) (d e : List Nd) (hs : a.eval s = .slice s0 n cap) (hown : OwnN w base s0 n cap d)
    (s' : Option Addr) (m c : Nat) (hx : a.eval x = .slice s' m c) (he : IsNds w s' m c e) (hlen : n + m ≤ 1000000) (hbase : base ≤ w.heap.size)
    (h : ∀ s2 c2 w2, OwnN w2 base s2 (n + m) c2 (d ++ e) → GrewBut w w2 base s0 → wpList Tryz.prog ops Q rest (a.put o.dst (.slice s2 (n + m) c2)) w2) :
    wpList Tryz.prog ops Q (o :: rest) a w := by
  obtain ⟨s2, c2, w2, h0, h1, h2⟩ := run_ap_nd w o.type base s0 n cap d e hown s' m c he hlen hbase
  refine wpList_plain hgd fun K hK => ?_
  unfold Oper.wp execOp
  simp only [ho, resolve, invoke, builtin, Sem.run_bind, Sem.run_pure, Result.andThen_ok, List.map_toArray, List.map_cons, List.map_nil, hs, hx, h0]
  exact hK _ _ (h s2 c2 w2 h1 ⟨h2, fun b hb => (hown.lt b hb).2⟩)
/-- What append does, and where the row lies. -/
theorem run_apx_nd (w : World) (rt : TypeId) (base : Nat) (s : Option Addr) (n cap : Nat) (d e : List Nd) (hown : OwnN w base s n cap d) (s' : Option Addr) (m c : Nat) (he : IsNds w s' m c e) (hlen : n + m ≤ 1000000) (hbase : base ≤ w.heap.size) :
    ∃ s2 c2 w2, (Builtin.append_ #[22, 22] rt #[.slice s n cap, .slice s' m c]).run Tryz.prog w = .ok (.slice s2 (n + m) c2) w2
      ∧ OwnN w2 base s2 (n + m) c2 (d ++ e) ∧ w.grownBy w2 (s.map (·.block)) ∧ ∀ a, s2 = some a → s.map (·.block) = some a.block ∨ a.block = w.heap.size := by
  obtain ⟨i, hi, hz, hsz, hby⟩ := info_nd
  have hnc := hown.is.2.1
  obtain ⟨hm, _, hs⟩ := he
  obtain ⟨hn, hr, hz0⟩ := hown
  have key : ∀ (x : Addr), (∀ j u, (flatN e)[j]? = some u → w.cell? (x.add j) = some u) → ∃ s2 c2 w2, (Builtin.append_ #[22, 22] rt #[.slice s n cap, .slice (some x) m c]).run Tryz.prog w = .ok (.slice s2 (n + m) c2) w2
      ∧ OwnN w2 base s2 (n + m) c2 (d ++ e) ∧ w.grownBy w2 (s.map (·.block)) ∧ ∀ a, s2 = some a → s.map (·.block) = some a.block ∨ a.block = w.heap.size := by
    intro x hx
    obtain ⟨v', w', h0, h1, h2, h3, h4⟩ := run_append_own_at (P := Tryz.prog) w base 22 rt 63 i _ 4 32 Tryz.underlying22 hi hz hsz hby rfl (by omega) _ n (flatN d) hr x m c (flatN e) (by rw [flatN_len, hm]) hx (oneCell_flatN e) (by simp [maxLen]; omega) (by omega) hbase
    have hob : (Value.slice s n cap).ownBlock = s.map (·.block) := by cases s <;> rfl
    rw [hob] at h2 h4
    have hl : (d ++ e).length = n + m := by rw [List.length_append, hn, hm]
    have hfl : flatN d ++ flatN e = flatN (d ++ e) := (flatN_append d e).symm
    rw [hfl] at h1
    rcases h1.2 with ⟨h', h''⟩ | ⟨g', cap', cur, h', hb, hg, k⟩
    · subst h'
      have h5 : n + m = 0 := h''
      refine ⟨none, 0, w', by rw [h0, h5], ⟨hl, ?_, fun _ => rfl⟩, h2, fun a ha => by cases ha⟩
      rw [h5] at h1 ⊢
      exact h1
    · subst h'
      exact ⟨some ⟨g', 0, none⟩, cap', w', h0, ⟨hl, h1, fun k => by cases k⟩, h2, fun a ha => by
        cases ha
        rcases h4 with h4 | h4
        · exact .inl h4.symm
        · exact .inr (by simpa [Value.ownBlock] using h4)⟩
  rcases hs with rfl | ⟨b, off, rfl, hrw⟩
  · have hm0 : m = 0 := by rw [← hm]; rfl
    subst hm0
    cases s' with
    | none =>
      rw [app_none_nd _ _ _ hnc]
      exact key _ (fun j v hj => by simp [flatN] at hj)
    | some a => exact key a (fun j v hj => by simp [flatN] at hj)
  · exact key _ (fun j v hj => by rw [addr_add]; exact hrw j v hj)
theorem wpList_apx_nd {w : World} {ops : Array Oper} {rest : List Oper} {o : Oper} {a : Act} {Q : Exit → Act → World → Prop} (hgd : o.guard = none) (s x : Operand)
    (ho : o.op = .call { callee := .builtin .append, args := #[s, x], argTypes := #[22, 22] })
    (base : Nat) (s0 : Option Addr) (n cap : Nat) (d e : List Nd) (hs : a.eval s = .slice s0 n cap) (hown : OwnN w base s0 n cap d)
    (s' : Option Addr) (m c : Nat) (hx : a.eval x = .slice s' m c) (he : IsNds w s' m c e) (hlen : n + m ≤ 1000000) (hbase : base ≤ w.heap.size)
    (z : Nat) (hz : z ≤ w.heap.size) (h : ∀ s2 c2 w2, OwnN w2 base s2 (n + m) c2 (d ++ e) → GrewBut w w2 base s0 → Lies s0 s2 z → wpList Tryz.prog ops Q rest (a.put o.dst (.slice s2 (n + m) c2)) w2) :
    wpList Tryz.prog ops Q (o :: rest) a w := by
  obtain ⟨s2, c2, w2, h0, h1, h2, h3⟩ := run_apx_nd w o.type base s0 n cap d e hown s' m c he hlen hbase
  refine wpList_plain hgd fun K hK => ?_
  unfold Oper.wp execOp
  simp only [ho, resolve, invoke, builtin, Sem.run_bind, Sem.run_pure, Result.andThen_ok, List.map_toArray, List.map_cons, List.map_nil, hs, hx, h0]
  exact hK _ _ (h s2 c2 w2 h1 ⟨h2, fun b hb => (hown.lt b hb).2⟩ fun a ha => (h3 a ha).imp id fun e => by omega)
/-- The call owns a row, or it is nil. -/
def OwnE (w : World) (base : Nat) (s : Option Addr) (n cap : Nat) (d : List Ed) : Prop :=
  d.length = n ∧ w.ownsRow base 61 3 (.slice s n cap) n (flatE d) ∧ (s = none → cap = 0)
theorem OwnE.nil (w : World) (base : Nat) : OwnE w base none 0 0 [] := ⟨rfl, World.ownsRow_nil w base _ _, fun _ => rfl⟩
theorem OwnE.keep {w w' : World} {base n cap : Nat} {s : Option Addr} {d : List Ed} (h : OwnE w base s n cap d) (hk : ∀ a, s = some a → w'.heap[a.block]? = w.heap[a.block]?) : OwnE w' base s n cap d := by
  obtain ⟨h1, h2, h3⟩ := h
  refine ⟨h1, ⟨h2.1, ?_⟩, h3⟩
  rcases h2.2 with h' | ⟨g, cap', cur, h', hb, hg, r⟩
  · exact .inl h'
  · simp only [Value.slice.injEq] at h'
    obtain ⟨rfl, _, rfl⟩ := h'
    exact .inr ⟨g, cap, cur, rfl, hb, (hk _ rfl).trans hg, r⟩
theorem OwnE.lt {w : World} {base n cap : Nat} {s : Option Addr} {d : List Ed} (h : OwnE w base s n cap d) : ∀ a, s = some a → a.block < w.heap.size ∧ base ≤ a.block := by
  intro a ha
  rcases h.2.1.2 with ⟨h', _⟩ | ⟨g, cap', cur, h', hb, hg, r⟩
  · simp only [Value.slice.injEq] at h'
    rw [ha] at h'; cases h'.1
  · simp only [Value.slice.injEq] at h'
    rw [ha] at h'
    cases h'.1
    exact ⟨(Array.getElem?_eq_some_iff.1 hg).1, hb⟩
theorem OwnE.later {w w' : World} {base n cap : Nat} {s : Option Addr} {d : List Ed} (h : OwnE w base s n cap d) (hg : Grow w w') : OwnE w' base s n cap d :=
  h.keep fun a ha => hg.block _ (h.lt a ha).1
theorem OwnE.is {w : World} {base n cap : Nat} {s : Option Addr} {d : List Ed} (h : OwnE w base s n cap d) : IsEds w s n cap d := by
  obtain ⟨h1, h2, h3⟩ := h
  rcases h2.2 with ⟨h', h''⟩ | ⟨g, cap', cur, h', hb, hg, k1, k2, k3, k4⟩
  · have hn : n = 0 := h''
    refine ⟨h1, by omega, .inl ?_⟩
    exact List.eq_nil_of_length_eq_zero (by omega)
  · simp only [Value.slice.injEq] at h'
    obtain ⟨rfl, _, rfl⟩ := h'
    refine ⟨h1, k1, .inr ⟨g, 0, rfl, fun j v hj => ?_⟩⟩
    have hj' : j < n * 3 := by rw [← h1, ← flatE_len]; exact (List.getElem?_eq_some_iff.1 hj).1
    have := World.ownsRow.cellAt h2 j hj'
    rw [Nat.zero_add, this]; exact hj
theorem OwnE.rebase {w : World} {base base' n cap : Nat} {s : Option Addr} {d : List Ed} (h : OwnE w base s n cap d) (hb : base' ≤ base) : OwnE w base' s n cap d :=
  ⟨h.1, ⟨h.2.1.1, h.2.1.2.imp id fun ⟨g, cap', cur, e, hg, r⟩ => ⟨g, cap', cur, e, Nat.le_trans hb hg, r⟩⟩, h.2.2⟩
theorem OwnE.lit0 (w : World) (base : Nat) (hb : base ≤ w.heap.size) : OwnE (w.alloc (.cells #[] 61)) base (some ⟨w.heap.size, 0, none⟩) 0 0 [] :=
  ⟨rfl, ⟨rfl, .inr ⟨w.heap.size, 0, #[], rfl, hb, (MapKept.heap_alloc w _).1, Nat.le_refl _, Nat.zero_le _, rfl, rfl⟩⟩, fun h => by cases h⟩
theorem info_ed : ∃ i, Tryz.prog.info? 61 = some i ∧ i.zero = some (.agg #[.int .i64 0, .int .i64 0, .int .i64 0]) ∧ i.size = 3 ∧ i.bytes = 24 := by
  cases hi : Tryz.prog.info? 61 with
  | none =>
    have : (Tryz.prog.info? 61).isSome = true := by kernel_rfl
    rw [hi] at this; cases this
  | some i =>
    have hz : (Tryz.prog.info? 61).map (·.zero) = some (some (.agg #[.int .i64 0, .int .i64 0, .int .i64 0])) := by kernel_rfl
    have hs : (Tryz.prog.info? 61).map (·.size) = some 3 := by kernel_rfl
    have hb : (Tryz.prog.info? 61).map (·.bytes) = some 24 := by kernel_rfl
    rw [hi] at hz hs hb
    simp only [Option.map_some, Option.some.injEq] at hz hs hb
    exact ⟨i, rfl, hz, hs, hb⟩
theorem app_none_ed (s : Option Addr) (n cap : Nat) (hn : n ≤ cap) (c : Nat) (rt : TypeId) (w : World) :
    (Builtin.append_ #[23, 23] rt #[.slice s n cap, .slice none 0 c]).run Tryz.prog w = (Builtin.append_ #[23, 23] rt #[.slice s n cap, .slice (some ⟨0, 0, none⟩) 0 c]).run Tryz.prog w := by
  obtain ⟨i, hi, hz, hsz, hby⟩ := info_ed
  have hl : (loadCells ⟨0, 0, none⟩ 0).run Tryz.prog w = .ok #[] w := by simpa using run_loadCells_list (P := Tryz.prog) w ⟨0, 0, none⟩ [] (by simp)
  cases s <;> simp [Builtin.append_, run_underlying Tryz.underlying23, sizeOf, typeInfo, hi, Builtin.lenOf, Builtin.firstCells, hl, hn]
/-- What append does. -/
theorem run_ap_ed (w : World) (rt : TypeId) (base : Nat) (s : Option Addr) (n cap : Nat) (d e : List Ed) (hown : OwnE w base s n cap d) (s' : Option Addr) (m c : Nat) (he : IsEds w s' m c e) (hlen : n + m ≤ 1000000) (hbase : base ≤ w.heap.size) :
    ∃ s2 c2 w2, (Builtin.append_ #[23, 23] rt #[.slice s n cap, .slice s' m c]).run Tryz.prog w = .ok (.slice s2 (n + m) c2) w2
      ∧ OwnE w2 base s2 (n + m) c2 (d ++ e) ∧ w.grownBy w2 (s.map (·.block)) := by
  obtain ⟨i, hi, hz, hsz, hby⟩ := info_ed
  have hnc := hown.is.2.1
  obtain ⟨hm, _, hs⟩ := he
  obtain ⟨hn, hr, hz0⟩ := hown
  have key : ∀ (x : Addr), (∀ j u, (flatE e)[j]? = some u → w.cell? (x.add j) = some u) → ∃ s2 c2 w2, (Builtin.append_ #[23, 23] rt #[.slice s n cap, .slice (some x) m c]).run Tryz.prog w = .ok (.slice s2 (n + m) c2) w2
      ∧ OwnE w2 base s2 (n + m) c2 (d ++ e) ∧ w.grownBy w2 (s.map (·.block)) := by
    intro x hx
    obtain ⟨v', w', h0, h1, h2, h3, h4⟩ := run_append_own_at (P := Tryz.prog) w base 23 rt 61 i _ 3 24 Tryz.underlying23 hi hz hsz hby rfl (by omega) _ n (flatE d) hr x m c (flatE e) (by rw [flatE_len, hm]) hx (oneCell_flatE e) (by simp [maxLen]; omega) (by omega) hbase
    have hob : (Value.slice s n cap).ownBlock = s.map (·.block) := by cases s <;> rfl
    rw [hob] at h2 h4
    have hl : (d ++ e).length = n + m := by rw [List.length_append, hn, hm]
    have hfl : flatE d ++ flatE e = flatE (d ++ e) := (flatE_append d e).symm
    rw [hfl] at h1
    rcases h1.2 with ⟨h', h''⟩ | ⟨g', cap', cur, h', hb, hg, k⟩
    · subst h'
      have h5 : n + m = 0 := h''
      refine ⟨none, 0, w', by rw [h0, h5], ⟨hl, ?_, fun _ => rfl⟩, h2⟩
      rw [h5] at h1 ⊢
      exact h1
    · subst h'
      exact ⟨some ⟨g', 0, none⟩, cap', w', h0, ⟨hl, h1, fun k => by cases k⟩, h2⟩
  rcases hs with rfl | ⟨b, off, rfl, hrw⟩
  · have hm0 : m = 0 := by rw [← hm]; rfl
    subst hm0
    cases s' with
    | none =>
      rw [app_none_ed _ _ _ hnc]
      exact key _ (fun j v hj => by simp [flatE] at hj)
    | some a => exact key a (fun j v hj => by simp [flatE] at hj)
  · exact key _ (fun j v hj => by rw [addr_add]; exact hrw j v hj)
theorem wpList_apd_ed {w : World} {ops : Array Oper} {rest : List Oper} {o : Oper} {a : Act} {Q : Exit → Act → World → Prop} (hgd : o.guard = none) (s x : Operand)
    (ho : o.op = .call { callee := .builtin .append, args := #[s, x], argTypes := #[23, 23] })
    (base : Nat) (s0 : Option Addr) (n cap : Nat) (d e : List Ed) (hs : a.eval s = .slice s0 n cap) (hown : OwnE w base s0 n cap d)
    (s' : Option Addr) (m c : Nat) (hx : a.eval x = .slice s' m c) (he : IsEds w s' m c e) (hlen : n + m ≤ 1000000) (hbase : base ≤ w.heap.size)
    (h : ∀ s2 c2 w2, OwnE w2 base s2 (n + m) c2 (d ++ e) → GrewBut w w2 base s0 → wpList Tryz.prog ops Q rest (a.put o.dst (.slice s2 (n + m) c2)) w2) :
    wpList Tryz.prog ops Q (o :: rest) a w := by
  obtain ⟨s2, c2, w2, h0, h1, h2⟩ := run_ap_ed w o.type base s0 n cap d e hown s' m c he hlen hbase
  refine wpList_plain hgd fun K hK => ?_
  unfold Oper.wp execOp
  simp only [ho, resolve, invoke, builtin, Sem.run_bind, Sem.run_pure, Result.andThen_ok, List.map_toArray, List.map_cons, List.map_nil, hs, hx, h0]
  exact hK _ _ (h s2 c2 w2 h1 ⟨h2, fun b hb => (hown.lt b hb).2⟩)
/-- What append does, and where the row lies. -/
theorem run_apx_ed (w : World) (rt : TypeId) (base : Nat) (s : Option Addr) (n cap : Nat) (d e : List Ed) (hown : OwnE w base s n cap d) (s' : Option Addr) (m c : Nat) (he : IsEds w s' m c e) (hlen : n + m ≤ 1000000) (hbase : base ≤ w.heap.size) :
    ∃ s2 c2 w2, (Builtin.append_ #[23, 23] rt #[.slice s n cap, .slice s' m c]).run Tryz.prog w = .ok (.slice s2 (n + m) c2) w2
      ∧ OwnE w2 base s2 (n + m) c2 (d ++ e) ∧ w.grownBy w2 (s.map (·.block)) ∧ ∀ a, s2 = some a → s.map (·.block) = some a.block ∨ a.block = w.heap.size := by
  obtain ⟨i, hi, hz, hsz, hby⟩ := info_ed
  have hnc := hown.is.2.1
  obtain ⟨hm, _, hs⟩ := he
  obtain ⟨hn, hr, hz0⟩ := hown
  have key : ∀ (x : Addr), (∀ j u, (flatE e)[j]? = some u → w.cell? (x.add j) = some u) → ∃ s2 c2 w2, (Builtin.append_ #[23, 23] rt #[.slice s n cap, .slice (some x) m c]).run Tryz.prog w = .ok (.slice s2 (n + m) c2) w2
      ∧ OwnE w2 base s2 (n + m) c2 (d ++ e) ∧ w.grownBy w2 (s.map (·.block)) ∧ ∀ a, s2 = some a → s.map (·.block) = some a.block ∨ a.block = w.heap.size := by
    intro x hx
    obtain ⟨v', w', h0, h1, h2, h3, h4⟩ := run_append_own_at (P := Tryz.prog) w base 23 rt 61 i _ 3 24 Tryz.underlying23 hi hz hsz hby rfl (by omega) _ n (flatE d) hr x m c (flatE e) (by rw [flatE_len, hm]) hx (oneCell_flatE e) (by simp [maxLen]; omega) (by omega) hbase
    have hob : (Value.slice s n cap).ownBlock = s.map (·.block) := by cases s <;> rfl
    rw [hob] at h2 h4
    have hl : (d ++ e).length = n + m := by rw [List.length_append, hn, hm]
    have hfl : flatE d ++ flatE e = flatE (d ++ e) := (flatE_append d e).symm
    rw [hfl] at h1
    rcases h1.2 with ⟨h', h''⟩ | ⟨g', cap', cur, h', hb, hg, k⟩
    · subst h'
      have h5 : n + m = 0 := h''
      refine ⟨none, 0, w', by rw [h0, h5], ⟨hl, ?_, fun _ => rfl⟩, h2, fun a ha => by cases ha⟩
      rw [h5] at h1 ⊢
      exact h1
    · subst h'
      exact ⟨some ⟨g', 0, none⟩, cap', w', h0, ⟨hl, h1, fun k => by cases k⟩, h2, fun a ha => by
        cases ha
        rcases h4 with h4 | h4
        · exact .inl h4.symm
        · exact .inr (by simpa [Value.ownBlock] using h4)⟩
  rcases hs with rfl | ⟨b, off, rfl, hrw⟩
  · have hm0 : m = 0 := by rw [← hm]; rfl
    subst hm0
    cases s' with
    | none =>
      rw [app_none_ed _ _ _ hnc]
      exact key _ (fun j v hj => by simp [flatE] at hj)
    | some a => exact key a (fun j v hj => by simp [flatE] at hj)
  · exact key _ (fun j v hj => by rw [addr_add]; exact hrw j v hj)
theorem wpList_apx_ed {w : World} {ops : Array Oper} {rest : List Oper} {o : Oper} {a : Act} {Q : Exit → Act → World → Prop} (hgd : o.guard = none) (s x : Operand)
    (ho : o.op = .call { callee := .builtin .append, args := #[s, x], argTypes := #[23, 23] })
    (base : Nat) (s0 : Option Addr) (n cap : Nat) (d e : List Ed) (hs : a.eval s = .slice s0 n cap) (hown : OwnE w base s0 n cap d)
    (s' : Option Addr) (m c : Nat) (hx : a.eval x = .slice s' m c) (he : IsEds w s' m c e) (hlen : n + m ≤ 1000000) (hbase : base ≤ w.heap.size)
    (z : Nat) (hz : z ≤ w.heap.size) (h : ∀ s2 c2 w2, OwnE w2 base s2 (n + m) c2 (d ++ e) → GrewBut w w2 base s0 → Lies s0 s2 z → wpList Tryz.prog ops Q rest (a.put o.dst (.slice s2 (n + m) c2)) w2) :
    wpList Tryz.prog ops Q (o :: rest) a w := by
  obtain ⟨s2, c2, w2, h0, h1, h2, h3⟩ := run_apx_ed w o.type base s0 n cap d e hown s' m c he hlen hbase
  refine wpList_plain hgd fun K hK => ?_
  unfold Oper.wp execOp
  simp only [ho, resolve, invoke, builtin, Sem.run_bind, Sem.run_pure, Result.andThen_ok, List.map_toArray, List.map_cons, List.map_nil, hs, hx, h0]
  exact hK _ _ (h s2 c2 w2 h1 ⟨h2, fun b hb => (hown.lt b hb).2⟩ fun a ha => (h3 a ha).imp id fun e => by omega)

/-! ## Rows of Booleans -/
def flatB (d : List Bool) : List Value := d.map Value.bool
theorem flatB_len (d : List Bool) : (flatB d).length = d.length * 1 := by simp [flatB]
/-- The call owns a row of Booleans. -/
def OwnB (w : World) (base : Nat) (g n : Nat) (d : List Bool) : Prop :=
  d.length = n ∧ base ≤ g ∧ w.ownsRow base 4 1 (.slice (some ⟨g, 0, none⟩) n n) n (flatB d)
theorem OwnB.heap {w : World} {base g n : Nat} {d : List Bool} (h : OwnB w base g n d) : ∃ cur, w.heap[g]? = some (.cells cur 4 (0, 0)) := by
  rcases h.2.2.2 with ⟨h', _⟩ | ⟨g', cap', cur, h', hb, hg, r⟩
  · simp at h'
  · simp only [Value.slice.injEq, Option.some.injEq, Addr.mk.injEq, and_true, true_and] at h'
    obtain ⟨rfl, rfl⟩ := h'
    exact ⟨cur, hg⟩
theorem OwnB.lt {w : World} {base g n : Nat} {d : List Bool} (h : OwnB w base g n d) : g < w.heap.size := by
  obtain ⟨cur, hg⟩ := h.heap
  exact (Array.getElem?_eq_some_iff.1 hg).1
theorem OwnB.keep {w w' : World} {base g n : Nat} {d : List Bool} (h : OwnB w base g n d) (hk : w'.heap[g]? = w.heap[g]?) : OwnB w' base g n d := by
  obtain ⟨h1, h0, h2⟩ := h
  refine ⟨h1, h0, ⟨h2.1, ?_⟩⟩
  rcases h2.2 with ⟨h', _⟩ | ⟨g', cap', cur, h', hb, hg, r⟩
  · simp at h'
  · simp only [Value.slice.injEq, Option.some.injEq, Addr.mk.injEq, and_true, true_and] at h'
    obtain ⟨rfl, rfl⟩ := h'
    exact .inr ⟨g, n, cur, rfl, hb, hk.trans hg, r⟩
theorem OwnB.later {w w' : World} {base g n : Nat} {d : List Bool} (h : OwnB w base g n d) (hg : Grow w w') : OwnB w' base g n d := h.keep (hg.block _ h.lt)
theorem OwnB.stored {w : World} {base g n : Nat} {d : List Bool} (h : OwnB w base g n d) (j : Nat) (x : Bool) :
    OwnB (w.setCell ⟨g, j, none⟩ (.bool x)) base g n (d.set j x) ∧ w.grownBy (w.setCell ⟨g, j, none⟩ (.bool x)) (some g) := by
  have := World.ownsRow.stored h.2.2 j (.bool x)
  refine ⟨⟨by rw [List.length_set]; exact h.1, h.2.1, ?_⟩, this.2⟩
  have e : flatB (d.set j x) = (flatB d).set j (.bool x) := by simp [flatB, List.map_set]
  rw [e]; exact this.1
theorem OwnB.cell {w : World} {base g n : Nat} {d : List Bool} (h : OwnB w base g n d) (j : Nat) (hj : j < d.length) : w.cell? ⟨g, j, none⟩ = some (.bool (d.getD j false)) := by
  have := World.ownsRow.cellAt h.2.2 j (by have := h.1; omega)
  rw [this]
  simp [flatB, hj]
theorem OwnB.free {w : World} {base g n : Nat} {d : List Bool} (h : OwnB w base g n d) (j : Nat) : w.frozen? ⟨g, j, none⟩ = false := World.ownsRow.frozenAt h.2.2 j
theorem make_bool (n : Nat) (hn : n ≤ 1000000) (w : World) : (Instr.makeSlice 117 (.int .i64 (n : Int)) (.int .i64 (n : Int))).run Tryz.prog w = .ok (.slice (some ⟨w.heap.size, 0, none⟩) n n) (w.alloc (.cells (madeCells #[.bool false] n) 4)) := by
  cases hi : Tryz.prog.info? 4 with
  | none =>
    have : (Tryz.prog.info? 4).isSome = true := by kernel_rfl
    rw [hi] at this; cases this
  | some i =>
    have hz : (Tryz.prog.info? 4).map (·.zero) = some (some (.bool false)) := by kernel_rfl
    have hs : (Tryz.prog.info? 4).map (·.size) = some 1 := by kernel_rfl
    have hb : (Tryz.prog.info? 4).map (·.bytes) = some 1 := by kernel_rfl
    rw [hi] at hz hs hb
    simp only [Option.map_some, Option.some.injEq] at hz hs hb
    have := run_make (P := Tryz.prog) w 117 4 i (.bool false) Tryz.underlying117 hi hz .i64 .i64 n n (by omega) (by omega) (by rw [hb]; omega) (by omega)
    rw [this, hs]
    simp [Value.cells]
theorem made_bool (n : Nat) : (madeCells #[.bool false] n).toList = flatB (List.replicate n false) := by
  have e : ∀ i : Nat, (#[Value.bool false] : Array Value)[i % 1]! = Value.bool false := fun i => by rw [Nat.mod_one]; rfl
  simp [madeCells, flatB, Nat.mod_one, List.map_const']
theorem OwnB.new {w : World} {base n : Nat} (hb : base ≤ w.heap.size) (hn : n ≤ 1000000) : OwnB (w.alloc (.cells (madeCells #[.bool false] n) 4)) base w.heap.size n (List.replicate n false) := by
  have := World.ownsRow_lit (base := base) (e := 4) (size := 1) w (madeCells #[.bool false] n) n hb (by simp [maxLen]; omega) (by rw [size_madeCells]; omega)
  rw [made_bool] at this
  exact ⟨by simp, hb, this⟩
/-- make of a row of Booleans. -/
theorem wpList_mkB {ops : Array Oper} {rest : List Oper} {o : Oper} {a : Act} {w : World} {Q : Exit → Act → World → Prop} (hgd : o.guard = none) (l c : Operand) (ho : o.op = .makeSlice 117 l c) (n : Nat) (hn : n ≤ 1000000)
    (hl : a.eval l = .int .i64 (n : Int)) (hc : a.eval c = .int .i64 (n : Int)) (base : Nat) (hb : base ≤ w.heap.size) (h : ∀ w2, Grow w w2 → OwnB w2 base w.heap.size n (List.replicate n false) → w2.heap.size = w.heap.size + 1 → wpList Tryz.prog ops Q rest (a.put o.dst (.slice (some ⟨w.heap.size, 0, none⟩) n n)) w2) :
    wpList Tryz.prog ops Q (o :: rest) a w := by
  refine wpList_plain hgd fun K hK => ?_
  have hrun := make_bool n hn w
  unfold Oper.wp
  simp [execOp, ho, hl, hc, hrun, Result.andThen]
  exact hK _ _ (h _ (Grow.alloc' _ _) (OwnB.new hb hn) (by simp))
/-- The Booleans that lie in a block. -/
def bitsOf (w : World) (g n : Nat) : List Bool := (List.range n).map fun i => match w.cell? ⟨g, i, none⟩ with | some (.bool b) => b | _ => false
theorem OwnB.bits {w : World} {base g n : Nat} {d : List Bool} (h : OwnB w base g n d) : bitsOf w g n = d := by
  have hl := h.1
  refine List.ext_getElem (by simp [bitsOf, hl]) fun i h1 h2 => ?_
  have := h.cell i h2
  simp [bitsOf, this, h2]
def lenV : Value → Nat
  | .slice _ n _ => n
  | _ => 0

/-! ## The first numbers of a row -/
theorem OwnI.pop {w : World} {base n cap : Nat} {s : Option Addr} {d : List Int} {x : Int} (h : OwnI w base s (n + 1) cap (d ++ [x])) : OwnI w base s n cap d := by
  obtain ⟨h1, h2, h3⟩ := h
  have hl : d.length = n := by simpa using h1
  refine ⟨hl, ⟨by rw [flatI_len, hl], ?_⟩, h3⟩
  rcases h2.2 with ⟨_, h'⟩ | ⟨g, cap', cur, h', hb, hg, k1, k2, k3, k4⟩
  · omega
  · simp only [Value.slice.injEq] at h'
    obtain ⟨rfl, _, rfl⟩ := h'
    refine .inr ⟨g, cap, cur, rfl, hb, hg, by omega, k2, k3, ?_⟩
    have e : flatI (d ++ [x]) = flatI d ++ [.int .i64 x] := by simp [flatI]
    rw [e] at k4
    have h5 := congrArg (List.take (n * 1)) k4
    rw [List.take_take, List.take_left' (by simp [flatI, hl])] at h5
    rw [← h5]
    congr 1
    omega
theorem OwnI.some' {w : World} {base n cap : Nat} {s : Option Addr} {d : List Int} (h : OwnI w base s n cap d) (hn : 0 < n) : ∃ g, s = some ⟨g, 0, none⟩ := by
  rcases h.2.1.2 with ⟨h', h''⟩ | ⟨g, cap', cur, h', _⟩
  · omega
  · simp only [Value.slice.injEq] at h'
    exact ⟨g, h'.1⟩
theorem run_headI (a : Option Addr) (n cap k : Nat) (w : World) (h1 : (k : Int) ≤ (cap : Int)) :
    (Instr.slice 115 (.slice a n cap) none (some (.int .i64 (k : Int))) none).run Tryz.prog w = .ok (.slice a k cap) w := by
  have h0 : (0 : Int) ≤ (k : Int) := by omega
  have z := Tryz.sizeOf3
  cases a with
  | none => simp [go_sem, h1]
  | some a =>
    obtain ⟨b, o, s⟩ := a
    by_cases hc : cap = 0
    · have hk : k = 0 := by omega
      subst hk
      simp [go_sem, hc]
    · simp [go_sem, h1, hc]
theorem OwnI.lit1 (w : World) (base : Nat) (hb : base ≤ w.heap.size) (x : Int) : OwnI (w.alloc (.cells #[.int .i64 x] 3)) base (some ⟨w.heap.size, 0, none⟩) 1 1 [x] :=
  ⟨rfl, World.ownsRow_lit w #[.int .i64 x] 1 hb (by simp [maxLen]) rfl, fun h => by cases h⟩

end Go.Proofs.YtehianjfpmbfpaaGreat
