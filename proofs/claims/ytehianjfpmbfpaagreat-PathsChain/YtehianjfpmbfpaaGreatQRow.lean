/-
  Rows of steps, the program's and the document's, and of changes: their cells one behind the other, where they lie, those that a call has made by append; boxes of them; how changes that come in as arguments are opened.
-/
import Derived.Test.YtehianjfpmbfpaaGreatHBlk
import Derived.Test.YtehianjfpmbfpaaGreatQGr
import Derived.Test.YtehianjfpmbfpaaGreatRowA
import Derived.Maps.AppendAt
import Derived.Laws.OwnMore
import Derived.Laws.Tables
import Derived.Laws.CopyOwn
import Derived.Deep.Slices
namespace Go.Proofs.YtehianjfpmbfpaaGreat
set_option maxRecDepth 100000
open Go.ChangeShapes Go.WideShapes Go.ChangeAt Go.RowKit Go.Deep
set_option linter.unusedVariables false
set_option linter.unusedSimpArgs false

/-- A change: a place, a time, how many. -/
structure Ch where
  l : Lc
  t : Tm
  n : Int
/-- It lies in a block. -/
def BoxP (w : World) (b : Nat) (t : Sp) : Prop := w.cell? ⟨b, 0, none⟩ = some (.int .i64 t.b.n) ∧ w.cell? ⟨b, 1, none⟩ = some (.int .i64 t.b.p) ∧ w.cell? ⟨b, 2, none⟩ = some (.int .i64 t.r.f) ∧ w.cell? ⟨b, 3, none⟩ = some (.int .i64 t.r.t) ∧ w.cell? ⟨b, 4, none⟩ = some (.int .i64 t.r.k) ∧ w.cell? ⟨b, 5, none⟩ = some (.int .i64 t.r.ep) ∧ w.cell? ⟨b, 6, none⟩ = some (.int .i64 t.r.x) ∧ w.cell? ⟨b, 7, none⟩ = some (.int .i64 t.r.y) ∧ w.cell? ⟨b, 8, none⟩ = some (.int .i64 t.r.z)
theorem BoxP.later {w w' : World} {b : Nat} {t : Sp} (hg : Grow w w') (h : BoxP w b t) : BoxP w' b t := by
  obtain ⟨h0, h1, h2, h3, h4, h5, h6, h7, h8⟩ := h
  exact ⟨cell_later hg h0, cell_later hg h1, cell_later hg h2, cell_later hg h3, cell_later hg h4, cell_later hg h5, cell_later hg h6, cell_later hg h7, cell_later hg h8⟩
theorem BoxP.new (w : World) (t : Sp) : BoxP (w.alloc (.cells #[.int .i64 t.b.n, .int .i64 t.b.p, .int .i64 t.r.f, .int .i64 t.r.t, .int .i64 t.r.k, .int .i64 t.r.ep, .int .i64 t.r.x, .int .i64 t.r.y, .int .i64 t.r.z] 120)) w.heap.size t := by simp [BoxP, go_sem]
theorem BoxP.lt {w : World} {b : Nat} {t : Sp} (h : BoxP w b t) : b < w.heap.size := World.block_lt_of_cell? _ _ h.1
def encP (t : Sp) : List Value := [.int .i64 t.b.n, .int .i64 t.b.p, .int .i64 t.r.f, .int .i64 t.r.t, .int .i64 t.r.k, .int .i64 t.r.ep, .int .i64 t.r.x, .int .i64 t.r.y, .int .i64 t.r.z]
theorem encP_len (t : Sp) : (encP t).length = 9 := rfl
/-- The cells of a row. -/
def flatP (d : List Sp) : List Value := d.flatMap encP
theorem flatP_nil : flatP [] = [] := rfl
theorem flatP_cons (t : Sp) (d : List Sp) : flatP (t :: d) = encP t ++ flatP d := rfl
theorem flatP_append (d e : List Sp) : flatP (d ++ e) = flatP d ++ flatP e := by simp [flatP]
theorem flatP_len : ∀ d : List Sp, (flatP d).length = d.length * 9
  | [] => rfl
  | t :: d => by rw [flatP_cons, List.length_append, flatP_len d, encP_len, List.length_cons]; omega
theorem flatP_drop : ∀ (d : List Sp) (j : Nat), (flatP d).drop (j * 9) = flatP (d.drop j)
  | [], j => by simp [flatP]
  | t :: d, 0 => by simp
  | t :: d, j + 1 => by
    rw [flatP_cons, show (j + 1) * 9 = (encP t).length + j * 9 by rw [encP_len]; omega, List.drop_append, List.drop_of_length_le (by omega)]
    simpa using flatP_drop d j
theorem flatP_take : ∀ (d : List Sp) (j : Nat), (flatP d).take (j * 9) = flatP (d.take j)
  | [], j => by simp [flatP]
  | t :: d, 0 => by simp [flatP]
  | t :: d, j + 1 => by
    rw [flatP_cons, show (j + 1) * 9 = (encP t).length + j * 9 by rw [encP_len]; omega, List.take_length_add_append, flatP_take d j]
    rfl
theorem flatP_get (d : List Sp) (j i : Nat) (hj : j < d.length) (hi : i < 9) : (flatP d)[j * 9 + i]? = (encP d[j])[i]? := by
  rw [← List.getElem?_drop, flatP_drop, List.drop_eq_getElem_cons hj, flatP_cons, List.getElem?_append_left (by rw [encP_len]; exact hi)]
theorem oneCell_encP (x : Sp) : ∀ v ∈ encP x, v.oneCell' = true := by
  intro v hv
  simp [encP] at hv
  rcases hv with rfl | rfl | rfl | rfl | rfl | rfl | rfl | rfl | rfl <;> rfl
theorem oneCell_flatP (d : List Sp) : ∀ v ∈ flatP d, v.oneCell' = true := by
  intro v hv
  obtain ⟨x, _, hx⟩ := List.mem_flatMap.1 hv
  exact oneCell_encP x v hx
/-- A row lies in a block. -/
def RowP (w : World) (b o : Nat) (d : List Sp) : Prop := ∀ (j : Nat) v, (flatP d)[j]? = some v → w.cell? ⟨b, o + j, none⟩ = some v
theorem RowP.later {w w' : World} {b o : Nat} {d : List Sp} (hg : Grow w w') (h : RowP w b o d) : RowP w' b o d := fun j v hj => cell_later hg (h j v hj)
theorem RowP.at {w : World} {b o : Nat} {d : List Sp} (h : RowP w b o d) (j : Nat) (hj : j < d.length) :
    w.cell? ⟨b, o + j * 9, none⟩ = some (.int .i64 d[j].b.n) ∧ w.cell? ⟨b, o + j * 9 + 1, none⟩ = some (.int .i64 d[j].b.p) ∧ w.cell? ⟨b, o + j * 9 + 2, none⟩ = some (.int .i64 d[j].r.f) ∧ w.cell? ⟨b, o + j * 9 + 3, none⟩ = some (.int .i64 d[j].r.t) ∧ w.cell? ⟨b, o + j * 9 + 4, none⟩ = some (.int .i64 d[j].r.k) ∧ w.cell? ⟨b, o + j * 9 + 5, none⟩ = some (.int .i64 d[j].r.ep) ∧ w.cell? ⟨b, o + j * 9 + 6, none⟩ = some (.int .i64 d[j].r.x) ∧ w.cell? ⟨b, o + j * 9 + 7, none⟩ = some (.int .i64 d[j].r.y) ∧ w.cell? ⟨b, o + j * 9 + 8, none⟩ = some (.int .i64 d[j].r.z) := by
  have k (i : Nat) (hi : i < 9) (v : Value) (hv : (encP d[j])[i]? = some v) : w.cell? ⟨b, o + (j * 9 + i), none⟩ = some v := h _ v (by rw [flatP_get d j i hj hi]; exact hv)
  exact ⟨k 0 (by omega) _ rfl, k 1 (by omega) _ rfl, k 2 (by omega) _ rfl, k 3 (by omega) _ rfl, k 4 (by omega) _ rfl, k 5 (by omega) _ rfl, k 6 (by omega) _ rfl, k 7 (by omega) _ rfl, k 8 (by omega) _ rfl⟩
theorem RowP.take' {w : World} {b o : Nat} {d : List Sp} (h : RowP w b o d) (k : Nat) : RowP w b o (d.take k) := by
  intro j v hj
  rw [← flatP_take] at hj
  refine h j v ?_
  rw [List.getElem?_take] at hj
  split at hj
  · exact hj
  · cases hj
theorem RowP_one (w : World) (t : Sp) : RowP (w.alloc (.cells #[.int .i64 t.b.n, .int .i64 t.b.p, .int .i64 t.r.f, .int .i64 t.r.t, .int .i64 t.r.k, .int .i64 t.r.ep, .int .i64 t.r.x, .int .i64 t.r.y, .int .i64 t.r.z] 120)) w.heap.size 0 [t] := by
  intro j v hj
  have hj' : j < 9 := by
    have := (List.getElem?_eq_some_iff.1 hj).1
    rw [flatP_len] at this
    simpa using this
  have e : flatP [t] = encP t := by simp [flatP]
  rw [e] at hj
  have : j = 0 ∨ j = 1 ∨ j = 2 ∨ j = 3 ∨ j = 4 ∨ j = 5 ∨ j = 6 ∨ j = 7 ∨ j = 8 := by omega
  rcases this with rfl | rfl | rfl | rfl | rfl | rfl | rfl | rfl | rfl <;> simp [encP] at hj <;> subst hj <;> simp [go_sem]
theorem RowP_of {w : World} {b o : Nat} (f : Nat → Sp) (n : Nat) (h : ∀ i, i < n → ∀ j : Nat, j < 9 → w.cell? ⟨b, o + (i * 9 + j), none⟩ = (encP (f i))[j]?) : RowP w b o ((List.range n).map f) := by
  intro k v hk
  have hk' : k < n * 9 := by
    have := (List.getElem?_eq_some_iff.1 hk).1
    rw [flatP_len] at this
    simpa using this
  have e : k = k / 9 * 9 + k % 9 := by omega
  have h1 := flatP_get ((List.range n).map f) (k / 9) (k % 9) (by simp; omega) (by omega)
  rw [← e, hk] at h1
  have h2 := h (k / 9) (by omega) (k % 9) (by omega)
  rw [← e] at h2
  rw [h2, h1]
  simp
/-- A slice that came in. -/
def IsSps (w : World) (s : Option Addr) (n cap : Nat) (d : List Sp) : Prop :=
  d.length = n ∧ n ≤ cap ∧ (d = [] ∨ ∃ b o, s = some ⟨b, o, none⟩ ∧ RowP w b o d)
theorem IsSps.later {w w' : World} {s : Option Addr} {n cap : Nat} {d : List Sp} (hg : Grow w w') (h : IsSps w s n cap d) : IsSps w' s n cap d :=
  ⟨h.1, h.2.1, h.2.2.imp id fun ⟨b, o, e, r⟩ => ⟨b, o, e, r.later hg⟩⟩
/-- The first k of them. -/
theorem IsSps.take' {w : World} {s : Option Addr} {n cap : Nat} {d : List Sp} (h : IsSps w s n cap d) (k : Nat) (hk : k ≤ n) : IsSps w s k cap (d.take k) :=
  ⟨by rw [List.length_take, h.1]; omega, by have := h.2.1; omega, h.2.2.imp (fun e => by rw [e]; simp) fun ⟨b, o, e, r⟩ => ⟨b, o, e, r.take' k⟩⟩
theorem IsSps_nil (w : World) : IsSps w none 0 0 [] := ⟨rfl, Nat.le_refl _, .inl rfl⟩
/-- The call owns a row, or it is nil. -/
def OwnP (w : World) (base : Nat) (s : Option Addr) (n cap : Nat) (d : List Sp) : Prop :=
  d.length = n ∧ w.ownsRow base 120 9 (.slice s n cap) n (flatP d) ∧ (s = none → cap = 0)
theorem OwnP.nil (w : World) (base : Nat) : OwnP w base none 0 0 [] := ⟨rfl, World.ownsRow_nil w base _ _, fun _ => rfl⟩
theorem OwnP.keep {w w' : World} {base n cap : Nat} {s : Option Addr} {d : List Sp} (h : OwnP w base s n cap d) (hk : ∀ a, s = some a → w'.heap[a.block]? = w.heap[a.block]?) : OwnP w' base s n cap d := by
  obtain ⟨h1, h2, h3⟩ := h
  refine ⟨h1, ⟨h2.1, ?_⟩, h3⟩
  rcases h2.2 with h' | ⟨g, cap', cur, h', hb, hg, r⟩
  · exact .inl h'
  · simp only [Value.slice.injEq] at h'
    obtain ⟨rfl, _, rfl⟩ := h'
    exact .inr ⟨g, cap, cur, rfl, hb, (hk _ rfl).trans hg, r⟩
theorem OwnP.lt {w : World} {base n cap : Nat} {s : Option Addr} {d : List Sp} (h : OwnP w base s n cap d) : ∀ a, s = some a → a.block < w.heap.size ∧ base ≤ a.block := by
  intro a ha
  rcases h.2.1.2 with ⟨h', _⟩ | ⟨g, cap', cur, h', hb, hg, r⟩
  · simp only [Value.slice.injEq] at h'
    rw [ha] at h'; cases h'.1
  · simp only [Value.slice.injEq] at h'
    rw [ha] at h'
    cases h'.1
    exact ⟨(Array.getElem?_eq_some_iff.1 hg).1, hb⟩
theorem OwnP.later {w w' : World} {base n cap : Nat} {s : Option Addr} {d : List Sp} (h : OwnP w base s n cap d) (hg : Grow w w') : OwnP w' base s n cap d :=
  h.keep fun a ha => hg.block _ (h.lt a ha).1
theorem OwnP.is {w : World} {base n cap : Nat} {s : Option Addr} {d : List Sp} (h : OwnP w base s n cap d) : IsSps w s n cap d := by
  obtain ⟨h1, h2, h3⟩ := h
  rcases h2.2 with ⟨h', h''⟩ | ⟨g, cap', cur, h', hb, hg, k1, k2, k3, k4⟩
  · have hn : n = 0 := h''
    refine ⟨h1, by omega, .inl ?_⟩
    exact List.eq_nil_of_length_eq_zero (by omega)
  · simp only [Value.slice.injEq] at h'
    obtain ⟨rfl, _, rfl⟩ := h'
    refine ⟨h1, k1, .inr ⟨g, 0, rfl, fun j v hj => ?_⟩⟩
    have hj' : j < n * 9 := by rw [← h1, ← flatP_len]; exact (List.getElem?_eq_some_iff.1 hj).1
    have := World.ownsRow.cellAt h2 j hj'
    rw [Nat.zero_add, this]; exact hj
theorem OwnP.rebase {w : World} {base base' n cap : Nat} {s : Option Addr} {d : List Sp} (h : OwnP w base s n cap d) (hb : base' ≤ base) : OwnP w base' s n cap d :=
  ⟨h.1, ⟨h.2.1.1, h.2.1.2.imp id fun ⟨g, cap', cur, e, hg, r⟩ => ⟨g, cap', cur, e, Nat.le_trans hb hg, r⟩⟩, h.2.2⟩
theorem OwnP.lit0 (w : World) (base : Nat) (hb : base ≤ w.heap.size) : OwnP (w.alloc (.cells #[] 120)) base (some ⟨w.heap.size, 0, none⟩) 0 0 [] :=
  ⟨rfl, ⟨rfl, .inr ⟨w.heap.size, 0, #[], rfl, hb, (MapKept.heap_alloc w _).1, Nat.le_refl _, Nat.zero_le _, rfl, rfl⟩⟩, fun h => by cases h⟩
theorem info_sp : ∃ i, Tryz.prog.info? 120 = some i ∧ i.zero = some (.agg #[.int .i64 0, .int .i64 0, .int .i64 0, .int .i64 0, .int .i64 0, .int .i64 0, .int .i64 0, .int .i64 0, .int .i64 0]) ∧ i.size = 9 ∧ i.bytes = 72 := by
  cases hi : Tryz.prog.info? 120 with
  | none =>
    have : (Tryz.prog.info? 120).isSome = true := by kernel_rfl
    rw [hi] at this; cases this
  | some i =>
    have hz : (Tryz.prog.info? 120).map (·.zero) = some (some (.agg #[.int .i64 0, .int .i64 0, .int .i64 0, .int .i64 0, .int .i64 0, .int .i64 0, .int .i64 0, .int .i64 0, .int .i64 0])) := by kernel_rfl
    have hs : (Tryz.prog.info? 120).map (·.size) = some 9 := by kernel_rfl
    have hb : (Tryz.prog.info? 120).map (·.bytes) = some 72 := by kernel_rfl
    rw [hi] at hz hs hb
    simp only [Option.map_some, Option.some.injEq] at hz hs hb
    exact ⟨i, rfl, hz, hs, hb⟩
theorem app_none_sp (s : Option Addr) (n cap : Nat) (hn : n ≤ cap) (c : Nat) (rt : TypeId) (w : World) :
    (Builtin.append_ #[96, 96] rt #[.slice s n cap, .slice none 0 c]).run Tryz.prog w = (Builtin.append_ #[96, 96] rt #[.slice s n cap, .slice (some ⟨0, 0, none⟩) 0 c]).run Tryz.prog w := by
  obtain ⟨i, hi, hz, hsz, hby⟩ := info_sp
  have hl : (loadCells ⟨0, 0, none⟩ 0).run Tryz.prog w = .ok #[] w := by simpa using run_loadCells_list (P := Tryz.prog) w ⟨0, 0, none⟩ [] (by simp)
  cases s <;> simp [Builtin.append_, run_underlying Tryz.underlying96, sizeOf, typeInfo, hi, Builtin.lenOf, Builtin.firstCells, hl, hn]
/-- What append does. -/
theorem run_ap_sp (w : World) (rt : TypeId) (base : Nat) (s : Option Addr) (n cap : Nat) (d e : List Sp) (hown : OwnP w base s n cap d) (s' : Option Addr) (m c : Nat) (he : IsSps w s' m c e) (hlen : n + m ≤ 1000000000000) (hbase : base ≤ w.heap.size) :
    ∃ s2 c2 w2, (Builtin.append_ #[96, 96] rt #[.slice s n cap, .slice s' m c]).run Tryz.prog w = .ok (.slice s2 (n + m) c2) w2
      ∧ OwnP w2 base s2 (n + m) c2 (d ++ e) ∧ w.grownBy w2 (s.map (·.block)) := by
  obtain ⟨i, hi, hz, hsz, hby⟩ := info_sp
  have hnc := hown.is.2.1
  obtain ⟨hm, _, hs⟩ := he
  obtain ⟨hn, hr, hz0⟩ := hown
  have key : ∀ (x : Addr), (∀ j u, (flatP e)[j]? = some u → w.cell? (x.add j) = some u) → ∃ s2 c2 w2, (Builtin.append_ #[96, 96] rt #[.slice s n cap, .slice (some x) m c]).run Tryz.prog w = .ok (.slice s2 (n + m) c2) w2
      ∧ OwnP w2 base s2 (n + m) c2 (d ++ e) ∧ w.grownBy w2 (s.map (·.block)) := by
    intro x hx
    obtain ⟨v', w', h0, h1, h2, h3, h4⟩ := run_append_own_at (P := Tryz.prog) w base 96 rt 120 i _ 9 72 Tryz.underlying96 hi hz hsz hby rfl (by omega) _ n (flatP d) hr x m c (flatP e) (by rw [flatP_len, hm]) hx (oneCell_flatP e) (by simp [maxLen]; omega) (by omega) hbase
    have hob : (Value.slice s n cap).ownBlock = s.map (·.block) := by cases s <;> rfl
    rw [hob] at h2 h4
    have hl : (d ++ e).length = n + m := by rw [List.length_append, hn, hm]
    have hfl : flatP d ++ flatP e = flatP (d ++ e) := (flatP_append d e).symm
    rw [hfl] at h1
    rcases h1.2 with ⟨h', h''⟩ | ⟨g', cap', cur, h', hb, hg, k⟩
    · subst h'
      have h5 : n + m = 0 := h''
      refine ⟨none, 0, w', by rw [h0, h5], ⟨hl, ?_, fun _ => rfl⟩, h2⟩
      rw [h5] at h1 ⊢
      exact h1
    · subst h'
      exact ⟨some ⟨g', 0, none⟩, cap', w', h0, ⟨hl, h1, fun k => by cases k⟩, h2⟩
  rcases hs with rfl | ⟨b, off, rfl, hrw⟩
  · have hm0 : m = 0 := by rw [← hm]; rfl
    subst hm0
    cases s' with
    | none =>
      rw [app_none_sp _ _ _ hnc]
      exact key _ (fun j v hj => by simp [flatP] at hj)
    | some a => exact key a (fun j v hj => by simp [flatP] at hj)
  · exact key _ (fun j v hj => by rw [addr_add]; exact hrw j v hj)
theorem wpList_apd_sp {w : World} {ops : Array Oper} {rest : List Oper} {o : Oper} {a : Act} {Q : Exit → Act → World → Prop} (hgd : o.guard = none) (s x : Operand)
    (ho : o.op = .call { callee := .builtin .append, args := #[s, x], argTypes := #[96, 96] })
    (base : Nat) (s0 : Option Addr) (n cap : Nat) (d e : List Sp) (hs : a.eval s = .slice s0 n cap) (hown : OwnP w base s0 n cap d)
    (s' : Option Addr) (m c : Nat) (hx : a.eval x = .slice s' m c) (he : IsSps w s' m c e) (hlen : n + m ≤ 1000000000000) (hbase : base ≤ w.heap.size)
    (h : ∀ s2 c2 w2, OwnP w2 base s2 (n + m) c2 (d ++ e) → GrewBut w w2 base s0 → wpList Tryz.prog ops Q rest (a.put o.dst (.slice s2 (n + m) c2)) w2) :
    wpList Tryz.prog ops Q (o :: rest) a w := by
  obtain ⟨s2, c2, w2, h0, h1, h2⟩ := run_ap_sp w o.type base s0 n cap d e hown s' m c he hlen hbase
  refine wpList_plain hgd fun K hK => ?_
  unfold Oper.wp execOp
  simp only [ho, resolve, invoke, builtin, Sem.run_bind, Sem.run_pure, Result.andThen_ok, List.map_toArray, List.map_cons, List.map_nil, hs, hx, h0]
  exact hK _ _ (h s2 c2 w2 h1 ⟨h2, fun b hb => (hown.lt b hb).2⟩)
/-- A block of the call's own, for one of these. -/
def BlkP (w : World) (b : Nat) : Prop := ∃ cs, w.heap[b]? = some (.cells cs 120 (0, 0)) ∧ cs.size = 9
theorem BlkP.lt {w : World} {b : Nat} (h : BlkP w b) : b < w.heap.size := by
  obtain ⟨cs, h, k⟩ := h
  exact (Array.getElem?_eq_some_iff.1 h).1
theorem BlkP.new (w : World) (cs : Array Value) (hc : cs.size = 9) : BlkP (w.alloc (.cells cs 120)) w.heap.size := ⟨_, (MapKept.heap_alloc w _).1, hc⟩
theorem BlkP.box {w : World} {b : Nat} (h : BlkP w b) (t : Sp) : BoxP (w.setRow b #[.int .i64 t.b.n, .int .i64 t.b.p, .int .i64 t.r.f, .int .i64 t.r.t, .int .i64 t.r.k, .int .i64 t.r.ep, .int .i64 t.r.x, .int .i64 t.r.y, .int .i64 t.r.z]) b t := by
  obtain ⟨cs, h, _⟩ := h
  exact ⟨by rw [cell_setRow_same w b 0 _ _ _ _ h]; rfl, by rw [cell_setRow_same w b 1 _ _ _ _ h]; rfl, by rw [cell_setRow_same w b 2 _ _ _ _ h]; rfl, by rw [cell_setRow_same w b 3 _ _ _ _ h]; rfl, by rw [cell_setRow_same w b 4 _ _ _ _ h]; rfl, by rw [cell_setRow_same w b 5 _ _ _ _ h]; rfl, by rw [cell_setRow_same w b 6 _ _ _ _ h]; rfl, by rw [cell_setRow_same w b 7 _ _ _ _ h]; rfl, by rw [cell_setRow_same w b 8 _ _ _ _ h]; rfl⟩
theorem wpList_putP {ops : Array Oper} {rest : List Oper} {o : Oper} {a : Act} {w : World} {Q : Exit → Act → World → Prop} (hgd : o.guard = none) (x y : Operand) (ho : o.op = .store 120 x y) (b : Nat) (t : Sp)
    (hx : a.eval x = .pointer (some ⟨b, 0, none⟩)) (hy : a.eval y = .agg #[.int .i64 t.b.n, .int .i64 t.b.p, .int .i64 t.r.f, .int .i64 t.r.t, .int .i64 t.r.k, .int .i64 t.r.ep, .int .i64 t.r.x, .int .i64 t.r.y, .int .i64 t.r.z]) (hb : BlkP w b) (W : World) (hg : Grow W w) (hW : W.heap.size ≤ b) (h : ∀ w2, Grow W w2 → BoxP w2 b t → w2.heap.size = w.heap.size → wpList Tryz.prog ops Q rest (a.put o.dst undef) w2) : wpList Tryz.prog ops Q (o :: rest) a w := by
  have hb' := hb
  obtain ⟨cs, hb1, hs⟩ := hb
  exact wpList_store_row hgd 120 x y ho b _ hx hy _ _ hb1 (by kernel_rfl) (by rw [hs]; rfl) (by simp [Value.oneCell']) (h _ (below_setRow hg hW _) (hb'.box t) (by simp [World.setRow]))
/-- It lies in a block. -/
def BoxQ (w : World) (b : Nat) (t : Stp) : Prop := w.cell? ⟨b, 0, none⟩ = some (.int .i64 t.a.n) ∧ w.cell? ⟨b, 1, none⟩ = some (.int .i64 t.a.p) ∧ w.cell? ⟨b, 2, none⟩ = some (.int .i64 t.b.n) ∧ w.cell? ⟨b, 3, none⟩ = some (.int .i64 t.b.p) ∧ w.cell? ⟨b, 4, none⟩ = some (.int .i64 t.r.f) ∧ w.cell? ⟨b, 5, none⟩ = some (.int .i64 t.r.t) ∧ w.cell? ⟨b, 6, none⟩ = some (.int .i64 t.r.k) ∧ w.cell? ⟨b, 7, none⟩ = some (.int .i64 t.r.ep) ∧ w.cell? ⟨b, 8, none⟩ = some (.int .i64 t.r.x) ∧ w.cell? ⟨b, 9, none⟩ = some (.int .i64 t.r.y) ∧ w.cell? ⟨b, 10, none⟩ = some (.int .i64 t.r.z)
theorem BoxQ.later {w w' : World} {b : Nat} {t : Stp} (hg : Grow w w') (h : BoxQ w b t) : BoxQ w' b t := by
  obtain ⟨h0, h1, h2, h3, h4, h5, h6, h7, h8, h9, h10⟩ := h
  exact ⟨cell_later hg h0, cell_later hg h1, cell_later hg h2, cell_later hg h3, cell_later hg h4, cell_later hg h5, cell_later hg h6, cell_later hg h7, cell_later hg h8, cell_later hg h9, cell_later hg h10⟩
theorem BoxQ.new (w : World) (t : Stp) : BoxQ (w.alloc (.cells #[.int .i64 t.a.n, .int .i64 t.a.p, .int .i64 t.b.n, .int .i64 t.b.p, .int .i64 t.r.f, .int .i64 t.r.t, .int .i64 t.r.k, .int .i64 t.r.ep, .int .i64 t.r.x, .int .i64 t.r.y, .int .i64 t.r.z] 105)) w.heap.size t := by simp [BoxQ, go_sem]
theorem BoxQ.lt {w : World} {b : Nat} {t : Stp} (h : BoxQ w b t) : b < w.heap.size := World.block_lt_of_cell? _ _ h.1
def encQ (t : Stp) : List Value := [.int .i64 t.a.n, .int .i64 t.a.p, .int .i64 t.b.n, .int .i64 t.b.p, .int .i64 t.r.f, .int .i64 t.r.t, .int .i64 t.r.k, .int .i64 t.r.ep, .int .i64 t.r.x, .int .i64 t.r.y, .int .i64 t.r.z]
theorem encQ_len (t : Stp) : (encQ t).length = 11 := rfl
/-- The cells of a row. -/
def flatQ (d : List Stp) : List Value := d.flatMap encQ
theorem flatQ_nil : flatQ [] = [] := rfl
theorem flatQ_cons (t : Stp) (d : List Stp) : flatQ (t :: d) = encQ t ++ flatQ d := rfl
theorem flatQ_append (d e : List Stp) : flatQ (d ++ e) = flatQ d ++ flatQ e := by simp [flatQ]
theorem flatQ_len : ∀ d : List Stp, (flatQ d).length = d.length * 11
  | [] => rfl
  | t :: d => by rw [flatQ_cons, List.length_append, flatQ_len d, encQ_len, List.length_cons]; omega
theorem flatQ_drop : ∀ (d : List Stp) (j : Nat), (flatQ d).drop (j * 11) = flatQ (d.drop j)
  | [], j => by simp [flatQ]
  | t :: d, 0 => by simp
  | t :: d, j + 1 => by
    rw [flatQ_cons, show (j + 1) * 11 = (encQ t).length + j * 11 by rw [encQ_len]; omega, List.drop_append, List.drop_of_length_le (by omega)]
    simpa using flatQ_drop d j
theorem flatQ_take : ∀ (d : List Stp) (j : Nat), (flatQ d).take (j * 11) = flatQ (d.take j)
  | [], j => by simp [flatQ]
  | t :: d, 0 => by simp [flatQ]
  | t :: d, j + 1 => by
    rw [flatQ_cons, show (j + 1) * 11 = (encQ t).length + j * 11 by rw [encQ_len]; omega, List.take_length_add_append, flatQ_take d j]
    rfl
theorem flatQ_get (d : List Stp) (j i : Nat) (hj : j < d.length) (hi : i < 11) : (flatQ d)[j * 11 + i]? = (encQ d[j])[i]? := by
  rw [← List.getElem?_drop, flatQ_drop, List.drop_eq_getElem_cons hj, flatQ_cons, List.getElem?_append_left (by rw [encQ_len]; exact hi)]
theorem oneCell_encQ (x : Stp) : ∀ v ∈ encQ x, v.oneCell' = true := by
  intro v hv
  simp [encQ] at hv
  rcases hv with rfl | rfl | rfl | rfl | rfl | rfl | rfl | rfl | rfl | rfl | rfl <;> rfl
theorem oneCell_flatQ (d : List Stp) : ∀ v ∈ flatQ d, v.oneCell' = true := by
  intro v hv
  obtain ⟨x, _, hx⟩ := List.mem_flatMap.1 hv
  exact oneCell_encQ x v hx
/-- A row lies in a block. -/
def RowQ (w : World) (b o : Nat) (d : List Stp) : Prop := ∀ (j : Nat) v, (flatQ d)[j]? = some v → w.cell? ⟨b, o + j, none⟩ = some v
theorem RowQ.later {w w' : World} {b o : Nat} {d : List Stp} (hg : Grow w w') (h : RowQ w b o d) : RowQ w' b o d := fun j v hj => cell_later hg (h j v hj)
theorem RowQ.at {w : World} {b o : Nat} {d : List Stp} (h : RowQ w b o d) (j : Nat) (hj : j < d.length) :
    w.cell? ⟨b, o + j * 11, none⟩ = some (.int .i64 d[j].a.n) ∧ w.cell? ⟨b, o + j * 11 + 1, none⟩ = some (.int .i64 d[j].a.p) ∧ w.cell? ⟨b, o + j * 11 + 2, none⟩ = some (.int .i64 d[j].b.n) ∧ w.cell? ⟨b, o + j * 11 + 3, none⟩ = some (.int .i64 d[j].b.p) ∧ w.cell? ⟨b, o + j * 11 + 4, none⟩ = some (.int .i64 d[j].r.f) ∧ w.cell? ⟨b, o + j * 11 + 5, none⟩ = some (.int .i64 d[j].r.t) ∧ w.cell? ⟨b, o + j * 11 + 6, none⟩ = some (.int .i64 d[j].r.k) ∧ w.cell? ⟨b, o + j * 11 + 7, none⟩ = some (.int .i64 d[j].r.ep) ∧ w.cell? ⟨b, o + j * 11 + 8, none⟩ = some (.int .i64 d[j].r.x) ∧ w.cell? ⟨b, o + j * 11 + 9, none⟩ = some (.int .i64 d[j].r.y) ∧ w.cell? ⟨b, o + j * 11 + 10, none⟩ = some (.int .i64 d[j].r.z) := by
  have k (i : Nat) (hi : i < 11) (v : Value) (hv : (encQ d[j])[i]? = some v) : w.cell? ⟨b, o + (j * 11 + i), none⟩ = some v := h _ v (by rw [flatQ_get d j i hj hi]; exact hv)
  exact ⟨k 0 (by omega) _ rfl, k 1 (by omega) _ rfl, k 2 (by omega) _ rfl, k 3 (by omega) _ rfl, k 4 (by omega) _ rfl, k 5 (by omega) _ rfl, k 6 (by omega) _ rfl, k 7 (by omega) _ rfl, k 8 (by omega) _ rfl, k 9 (by omega) _ rfl, k 10 (by omega) _ rfl⟩
theorem RowQ.take' {w : World} {b o : Nat} {d : List Stp} (h : RowQ w b o d) (k : Nat) : RowQ w b o (d.take k) := by
  intro j v hj
  rw [← flatQ_take] at hj
  refine h j v ?_
  rw [List.getElem?_take] at hj
  split at hj
  · exact hj
  · cases hj
theorem RowQ_one (w : World) (t : Stp) : RowQ (w.alloc (.cells #[.int .i64 t.a.n, .int .i64 t.a.p, .int .i64 t.b.n, .int .i64 t.b.p, .int .i64 t.r.f, .int .i64 t.r.t, .int .i64 t.r.k, .int .i64 t.r.ep, .int .i64 t.r.x, .int .i64 t.r.y, .int .i64 t.r.z] 105)) w.heap.size 0 [t] := by
  intro j v hj
  have hj' : j < 11 := by
    have := (List.getElem?_eq_some_iff.1 hj).1
    rw [flatQ_len] at this
    simpa using this
  have e : flatQ [t] = encQ t := by simp [flatQ]
  rw [e] at hj
  have : j = 0 ∨ j = 1 ∨ j = 2 ∨ j = 3 ∨ j = 4 ∨ j = 5 ∨ j = 6 ∨ j = 7 ∨ j = 8 ∨ j = 9 ∨ j = 10 := by omega
  rcases this with rfl | rfl | rfl | rfl | rfl | rfl | rfl | rfl | rfl | rfl | rfl <;> simp [encQ] at hj <;> subst hj <;> simp [go_sem]
theorem RowQ_of {w : World} {b o : Nat} (f : Nat → Stp) (n : Nat) (h : ∀ i, i < n → ∀ j : Nat, j < 11 → w.cell? ⟨b, o + (i * 11 + j), none⟩ = (encQ (f i))[j]?) : RowQ w b o ((List.range n).map f) := by
  intro k v hk
  have hk' : k < n * 11 := by
    have := (List.getElem?_eq_some_iff.1 hk).1
    rw [flatQ_len] at this
    simpa using this
  have e : k = k / 11 * 11 + k % 11 := by omega
  have h1 := flatQ_get ((List.range n).map f) (k / 11) (k % 11) (by simp; omega) (by omega)
  rw [← e, hk] at h1
  have h2 := h (k / 11) (by omega) (k % 11) (by omega)
  rw [← e] at h2
  rw [h2, h1]
  simp
/-- A slice that came in. -/
def IsSts (w : World) (s : Option Addr) (n cap : Nat) (d : List Stp) : Prop :=
  d.length = n ∧ n ≤ cap ∧ (d = [] ∨ ∃ b o, s = some ⟨b, o, none⟩ ∧ RowQ w b o d)
theorem IsSts.later {w w' : World} {s : Option Addr} {n cap : Nat} {d : List Stp} (hg : Grow w w') (h : IsSts w s n cap d) : IsSts w' s n cap d :=
  ⟨h.1, h.2.1, h.2.2.imp id fun ⟨b, o, e, r⟩ => ⟨b, o, e, r.later hg⟩⟩
/-- The first k of them. -/
theorem IsSts.take' {w : World} {s : Option Addr} {n cap : Nat} {d : List Stp} (h : IsSts w s n cap d) (k : Nat) (hk : k ≤ n) : IsSts w s k cap (d.take k) :=
  ⟨by rw [List.length_take, h.1]; omega, by have := h.2.1; omega, h.2.2.imp (fun e => by rw [e]; simp) fun ⟨b, o, e, r⟩ => ⟨b, o, e, r.take' k⟩⟩
theorem IsSts_nil (w : World) : IsSts w none 0 0 [] := ⟨rfl, Nat.le_refl _, .inl rfl⟩
/-- The call owns a row, or it is nil. -/
def OwnQ (w : World) (base : Nat) (s : Option Addr) (n cap : Nat) (d : List Stp) : Prop :=
  d.length = n ∧ w.ownsRow base 105 11 (.slice s n cap) n (flatQ d) ∧ (s = none → cap = 0)
theorem OwnQ.nil (w : World) (base : Nat) : OwnQ w base none 0 0 [] := ⟨rfl, World.ownsRow_nil w base _ _, fun _ => rfl⟩
theorem OwnQ.keep {w w' : World} {base n cap : Nat} {s : Option Addr} {d : List Stp} (h : OwnQ w base s n cap d) (hk : ∀ a, s = some a → w'.heap[a.block]? = w.heap[a.block]?) : OwnQ w' base s n cap d := by
  obtain ⟨h1, h2, h3⟩ := h
  refine ⟨h1, ⟨h2.1, ?_⟩, h3⟩
  rcases h2.2 with h' | ⟨g, cap', cur, h', hb, hg, r⟩
  · exact .inl h'
  · simp only [Value.slice.injEq] at h'
    obtain ⟨rfl, _, rfl⟩ := h'
    exact .inr ⟨g, cap, cur, rfl, hb, (hk _ rfl).trans hg, r⟩
theorem OwnQ.lt {w : World} {base n cap : Nat} {s : Option Addr} {d : List Stp} (h : OwnQ w base s n cap d) : ∀ a, s = some a → a.block < w.heap.size ∧ base ≤ a.block := by
  intro a ha
  rcases h.2.1.2 with ⟨h', _⟩ | ⟨g, cap', cur, h', hb, hg, r⟩
  · simp only [Value.slice.injEq] at h'
    rw [ha] at h'; cases h'.1
  · simp only [Value.slice.injEq] at h'
    rw [ha] at h'
    cases h'.1
    exact ⟨(Array.getElem?_eq_some_iff.1 hg).1, hb⟩
theorem OwnQ.later {w w' : World} {base n cap : Nat} {s : Option Addr} {d : List Stp} (h : OwnQ w base s n cap d) (hg : Grow w w') : OwnQ w' base s n cap d :=
  h.keep fun a ha => hg.block _ (h.lt a ha).1
theorem OwnQ.is {w : World} {base n cap : Nat} {s : Option Addr} {d : List Stp} (h : OwnQ w base s n cap d) : IsSts w s n cap d := by
  obtain ⟨h1, h2, h3⟩ := h
  rcases h2.2 with ⟨h', h''⟩ | ⟨g, cap', cur, h', hb, hg, k1, k2, k3, k4⟩
  · have hn : n = 0 := h''
    refine ⟨h1, by omega, .inl ?_⟩
    exact List.eq_nil_of_length_eq_zero (by omega)
  · simp only [Value.slice.injEq] at h'
    obtain ⟨rfl, _, rfl⟩ := h'
    refine ⟨h1, k1, .inr ⟨g, 0, rfl, fun j v hj => ?_⟩⟩
    have hj' : j < n * 11 := by rw [← h1, ← flatQ_len]; exact (List.getElem?_eq_some_iff.1 hj).1
    have := World.ownsRow.cellAt h2 j hj'
    rw [Nat.zero_add, this]; exact hj
theorem OwnQ.rebase {w : World} {base base' n cap : Nat} {s : Option Addr} {d : List Stp} (h : OwnQ w base s n cap d) (hb : base' ≤ base) : OwnQ w base' s n cap d :=
  ⟨h.1, ⟨h.2.1.1, h.2.1.2.imp id fun ⟨g, cap', cur, e, hg, r⟩ => ⟨g, cap', cur, e, Nat.le_trans hb hg, r⟩⟩, h.2.2⟩
theorem OwnQ.lit0 (w : World) (base : Nat) (hb : base ≤ w.heap.size) : OwnQ (w.alloc (.cells #[] 105)) base (some ⟨w.heap.size, 0, none⟩) 0 0 [] :=
  ⟨rfl, ⟨rfl, .inr ⟨w.heap.size, 0, #[], rfl, hb, (MapKept.heap_alloc w _).1, Nat.le_refl _, Nat.zero_le _, rfl, rfl⟩⟩, fun h => by cases h⟩
theorem info_st : ∃ i, Tryz.prog.info? 105 = some i ∧ i.zero = some (.agg #[.int .i64 0, .int .i64 0, .int .i64 0, .int .i64 0, .int .i64 0, .int .i64 0, .int .i64 0, .int .i64 0, .int .i64 0, .int .i64 0, .int .i64 0]) ∧ i.size = 11 ∧ i.bytes = 88 := by
  cases hi : Tryz.prog.info? 105 with
  | none =>
    have : (Tryz.prog.info? 105).isSome = true := by kernel_rfl
    rw [hi] at this; cases this
  | some i =>
    have hz : (Tryz.prog.info? 105).map (·.zero) = some (some (.agg #[.int .i64 0, .int .i64 0, .int .i64 0, .int .i64 0, .int .i64 0, .int .i64 0, .int .i64 0, .int .i64 0, .int .i64 0, .int .i64 0, .int .i64 0])) := by kernel_rfl
    have hs : (Tryz.prog.info? 105).map (·.size) = some 11 := by kernel_rfl
    have hb : (Tryz.prog.info? 105).map (·.bytes) = some 88 := by kernel_rfl
    rw [hi] at hz hs hb
    simp only [Option.map_some, Option.some.injEq] at hz hs hb
    exact ⟨i, rfl, hz, hs, hb⟩
theorem app_none_st (s : Option Addr) (n cap : Nat) (hn : n ≤ cap) (c : Nat) (rt : TypeId) (w : World) :
    (Builtin.append_ #[102, 102] rt #[.slice s n cap, .slice none 0 c]).run Tryz.prog w = (Builtin.append_ #[102, 102] rt #[.slice s n cap, .slice (some ⟨0, 0, none⟩) 0 c]).run Tryz.prog w := by
  obtain ⟨i, hi, hz, hsz, hby⟩ := info_st
  have hl : (loadCells ⟨0, 0, none⟩ 0).run Tryz.prog w = .ok #[] w := by simpa using run_loadCells_list (P := Tryz.prog) w ⟨0, 0, none⟩ [] (by simp)
  cases s <;> simp [Builtin.append_, run_underlying Tryz.underlying102, sizeOf, typeInfo, hi, Builtin.lenOf, Builtin.firstCells, hl, hn]
/-- What append does. -/
theorem run_ap_st (w : World) (rt : TypeId) (base : Nat) (s : Option Addr) (n cap : Nat) (d e : List Stp) (hown : OwnQ w base s n cap d) (s' : Option Addr) (m c : Nat) (he : IsSts w s' m c e) (hlen : n + m ≤ 1000000000000) (hbase : base ≤ w.heap.size) :
    ∃ s2 c2 w2, (Builtin.append_ #[102, 102] rt #[.slice s n cap, .slice s' m c]).run Tryz.prog w = .ok (.slice s2 (n + m) c2) w2
      ∧ OwnQ w2 base s2 (n + m) c2 (d ++ e) ∧ w.grownBy w2 (s.map (·.block)) := by
  obtain ⟨i, hi, hz, hsz, hby⟩ := info_st
  have hnc := hown.is.2.1
  obtain ⟨hm, _, hs⟩ := he
  obtain ⟨hn, hr, hz0⟩ := hown
  have key : ∀ (x : Addr), (∀ j u, (flatQ e)[j]? = some u → w.cell? (x.add j) = some u) → ∃ s2 c2 w2, (Builtin.append_ #[102, 102] rt #[.slice s n cap, .slice (some x) m c]).run Tryz.prog w = .ok (.slice s2 (n + m) c2) w2
      ∧ OwnQ w2 base s2 (n + m) c2 (d ++ e) ∧ w.grownBy w2 (s.map (·.block)) := by
    intro x hx
    obtain ⟨v', w', h0, h1, h2, h3, h4⟩ := run_append_own_at (P := Tryz.prog) w base 102 rt 105 i _ 11 88 Tryz.underlying102 hi hz hsz hby rfl (by omega) _ n (flatQ d) hr x m c (flatQ e) (by rw [flatQ_len, hm]) hx (oneCell_flatQ e) (by simp [maxLen]; omega) (by omega) hbase
    have hob : (Value.slice s n cap).ownBlock = s.map (·.block) := by cases s <;> rfl
    rw [hob] at h2 h4
    have hl : (d ++ e).length = n + m := by rw [List.length_append, hn, hm]
    have hfl : flatQ d ++ flatQ e = flatQ (d ++ e) := (flatQ_append d e).symm
    rw [hfl] at h1
    rcases h1.2 with ⟨h', h''⟩ | ⟨g', cap', cur, h', hb, hg, k⟩
    · subst h'
      have h5 : n + m = 0 := h''
      refine ⟨none, 0, w', by rw [h0, h5], ⟨hl, ?_, fun _ => rfl⟩, h2⟩
      rw [h5] at h1 ⊢
      exact h1
    · subst h'
      exact ⟨some ⟨g', 0, none⟩, cap', w', h0, ⟨hl, h1, fun k => by cases k⟩, h2⟩
  rcases hs with rfl | ⟨b, off, rfl, hrw⟩
  · have hm0 : m = 0 := by rw [← hm]; rfl
    subst hm0
    cases s' with
    | none =>
      rw [app_none_st _ _ _ hnc]
      exact key _ (fun j v hj => by simp [flatQ] at hj)
    | some a => exact key a (fun j v hj => by simp [flatQ] at hj)
  · exact key _ (fun j v hj => by rw [addr_add]; exact hrw j v hj)
theorem wpList_apd_st {w : World} {ops : Array Oper} {rest : List Oper} {o : Oper} {a : Act} {Q : Exit → Act → World → Prop} (hgd : o.guard = none) (s x : Operand)
    (ho : o.op = .call { callee := .builtin .append, args := #[s, x], argTypes := #[102, 102] })
    (base : Nat) (s0 : Option Addr) (n cap : Nat) (d e : List Stp) (hs : a.eval s = .slice s0 n cap) (hown : OwnQ w base s0 n cap d)
    (s' : Option Addr) (m c : Nat) (hx : a.eval x = .slice s' m c) (he : IsSts w s' m c e) (hlen : n + m ≤ 1000000000000) (hbase : base ≤ w.heap.size)
    (h : ∀ s2 c2 w2, OwnQ w2 base s2 (n + m) c2 (d ++ e) → GrewBut w w2 base s0 → wpList Tryz.prog ops Q rest (a.put o.dst (.slice s2 (n + m) c2)) w2) :
    wpList Tryz.prog ops Q (o :: rest) a w := by
  obtain ⟨s2, c2, w2, h0, h1, h2⟩ := run_ap_st w o.type base s0 n cap d e hown s' m c he hlen hbase
  refine wpList_plain hgd fun K hK => ?_
  unfold Oper.wp execOp
  simp only [ho, resolve, invoke, builtin, Sem.run_bind, Sem.run_pure, Result.andThen_ok, List.map_toArray, List.map_cons, List.map_nil, hs, hx, h0]
  exact hK _ _ (h s2 c2 w2 h1 ⟨h2, fun b hb => (hown.lt b hb).2⟩)
/-- A block of the call's own, for one of these. -/
def BlkQ (w : World) (b : Nat) : Prop := ∃ cs, w.heap[b]? = some (.cells cs 105 (0, 0)) ∧ cs.size = 11
theorem BlkQ.lt {w : World} {b : Nat} (h : BlkQ w b) : b < w.heap.size := by
  obtain ⟨cs, h, k⟩ := h
  exact (Array.getElem?_eq_some_iff.1 h).1
theorem BlkQ.new (w : World) (cs : Array Value) (hc : cs.size = 11) : BlkQ (w.alloc (.cells cs 105)) w.heap.size := ⟨_, (MapKept.heap_alloc w _).1, hc⟩
theorem BlkQ.box {w : World} {b : Nat} (h : BlkQ w b) (t : Stp) : BoxQ (w.setRow b #[.int .i64 t.a.n, .int .i64 t.a.p, .int .i64 t.b.n, .int .i64 t.b.p, .int .i64 t.r.f, .int .i64 t.r.t, .int .i64 t.r.k, .int .i64 t.r.ep, .int .i64 t.r.x, .int .i64 t.r.y, .int .i64 t.r.z]) b t := by
  obtain ⟨cs, h, _⟩ := h
  exact ⟨by rw [cell_setRow_same w b 0 _ _ _ _ h]; rfl, by rw [cell_setRow_same w b 1 _ _ _ _ h]; rfl, by rw [cell_setRow_same w b 2 _ _ _ _ h]; rfl, by rw [cell_setRow_same w b 3 _ _ _ _ h]; rfl, by rw [cell_setRow_same w b 4 _ _ _ _ h]; rfl, by rw [cell_setRow_same w b 5 _ _ _ _ h]; rfl, by rw [cell_setRow_same w b 6 _ _ _ _ h]; rfl, by rw [cell_setRow_same w b 7 _ _ _ _ h]; rfl, by rw [cell_setRow_same w b 8 _ _ _ _ h]; rfl, by rw [cell_setRow_same w b 9 _ _ _ _ h]; rfl, by rw [cell_setRow_same w b 10 _ _ _ _ h]; rfl⟩
theorem wpList_putQ {ops : Array Oper} {rest : List Oper} {o : Oper} {a : Act} {w : World} {Q : Exit → Act → World → Prop} (hgd : o.guard = none) (x y : Operand) (ho : o.op = .store 105 x y) (b : Nat) (t : Stp)
    (hx : a.eval x = .pointer (some ⟨b, 0, none⟩)) (hy : a.eval y = .agg #[.int .i64 t.a.n, .int .i64 t.a.p, .int .i64 t.b.n, .int .i64 t.b.p, .int .i64 t.r.f, .int .i64 t.r.t, .int .i64 t.r.k, .int .i64 t.r.ep, .int .i64 t.r.x, .int .i64 t.r.y, .int .i64 t.r.z]) (hb : BlkQ w b) (W : World) (hg : Grow W w) (hW : W.heap.size ≤ b) (h : ∀ w2, Grow W w2 → BoxQ w2 b t → w2.heap.size = w.heap.size → wpList Tryz.prog ops Q rest (a.put o.dst undef) w2) : wpList Tryz.prog ops Q (o :: rest) a w := by
  have hb' := hb
  obtain ⟨cs, hb1, hs⟩ := hb
  exact wpList_store_row hgd 105 x y ho b _ hx hy _ _ hb1 (by kernel_rfl) (by rw [hs]; rfl) (by simp [Value.oneCell']) (h _ (below_setRow hg hW _) (hb'.box t) (by simp [World.setRow]))
/-- It lies in a block. -/
def BoxC (w : World) (b : Nat) (t : Ch) : Prop := w.cell? ⟨b, 0, none⟩ = some (.int .i64 t.l.n) ∧ w.cell? ⟨b, 1, none⟩ = some (.int .i64 t.l.p) ∧ w.cell? ⟨b, 2, none⟩ = some (.int .i64 t.t.e) ∧ w.cell? ⟨b, 3, none⟩ = some (.int .i64 t.t.d) ∧ w.cell? ⟨b, 4, none⟩ = some (.int .i64 t.t.x) ∧ w.cell? ⟨b, 5, none⟩ = some (.int .i64 t.t.y) ∧ w.cell? ⟨b, 6, none⟩ = some (.int .i64 t.t.z) ∧ w.cell? ⟨b, 7, none⟩ = some (.int .i64 t.n)
theorem BoxC.later {w w' : World} {b : Nat} {t : Ch} (hg : Grow w w') (h : BoxC w b t) : BoxC w' b t := by
  obtain ⟨h0, h1, h2, h3, h4, h5, h6, h7⟩ := h
  exact ⟨cell_later hg h0, cell_later hg h1, cell_later hg h2, cell_later hg h3, cell_later hg h4, cell_later hg h5, cell_later hg h6, cell_later hg h7⟩
theorem BoxC.new (w : World) (t : Ch) : BoxC (w.alloc (.cells #[.int .i64 t.l.n, .int .i64 t.l.p, .int .i64 t.t.e, .int .i64 t.t.d, .int .i64 t.t.x, .int .i64 t.t.y, .int .i64 t.t.z, .int .i64 t.n] 45)) w.heap.size t := by simp [BoxC, go_sem]
theorem BoxC.lt {w : World} {b : Nat} {t : Ch} (h : BoxC w b t) : b < w.heap.size := World.block_lt_of_cell? _ _ h.1
def encC (t : Ch) : List Value := [.int .i64 t.l.n, .int .i64 t.l.p, .int .i64 t.t.e, .int .i64 t.t.d, .int .i64 t.t.x, .int .i64 t.t.y, .int .i64 t.t.z, .int .i64 t.n]
theorem encC_len (t : Ch) : (encC t).length = 8 := rfl
/-- The cells of a row. -/
def flatC (d : List Ch) : List Value := d.flatMap encC
theorem flatC_nil : flatC [] = [] := rfl
theorem flatC_cons (t : Ch) (d : List Ch) : flatC (t :: d) = encC t ++ flatC d := rfl
theorem flatC_append (d e : List Ch) : flatC (d ++ e) = flatC d ++ flatC e := by simp [flatC]
theorem flatC_len : ∀ d : List Ch, (flatC d).length = d.length * 8
  | [] => rfl
  | t :: d => by rw [flatC_cons, List.length_append, flatC_len d, encC_len, List.length_cons]; omega
theorem flatC_drop : ∀ (d : List Ch) (j : Nat), (flatC d).drop (j * 8) = flatC (d.drop j)
  | [], j => by simp [flatC]
  | t :: d, 0 => by simp
  | t :: d, j + 1 => by
    rw [flatC_cons, show (j + 1) * 8 = (encC t).length + j * 8 by rw [encC_len]; omega, List.drop_append, List.drop_of_length_le (by omega)]
    simpa using flatC_drop d j
theorem flatC_take : ∀ (d : List Ch) (j : Nat), (flatC d).take (j * 8) = flatC (d.take j)
  | [], j => by simp [flatC]
  | t :: d, 0 => by simp [flatC]
  | t :: d, j + 1 => by
    rw [flatC_cons, show (j + 1) * 8 = (encC t).length + j * 8 by rw [encC_len]; omega, List.take_length_add_append, flatC_take d j]
    rfl
theorem flatC_get (d : List Ch) (j i : Nat) (hj : j < d.length) (hi : i < 8) : (flatC d)[j * 8 + i]? = (encC d[j])[i]? := by
  rw [← List.getElem?_drop, flatC_drop, List.drop_eq_getElem_cons hj, flatC_cons, List.getElem?_append_left (by rw [encC_len]; exact hi)]
theorem oneCell_encC (x : Ch) : ∀ v ∈ encC x, v.oneCell' = true := by
  intro v hv
  simp [encC] at hv
  rcases hv with rfl | rfl | rfl | rfl | rfl | rfl | rfl | rfl <;> rfl
theorem oneCell_flatC (d : List Ch) : ∀ v ∈ flatC d, v.oneCell' = true := by
  intro v hv
  obtain ⟨x, _, hx⟩ := List.mem_flatMap.1 hv
  exact oneCell_encC x v hx
/-- A row lies in a block. -/
def RowCh (w : World) (b o : Nat) (d : List Ch) : Prop := ∀ (j : Nat) v, (flatC d)[j]? = some v → w.cell? ⟨b, o + j, none⟩ = some v
theorem RowCh.later {w w' : World} {b o : Nat} {d : List Ch} (hg : Grow w w') (h : RowCh w b o d) : RowCh w' b o d := fun j v hj => cell_later hg (h j v hj)
theorem RowCh.at {w : World} {b o : Nat} {d : List Ch} (h : RowCh w b o d) (j : Nat) (hj : j < d.length) :
    w.cell? ⟨b, o + j * 8, none⟩ = some (.int .i64 d[j].l.n) ∧ w.cell? ⟨b, o + j * 8 + 1, none⟩ = some (.int .i64 d[j].l.p) ∧ w.cell? ⟨b, o + j * 8 + 2, none⟩ = some (.int .i64 d[j].t.e) ∧ w.cell? ⟨b, o + j * 8 + 3, none⟩ = some (.int .i64 d[j].t.d) ∧ w.cell? ⟨b, o + j * 8 + 4, none⟩ = some (.int .i64 d[j].t.x) ∧ w.cell? ⟨b, o + j * 8 + 5, none⟩ = some (.int .i64 d[j].t.y) ∧ w.cell? ⟨b, o + j * 8 + 6, none⟩ = some (.int .i64 d[j].t.z) ∧ w.cell? ⟨b, o + j * 8 + 7, none⟩ = some (.int .i64 d[j].n) := by
  have k (i : Nat) (hi : i < 8) (v : Value) (hv : (encC d[j])[i]? = some v) : w.cell? ⟨b, o + (j * 8 + i), none⟩ = some v := h _ v (by rw [flatC_get d j i hj hi]; exact hv)
  exact ⟨k 0 (by omega) _ rfl, k 1 (by omega) _ rfl, k 2 (by omega) _ rfl, k 3 (by omega) _ rfl, k 4 (by omega) _ rfl, k 5 (by omega) _ rfl, k 6 (by omega) _ rfl, k 7 (by omega) _ rfl⟩
theorem RowCh.take' {w : World} {b o : Nat} {d : List Ch} (h : RowCh w b o d) (k : Nat) : RowCh w b o (d.take k) := by
  intro j v hj
  rw [← flatC_take] at hj
  refine h j v ?_
  rw [List.getElem?_take] at hj
  split at hj
  · exact hj
  · cases hj
theorem RowCh_one (w : World) (t : Ch) : RowCh (w.alloc (.cells #[.int .i64 t.l.n, .int .i64 t.l.p, .int .i64 t.t.e, .int .i64 t.t.d, .int .i64 t.t.x, .int .i64 t.t.y, .int .i64 t.t.z, .int .i64 t.n] 45)) w.heap.size 0 [t] := by
  intro j v hj
  have hj' : j < 8 := by
    have := (List.getElem?_eq_some_iff.1 hj).1
    rw [flatC_len] at this
    simpa using this
  have e : flatC [t] = encC t := by simp [flatC]
  rw [e] at hj
  have : j = 0 ∨ j = 1 ∨ j = 2 ∨ j = 3 ∨ j = 4 ∨ j = 5 ∨ j = 6 ∨ j = 7 := by omega
  rcases this with rfl | rfl | rfl | rfl | rfl | rfl | rfl | rfl <;> simp [encC] at hj <;> subst hj <;> simp [go_sem]
theorem RowCh_of {w : World} {b o : Nat} (f : Nat → Ch) (n : Nat) (h : ∀ i, i < n → ∀ j : Nat, j < 8 → w.cell? ⟨b, o + (i * 8 + j), none⟩ = (encC (f i))[j]?) : RowCh w b o ((List.range n).map f) := by
  intro k v hk
  have hk' : k < n * 8 := by
    have := (List.getElem?_eq_some_iff.1 hk).1
    rw [flatC_len] at this
    simpa using this
  have e : k = k / 8 * 8 + k % 8 := by omega
  have h1 := flatC_get ((List.range n).map f) (k / 8) (k % 8) (by simp; omega) (by omega)
  rw [← e, hk] at h1
  have h2 := h (k / 8) (by omega) (k % 8) (by omega)
  rw [← e] at h2
  rw [h2, h1]
  simp
/-- A slice that came in. -/
def IsChs (w : World) (s : Option Addr) (n cap : Nat) (d : List Ch) : Prop :=
  d.length = n ∧ n ≤ cap ∧ (d = [] ∨ ∃ b o, s = some ⟨b, o, none⟩ ∧ RowCh w b o d)
theorem IsChs.later {w w' : World} {s : Option Addr} {n cap : Nat} {d : List Ch} (hg : Grow w w') (h : IsChs w s n cap d) : IsChs w' s n cap d :=
  ⟨h.1, h.2.1, h.2.2.imp id fun ⟨b, o, e, r⟩ => ⟨b, o, e, r.later hg⟩⟩
/-- The first k of them. -/
theorem IsChs.take' {w : World} {s : Option Addr} {n cap : Nat} {d : List Ch} (h : IsChs w s n cap d) (k : Nat) (hk : k ≤ n) : IsChs w s k cap (d.take k) :=
  ⟨by rw [List.length_take, h.1]; omega, by have := h.2.1; omega, h.2.2.imp (fun e => by rw [e]; simp) fun ⟨b, o, e, r⟩ => ⟨b, o, e, r.take' k⟩⟩
theorem IsChs_nil (w : World) : IsChs w none 0 0 [] := ⟨rfl, Nat.le_refl _, .inl rfl⟩
/-- The call owns a row, or it is nil. -/
def OwnC (w : World) (base : Nat) (s : Option Addr) (n cap : Nat) (d : List Ch) : Prop :=
  d.length = n ∧ w.ownsRow base 45 8 (.slice s n cap) n (flatC d) ∧ (s = none → cap = 0)
theorem OwnC.nil (w : World) (base : Nat) : OwnC w base none 0 0 [] := ⟨rfl, World.ownsRow_nil w base _ _, fun _ => rfl⟩
theorem OwnC.keep {w w' : World} {base n cap : Nat} {s : Option Addr} {d : List Ch} (h : OwnC w base s n cap d) (hk : ∀ a, s = some a → w'.heap[a.block]? = w.heap[a.block]?) : OwnC w' base s n cap d := by
  obtain ⟨h1, h2, h3⟩ := h
  refine ⟨h1, ⟨h2.1, ?_⟩, h3⟩
  rcases h2.2 with h' | ⟨g, cap', cur, h', hb, hg, r⟩
  · exact .inl h'
  · simp only [Value.slice.injEq] at h'
    obtain ⟨rfl, _, rfl⟩ := h'
    exact .inr ⟨g, cap, cur, rfl, hb, (hk _ rfl).trans hg, r⟩
theorem OwnC.lt {w : World} {base n cap : Nat} {s : Option Addr} {d : List Ch} (h : OwnC w base s n cap d) : ∀ a, s = some a → a.block < w.heap.size ∧ base ≤ a.block := by
  intro a ha
  rcases h.2.1.2 with ⟨h', _⟩ | ⟨g, cap', cur, h', hb, hg, r⟩
  · simp only [Value.slice.injEq] at h'
    rw [ha] at h'; cases h'.1
  · simp only [Value.slice.injEq] at h'
    rw [ha] at h'
    cases h'.1
    exact ⟨(Array.getElem?_eq_some_iff.1 hg).1, hb⟩
theorem OwnC.later {w w' : World} {base n cap : Nat} {s : Option Addr} {d : List Ch} (h : OwnC w base s n cap d) (hg : Grow w w') : OwnC w' base s n cap d :=
  h.keep fun a ha => hg.block _ (h.lt a ha).1
theorem OwnC.is {w : World} {base n cap : Nat} {s : Option Addr} {d : List Ch} (h : OwnC w base s n cap d) : IsChs w s n cap d := by
  obtain ⟨h1, h2, h3⟩ := h
  rcases h2.2 with ⟨h', h''⟩ | ⟨g, cap', cur, h', hb, hg, k1, k2, k3, k4⟩
  · have hn : n = 0 := h''
    refine ⟨h1, by omega, .inl ?_⟩
    exact List.eq_nil_of_length_eq_zero (by omega)
  · simp only [Value.slice.injEq] at h'
    obtain ⟨rfl, _, rfl⟩ := h'
    refine ⟨h1, k1, .inr ⟨g, 0, rfl, fun j v hj => ?_⟩⟩
    have hj' : j < n * 8 := by rw [← h1, ← flatC_len]; exact (List.getElem?_eq_some_iff.1 hj).1
    have := World.ownsRow.cellAt h2 j hj'
    rw [Nat.zero_add, this]; exact hj
theorem OwnC.rebase {w : World} {base base' n cap : Nat} {s : Option Addr} {d : List Ch} (h : OwnC w base s n cap d) (hb : base' ≤ base) : OwnC w base' s n cap d :=
  ⟨h.1, ⟨h.2.1.1, h.2.1.2.imp id fun ⟨g, cap', cur, e, hg, r⟩ => ⟨g, cap', cur, e, Nat.le_trans hb hg, r⟩⟩, h.2.2⟩
theorem OwnC.lit0 (w : World) (base : Nat) (hb : base ≤ w.heap.size) : OwnC (w.alloc (.cells #[] 45)) base (some ⟨w.heap.size, 0, none⟩) 0 0 [] :=
  ⟨rfl, ⟨rfl, .inr ⟨w.heap.size, 0, #[], rfl, hb, (MapKept.heap_alloc w _).1, Nat.le_refl _, Nat.zero_le _, rfl, rfl⟩⟩, fun h => by cases h⟩
theorem info_ch : ∃ i, Tryz.prog.info? 45 = some i ∧ i.zero = some (.agg #[.int .i64 0, .int .i64 0, .int .i64 0, .int .i64 0, .int .i64 0, .int .i64 0, .int .i64 0, .int .i64 0]) ∧ i.size = 8 ∧ i.bytes = 64 := by
  cases hi : Tryz.prog.info? 45 with
  | none =>
    have : (Tryz.prog.info? 45).isSome = true := by kernel_rfl
    rw [hi] at this; cases this
  | some i =>
    have hz : (Tryz.prog.info? 45).map (·.zero) = some (some (.agg #[.int .i64 0, .int .i64 0, .int .i64 0, .int .i64 0, .int .i64 0, .int .i64 0, .int .i64 0, .int .i64 0])) := by kernel_rfl
    have hs : (Tryz.prog.info? 45).map (·.size) = some 8 := by kernel_rfl
    have hb : (Tryz.prog.info? 45).map (·.bytes) = some 64 := by kernel_rfl
    rw [hi] at hz hs hb
    simp only [Option.map_some, Option.some.injEq] at hz hs hb
    exact ⟨i, rfl, hz, hs, hb⟩
theorem app_none_ch (s : Option Addr) (n cap : Nat) (hn : n ≤ cap) (c : Nat) (rt : TypeId) (w : World) :
    (Builtin.append_ #[37, 37] rt #[.slice s n cap, .slice none 0 c]).run Tryz.prog w = (Builtin.append_ #[37, 37] rt #[.slice s n cap, .slice (some ⟨0, 0, none⟩) 0 c]).run Tryz.prog w := by
  obtain ⟨i, hi, hz, hsz, hby⟩ := info_ch
  have hl : (loadCells ⟨0, 0, none⟩ 0).run Tryz.prog w = .ok #[] w := by simpa using run_loadCells_list (P := Tryz.prog) w ⟨0, 0, none⟩ [] (by simp)
  cases s <;> simp [Builtin.append_, run_underlying Tryz.underlying37, sizeOf, typeInfo, hi, Builtin.lenOf, Builtin.firstCells, hl, hn]
/-- What append does. -/
theorem run_ap_ch (w : World) (rt : TypeId) (base : Nat) (s : Option Addr) (n cap : Nat) (d e : List Ch) (hown : OwnC w base s n cap d) (s' : Option Addr) (m c : Nat) (he : IsChs w s' m c e) (hlen : n + m ≤ 1000000000000) (hbase : base ≤ w.heap.size) :
    ∃ s2 c2 w2, (Builtin.append_ #[37, 37] rt #[.slice s n cap, .slice s' m c]).run Tryz.prog w = .ok (.slice s2 (n + m) c2) w2
      ∧ OwnC w2 base s2 (n + m) c2 (d ++ e) ∧ w.grownBy w2 (s.map (·.block)) := by
  obtain ⟨i, hi, hz, hsz, hby⟩ := info_ch
  have hnc := hown.is.2.1
  obtain ⟨hm, _, hs⟩ := he
  obtain ⟨hn, hr, hz0⟩ := hown
  have key : ∀ (x : Addr), (∀ j u, (flatC e)[j]? = some u → w.cell? (x.add j) = some u) → ∃ s2 c2 w2, (Builtin.append_ #[37, 37] rt #[.slice s n cap, .slice (some x) m c]).run Tryz.prog w = .ok (.slice s2 (n + m) c2) w2
      ∧ OwnC w2 base s2 (n + m) c2 (d ++ e) ∧ w.grownBy w2 (s.map (·.block)) := by
    intro x hx
    obtain ⟨v', w', h0, h1, h2, h3, h4⟩ := run_append_own_at (P := Tryz.prog) w base 37 rt 45 i _ 8 64 Tryz.underlying37 hi hz hsz hby rfl (by omega) _ n (flatC d) hr x m c (flatC e) (by rw [flatC_len, hm]) hx (oneCell_flatC e) (by simp [maxLen]; omega) (by omega) hbase
    have hob : (Value.slice s n cap).ownBlock = s.map (·.block) := by cases s <;> rfl
    rw [hob] at h2 h4
    have hl : (d ++ e).length = n + m := by rw [List.length_append, hn, hm]
    have hfl : flatC d ++ flatC e = flatC (d ++ e) := (flatC_append d e).symm
    rw [hfl] at h1
    rcases h1.2 with ⟨h', h''⟩ | ⟨g', cap', cur, h', hb, hg, k⟩
    · subst h'
      have h5 : n + m = 0 := h''
      refine ⟨none, 0, w', by rw [h0, h5], ⟨hl, ?_, fun _ => rfl⟩, h2⟩
      rw [h5] at h1 ⊢
      exact h1
    · subst h'
      exact ⟨some ⟨g', 0, none⟩, cap', w', h0, ⟨hl, h1, fun k => by cases k⟩, h2⟩
  rcases hs with rfl | ⟨b, off, rfl, hrw⟩
  · have hm0 : m = 0 := by rw [← hm]; rfl
    subst hm0
    cases s' with
    | none =>
      rw [app_none_ch _ _ _ hnc]
      exact key _ (fun j v hj => by simp [flatC] at hj)
    | some a => exact key a (fun j v hj => by simp [flatC] at hj)
  · exact key _ (fun j v hj => by rw [addr_add]; exact hrw j v hj)
theorem wpList_apd_ch {w : World} {ops : Array Oper} {rest : List Oper} {o : Oper} {a : Act} {Q : Exit → Act → World → Prop} (hgd : o.guard = none) (s x : Operand)
    (ho : o.op = .call { callee := .builtin .append, args := #[s, x], argTypes := #[37, 37] })
    (base : Nat) (s0 : Option Addr) (n cap : Nat) (d e : List Ch) (hs : a.eval s = .slice s0 n cap) (hown : OwnC w base s0 n cap d)
    (s' : Option Addr) (m c : Nat) (hx : a.eval x = .slice s' m c) (he : IsChs w s' m c e) (hlen : n + m ≤ 1000000000000) (hbase : base ≤ w.heap.size)
    (h : ∀ s2 c2 w2, OwnC w2 base s2 (n + m) c2 (d ++ e) → GrewBut w w2 base s0 → wpList Tryz.prog ops Q rest (a.put o.dst (.slice s2 (n + m) c2)) w2) :
    wpList Tryz.prog ops Q (o :: rest) a w := by
  obtain ⟨s2, c2, w2, h0, h1, h2⟩ := run_ap_ch w o.type base s0 n cap d e hown s' m c he hlen hbase
  refine wpList_plain hgd fun K hK => ?_
  unfold Oper.wp execOp
  simp only [ho, resolve, invoke, builtin, Sem.run_bind, Sem.run_pure, Result.andThen_ok, List.map_toArray, List.map_cons, List.map_nil, hs, hx, h0]
  exact hK _ _ (h s2 c2 w2 h1 ⟨h2, fun b hb => (hown.lt b hb).2⟩)
/-- A block of the call's own, for one of these. -/
def BlkC (w : World) (b : Nat) : Prop := ∃ cs, w.heap[b]? = some (.cells cs 45 (0, 0)) ∧ cs.size = 8
theorem BlkC.lt {w : World} {b : Nat} (h : BlkC w b) : b < w.heap.size := by
  obtain ⟨cs, h, k⟩ := h
  exact (Array.getElem?_eq_some_iff.1 h).1
theorem BlkC.new (w : World) (cs : Array Value) (hc : cs.size = 8) : BlkC (w.alloc (.cells cs 45)) w.heap.size := ⟨_, (MapKept.heap_alloc w _).1, hc⟩
theorem BlkC.box {w : World} {b : Nat} (h : BlkC w b) (t : Ch) : BoxC (w.setRow b #[.int .i64 t.l.n, .int .i64 t.l.p, .int .i64 t.t.e, .int .i64 t.t.d, .int .i64 t.t.x, .int .i64 t.t.y, .int .i64 t.t.z, .int .i64 t.n]) b t := by
  obtain ⟨cs, h, _⟩ := h
  exact ⟨by rw [cell_setRow_same w b 0 _ _ _ _ h]; rfl, by rw [cell_setRow_same w b 1 _ _ _ _ h]; rfl, by rw [cell_setRow_same w b 2 _ _ _ _ h]; rfl, by rw [cell_setRow_same w b 3 _ _ _ _ h]; rfl, by rw [cell_setRow_same w b 4 _ _ _ _ h]; rfl, by rw [cell_setRow_same w b 5 _ _ _ _ h]; rfl, by rw [cell_setRow_same w b 6 _ _ _ _ h]; rfl, by rw [cell_setRow_same w b 7 _ _ _ _ h]; rfl⟩
theorem wpList_putC {ops : Array Oper} {rest : List Oper} {o : Oper} {a : Act} {w : World} {Q : Exit → Act → World → Prop} (hgd : o.guard = none) (x y : Operand) (ho : o.op = .store 45 x y) (b : Nat) (t : Ch)
    (hx : a.eval x = .pointer (some ⟨b, 0, none⟩)) (hy : a.eval y = .agg #[.int .i64 t.l.n, .int .i64 t.l.p, .int .i64 t.t.e, .int .i64 t.t.d, .int .i64 t.t.x, .int .i64 t.t.y, .int .i64 t.t.z, .int .i64 t.n]) (hb : BlkC w b) (W : World) (hg : Grow W w) (hW : W.heap.size ≤ b) (h : ∀ w2, Grow W w2 → BoxC w2 b t → w2.heap.size = w.heap.size → wpList Tryz.prog ops Q rest (a.put o.dst undef) w2) : wpList Tryz.prog ops Q (o :: rest) a w := by
  have hb' := hb
  obtain ⟨cs, hb1, hs⟩ := hb
  exact wpList_store_row hgd 45 x y ho b _ hx hy _ _ hb1 (by kernel_rfl) (by rw [hs]; rfl) (by simp [Value.oneCell']) (h _ (below_setRow hg hW _) (hb'.box t) (by simp [World.setRow]))
theorem ch_cells {H : Type} {enc : TypeId × Value → H} {W : World} {base : Nat} {spare : Nat → Bool} {held : Bool} {fuel : Nat} {cs : List Value} {y : DataW H × List MemPlace}
    (hf : DataW.trod enc Tryz.prog W base spare held fuel 45 cs = some y) : ∃ t : Ch, cs = encC t ∧ (Lit.int .i64 t.l.n).wf = true ∧ (Lit.int .i64 t.l.p).wf = true ∧ (Lit.int .i64 t.n).wf = true := by
  have hC : Tryz.prog.cellsOf 45 = 8 := by kernel_rfl
  have hC1 : Tryz.prog.cellsOf 27 = 2 := by kernel_rfl
  have hC2 : Tryz.prog.cellsOf 43 = 5 := by kernel_rfl
  have hC3 : Tryz.prog.cellsOf 3 = 1 := by kernel_rfl
  obtain ⟨y0, y1, y2, n, hx, hlen, h0, h1, h2⟩ := trod_struct3 Tryz.underlying45 hf
  rw [hC] at hlen
  match cs, hlen with
  | [c0, c1, c2, c3, c4, c5, c6, c7], _ =>
    simp [hC1, hC2, hC3] at h0 h1 h2
    obtain ⟨l, e0, w0, w1⟩ := lc_cells h0
    obtain ⟨t, e1⟩ := tm_cells h1
    obtain ⟨v, e2, _, w2⟩ := DataW.trod_int Tryz.underlying3 h2
    simp [encL, encT] at e0 e1 e2
    obtain ⟨rfl, rfl⟩ := e0
    obtain ⟨rfl, rfl, rfl, rfl, rfl⟩ := e1
    subst e2
    exact ⟨⟨l, t, v⟩, rfl, w0, w1, w2⟩
theorem rows_chs {H : Type} {enc : TypeId × Value → H} {W : World} {s : Option Addr} {len cap : Nat} {d : DataW H} {p : List MemPlace} {base : Nat} {spare : Nat → Bool} {held : Bool}
    (h : DataW.Trod enc Tryz.prog W base spare held 37 (.slice s len cap) d p) : ∃ l, IsChs W s len cap l ∧ ∀ c ∈ l, (Lit.int .i64 c.l.n).wf = true ∧ (Lit.int .i64 c.l.p).wf = true ∧ (Lit.int .i64 c.n).wf = true := by
  have hC : Tryz.prog.cellsOf 45 = 8 := by kernel_rfl
  obtain ⟨fuel, hf⟩ := h
  rcases open_slice Tryz.underlying37 hf with ⟨hcs, _⟩ | ⟨a, l, c, m, n, D, Pl, hcs, _, hl, _, hm, _, hi⟩
  · simp [Value.cells] at hcs
    obtain ⟨rfl, rfl, rfl⟩ := hcs
    exact ⟨[], ⟨rfl, Nat.le_refl _, .inl rfl⟩, fun c hc => (by cases hc)⟩
  · simp [Value.cells] at hcs
    obtain ⟨rfl, rfl, rfl⟩ := hcs
    have hlm : len ≤ m := by rw [hm]; split <;> omega
    by_cases h0 : len = 0
    · subst h0
      exact ⟨[], ⟨rfl, hl, .inl rfl⟩, fun c hc => (by cases hc)⟩
    · rw [hC] at hi
      have key : ∀ i, i < len → ∃ t : Ch, (∀ j : Nat, j < 8 → W.cell? ((a.add (i * 8)).add j) = (encC t)[j]?) ∧ (Lit.int .i64 t.l.n).wf = true ∧ (Lit.int .i64 t.l.p).wf = true ∧ (Lit.int .i64 t.n).wf = true := by
        intro i hi'
        obtain ⟨cs', h1, h2⟩ := hi i (by omega)
        obtain ⟨t, rfl, hwf⟩ := ch_cells h2
        exact ⟨t, fun j hj => (World.cells?_some h1).2.2 j (by omega), hwf⟩
      have hch : ∃ f : Nat → Ch, ∀ i, i < len → (∀ j : Nat, j < 8 → W.cell? ((a.add (i * 8)).add j) = (encC (f i))[j]?) ∧ (Lit.int .i64 (f i).l.n).wf = true ∧ (Lit.int .i64 (f i).l.p).wf = true ∧ (Lit.int .i64 (f i).n).wf = true :=
        ⟨fun i => if h : i < len then (key i h).choose else ⟨⟨0, 0⟩, ⟨0, 0, 0, 0, 0⟩, 0⟩, fun i hi' => by
          have := (key i hi').choose_spec
          simpa [hi'] using this⟩
      obtain ⟨f, hf'⟩ := hch
      have hc := (hf' 0 (by omega)).1 0 (by omega)
      obtain ⟨b, off, spot⟩ := a
      have hspot : spot = none := by
        have h5 : W.cell? (⟨b, off, spot⟩ : Addr) = some (.int .i64 (f 0).l.n) := by simpa [Addr.add, encC] using hc
        simpa using World.cell?_spot h5
      subst hspot
      refine ⟨(List.range len).map f, ⟨by simp, hl, .inr ⟨b, off, rfl, RowCh_of f len fun i hi' j hj => ?_⟩⟩, fun c hc => ?_⟩
      · have := (hf' i hi').1 j hj
        rw [addr_add, addr_add] at this
        rw [← Nat.add_assoc]; exact this
      · obtain ⟨i, hi', rfl⟩ := List.mem_map.1 hc
        exact (hf' i (List.mem_range.1 hi')).2
theorem isSps_one (w : World) (t : Sp) : IsSps (w.alloc (.cells #[.int .i64 t.b.n, .int .i64 t.b.p, .int .i64 t.r.f, .int .i64 t.r.t, .int .i64 t.r.k, .int .i64 t.r.ep, .int .i64 t.r.x, .int .i64 t.r.y, .int .i64 t.r.z] 120)) (some ⟨w.heap.size, 0, none⟩) 1 1 [t] := ⟨rfl, Nat.le_refl _, .inr ⟨_, _, rfl, RowP_one w t⟩⟩
theorem isSts_one (w : World) (t : Stp) : IsSts (w.alloc (.cells #[.int .i64 t.a.n, .int .i64 t.a.p, .int .i64 t.b.n, .int .i64 t.b.p, .int .i64 t.r.f, .int .i64 t.r.t, .int .i64 t.r.k, .int .i64 t.r.ep, .int .i64 t.r.x, .int .i64 t.r.y, .int .i64 t.r.z] 105)) (some ⟨w.heap.size, 0, none⟩) 1 1 [t] := ⟨rfl, Nat.le_refl _, .inr ⟨_, _, rfl, RowQ_one w t⟩⟩

end Go.Proofs.YtehianjfpmbfpaaGreat
