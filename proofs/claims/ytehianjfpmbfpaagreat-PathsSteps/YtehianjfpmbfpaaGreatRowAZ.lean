/-
  append(x, y...) where y is whatever slice came in, nil too, onto a row that the call owns, or nil; rows as they are known of a value.
-/
import Derived.Test.YtehianjfpmbfpaaGreatRowVZ
namespace Go.Proofs.YtehianjfpmbfpaaGreat
set_option maxRecDepth 100000
open Go.ChangeShapes Go.WideShapes Go.ChangeAt Go.RowKit Go.Deep
set_option linter.unusedVariables false

theorem grow_drewAlloc (w : World) (o : Obj) : Grow w (w.drew.alloc o) := Grow.trans' (b := w.drew) ⟨rfl, rfl, rfl, Nat.le_refl _, fun _ _ => rfl⟩ (Grow.alloc' w.drew o)
/-- A value is a slice of these. -/
def IsRowT (d : List Tm) (v : Value) (w : World) : Prop := ∃ s n cap, v = .slice s n cap ∧ IsTms w s n cap d
theorem IsRowT.later {d : List Tm} {v : Value} {w w' : World} (hg : Grow w w') : IsRowT d v w → IsRowT d v w' := fun ⟨s, n, cap, e, h⟩ => ⟨s, n, cap, e, h.later hg⟩
/-- A value is a slice of these that the call owns, or nil. -/
def OwnRowT (base : Nat) (d : List Tm) (v : Value) (w : World) : Prop := ∃ s n cap, v = .slice s n cap ∧ OwnSV w base s n cap d
theorem OwnRowT.later {base : Nat} {d : List Tm} {v : Value} {w w' : World} (hg : Grow w w') : OwnRowT base d v w → OwnRowT base d v w' := fun ⟨s, n, cap, e, h⟩ => ⟨s, n, cap, e, h.later hg⟩
theorem OwnRowT.is {base : Nat} {d : List Tm} {v : Value} {w : World} : OwnRowT base d v w → IsRowT d v w := fun ⟨s, n, cap, e, h⟩ => ⟨s, n, cap, e, h.is⟩
/-- A value is a new empty slice. -/
def LitT (base : Nat) (v : Value) (w : World) : Prop := ∃ g, v = .slice (some ⟨g, 0, none⟩) 0 0 ∧ OwnS w base g 0 []
theorem LitT.later {base : Nat} {v : Value} {w w' : World} (hg : Grow w w') : LitT base v w → LitT base v w' := fun ⟨g, e, h⟩ => ⟨g, e, h.later hg⟩
/-- A value is a slice of these, and a bool. -/
def IsAddT (d : List Tm) (p : Bool) (v : Value) (w : World) : Prop := ∃ s n cap, v = .tuple #[.slice s n cap, .bool p] ∧ IsTms w s n cap d
theorem IsAddT.later {d : List Tm} {p : Bool} {v : Value} {w w' : World} (hg : Grow w w') : IsAddT d p v w → IsAddT d p v w' := fun ⟨s, n, cap, e, h⟩ => ⟨s, n, cap, e, h.later hg⟩
/-- A value is a slice of these that the call owns, or nil, and a bool. -/
def OwnAddT (base : Nat) (d : List Tm) (p : Bool) (v : Value) (w : World) : Prop := ∃ s n cap, v = .tuple #[.slice s n cap, .bool p] ∧ OwnSV w base s n cap d
theorem OwnAddT.later {base : Nat} {d : List Tm} {p : Bool} {v : Value} {w w' : World} (hg : Grow w w') : OwnAddT base d p v w → OwnAddT base d p v w' := fun ⟨s, n, cap, e, h⟩ => ⟨s, n, cap, e, h.later hg⟩
theorem OwnAddT.is {base : Nat} {d : List Tm} {p : Bool} {v : Value} {w : World} : OwnAddT base d p v w → IsAddT d p v w := fun ⟨s, n, cap, e, h⟩ => ⟨s, n, cap, e, h.is⟩
theorem OwnAddT.rebase {base base' : Nat} {d : List Tm} {p : Bool} {v : Value} {w : World} (hb : base' ≤ base) : OwnAddT base d p v w → OwnAddT base' d p v w := fun ⟨s, n, cap, e, h⟩ => ⟨s, n, cap, e, h.rebase hb⟩
theorem isRowT_one (w : World) (t : Tm) : IsRowT [t] (.slice (some ⟨w.heap.size, 0, none⟩) 1 1) (w.alloc (.cells #[.int .i64 t.e, .int .i64 t.d, .int .i64 t.x, .int .i64 t.y, .int .i64 t.z] 43)) :=
  ⟨_, _, _, rfl, rfl, Nat.le_refl _, .inr ⟨_, _, rfl, RowT_one w t⟩⟩
theorem litT_new (w : World) (base : Nat) (hb : base ≤ w.heap.size) : LitT base (.slice (some ⟨w.heap.size, 0, none⟩) 0 0) (w.alloc (.cells #[] 43)) := ⟨_, rfl, OwnS.lit0 w base hb⟩
theorem app_none_tm (s : Option Addr) (n cap : Nat) (hn : n ≤ cap) (c : Nat) (rt : TypeId) (w : World) :
    (Builtin.append_ #[39, 39] rt #[.slice s n cap, .slice none 0 c]).run Tryz.prog w = (Builtin.append_ #[39, 39] rt #[.slice s n cap, .slice (some ⟨0, 0, none⟩) 0 c]).run Tryz.prog w := by
  obtain ⟨i, hi, hz, hsz, hby⟩ := info_tm
  have hl : (loadCells ⟨0, 0, none⟩ 0).run Tryz.prog w = .ok #[] w := by simpa using run_loadCells_list (P := Tryz.prog) w ⟨0, 0, none⟩ [] (by simp)
  cases s <;> simp [Builtin.append_, run_underlying Tryz.underlying39, sizeOf, typeInfo, hi, Builtin.lenOf, Builtin.firstCells, hl, hn]
/-- What append does. -/
theorem run_apv_tm (w : World) (rt : TypeId) (base : Nat) (s : Option Addr) (n cap : Nat) (d e : List Tm) (hown : OwnSV w base s n cap d) (s' : Option Addr) (m c : Nat) (he : IsTms w s' m c e) (hlen : n + m ≤ 1000000000000) (hbase : base ≤ w.heap.size) :
    ∃ s2 c2 w2, (Builtin.append_ #[39, 39] rt #[.slice s n cap, .slice s' m c]).run Tryz.prog w = .ok (.slice s2 (n + m) c2) w2
      ∧ OwnSV w2 base s2 (n + m) c2 (d ++ e) ∧ GrewBut w w2 base s := by
  obtain ⟨i, hi, hz, hsz, hby⟩ := info_tm
  obtain ⟨hm, _, hs⟩ := he
  have hnc := hown.is.2.1
  obtain ⟨hn, hown⟩ := hown
  subst hn
  have hr : w.ownsRow base 43 5 (.slice s d.length cap) d.length (flatT d) := by
    rcases hown with ⟨rfl, rfl, rfl⟩ | ⟨g, rfl, h1⟩
    · exact World.ownsRow_nil w base _ _
    · exact h1
  have key : ∀ (a : Addr), (∀ j v, (flatT e)[j]? = some v → w.cell? (a.add j) = some v) → ∃ s2 c2 w2, (Builtin.append_ #[39, 39] rt #[.slice s d.length cap, .slice (some a) m c]).run Tryz.prog w = .ok (.slice s2 (d.length + m) c2) w2
      ∧ OwnSV w2 base s2 (d.length + m) c2 (d ++ e) ∧ GrewBut w w2 base s := by
    intro a ha
    obtain ⟨v', w', h0, h1, h2, h3, h4⟩ := run_append_own_at (P := Tryz.prog) w base 39 rt 43 i _ 5 40 Tryz.underlying39 hi hz hsz hby rfl (by omega) _ d.length (flatT d) hr a m c (flatT e) (by rw [flatT_len, hm]) ha (oneCell_flatT e) (by simp [maxLen]; omega) (by omega) hbase
    have hl : (d ++ e).length = d.length + m := by rw [List.length_append, hm]
    have hgb : GrewBut w w' base s := by
      refine ⟨?_, ?_⟩
      · rcases hown with ⟨rfl, rfl, rfl⟩ | ⟨g, rfl, h1⟩
        · exact h2
        · exact h2
      · intro a ha
        rcases hown with ⟨rfl, rfl, rfl⟩ | ⟨g, rfl, h1⟩
        · cases ha
        · cases ha; exact h1.le.1
    rcases h1.2 with ⟨h', h''⟩ | ⟨g', cap', cur, h', hb, hg, k1, k2, k3, k4⟩
    · subst h'
      have h5 : d.length + m = 0 := h''
      have hl0 : (d ++ e).length = 0 := hl.trans h5
      rw [h5]
      exact ⟨none, 0, w', h0, ⟨hl0, .inl ⟨rfl, rfl, List.eq_nil_of_length_eq_zero hl0⟩⟩, hgb⟩
    · subst h'
      exact ⟨some ⟨g', 0, none⟩, cap', w', h0, ⟨hl, .inr ⟨g', rfl, OwnS.mk' hb hg (by rw [hl]; exact k1) k2 k3 (by rw [hl, flatT_append]; exact k4)⟩⟩, hgb⟩
  rcases hs with rfl | ⟨b, off, rfl, hr⟩
  · have hm0 : m = 0 := by simp at hm; omega
    subst hm0
    cases s' with
    | none =>
      rw [app_none_tm _ _ _ hnc]
      exact key _ (fun j v hj => by simp [flatT] at hj)
    | some a => exact key a (fun j v hj => by simp [flatT] at hj)
  · exact key _ (fun j v hj => by rw [addr_add]; exact hr j v hj)
theorem app_empty_tm (g cap : Nat) (s : Option Addr) (rt : TypeId) (w : World) :
    (Builtin.append_ #[39, 39] rt #[.slice (some ⟨g, 0, none⟩) 0 0, .slice s 0 cap]).run Tryz.prog w = .ok (.slice (some ⟨g, 0, none⟩) 0 0) w := by
  have hl : ∀ (x : Addr), (loadCells x 0).run Tryz.prog w = .ok #[] w := fun x => by simpa using run_loadCells_list (P := Tryz.prog) w x [] (by simp)
  obtain ⟨i, hi, _⟩ := info_tm
  cases s <;> simp [Builtin.append_, run_underlying Tryz.underlying39, sizeOf, typeInfo, hi, Builtin.lenOf, Builtin.firstCells, storeCells, hl]
/-- What append onto a new empty slice does: nothing that was there changes. -/
theorem run_ap0_tm (w : World) (rt : TypeId) (base g : Nat) (e : List Tm) (hown : OwnS w base g 0 []) (s' : Option Addr) (m c : Nat) (he : IsTms w s' m c e) (hlen : m ≤ 1000000000000) (hbase : base ≤ w.heap.size) :
    ∃ s2 c2 w2, (Builtin.append_ #[39, 39] rt #[.slice (some ⟨g, 0, none⟩) 0 0, .slice s' m c]).run Tryz.prog w = .ok (.slice s2 m c2) w2
      ∧ OwnSV w2 base s2 m c2 e ∧ Grow w w2 := by
  obtain ⟨s2, c2, w2, h1, h2, h3⟩ := run_apv_tm w rt base (some ⟨g, 0, none⟩) 0 0 [] e (.of hown rfl) s' m c he (by omega) hbase
  rw [Nat.zero_add] at h1 h2
  by_cases h0 : m = 0
  · subst h0
    rw [app_empty_tm] at h1
    obtain ⟨h4, rfl⟩ : Value.slice (some ⟨g, 0, none⟩) 0 0 = .slice s2 0 c2 ∧ w = w2 := by cases h1; exact ⟨rfl, rfl⟩
    exact ⟨s2, c2, w, by rw [app_empty_tm, h4], h2, Grow.rfl' _⟩
  · obtain ⟨hm, hmc, hs⟩ := he
    have hne : e ≠ [] := fun h => by rw [h] at hm; simp at hm; omega
    obtain ⟨b, off, rfl, hr⟩ := hs.resolve_left hne
    obtain ⟨i, hi, hz, hsz, hby⟩ := info_tm
    have h4 := run_append_grow (P := Tryz.prog) w 39 rt 43 i _ Tryz.underlying39 hi hz ⟨g, 0, none⟩ 0 0 [] (by simp) (by simp) ⟨b, off, none⟩ m c (flatT e) (by rw [flatT_len, hm, hsz]) (fun j v hj => by rw [addr_add]; exact hr j v hj) (by omega) (by omega) (growslice_fits (by omega) (by rw [hby]; omega))
    refine ⟨s2, c2, w2, h1, h2, ?_⟩
    rw [h4] at h1
    have : w.drew.alloc _ = w2 := (Result.ok.inj h1).2
    rw [← this]
    exact grow_drewAlloc _ _
theorem wpList_apd_tm {w : World} {ops : Array Oper} {rest : List Oper} {o : Oper} {a : Act} {Q : Exit → Act → World → Prop} (hgd : o.guard = none) (s x : Operand)
    (ho : o.op = .call { callee := .builtin .append, args := #[s, x], argTypes := #[39, 39] })
    (base : Nat) (s0 : Option Addr) (n cap : Nat) (d e : List Tm) (hs : a.eval s = .slice s0 n cap) (hown : OwnSV w base s0 n cap d)
    (s' : Option Addr) (m c : Nat) (hx : a.eval x = .slice s' m c) (he : IsTms w s' m c e) (hlen : n + m ≤ 1000000000000) (hbase : base ≤ w.heap.size)
    (h : ∀ s2 c2 w2, OwnSV w2 base s2 (n + m) c2 (d ++ e) → GrewBut w w2 base s0 → wpList Tryz.prog ops Q rest (a.put o.dst (.slice s2 (n + m) c2)) w2) :
    wpList Tryz.prog ops Q (o :: rest) a w := by
  obtain ⟨s2, c2, w2, h0, h1, h2⟩ := run_apv_tm w o.type base s0 n cap d e hown s' m c he hlen hbase
  refine wpList_plain hgd fun K hK => ?_
  unfold Oper.wp execOp
  simp only [ho, resolve, invoke, builtin, Sem.run_bind, Sem.run_pure, Result.andThen_ok, List.map_toArray, List.map_cons, List.map_nil, hs, hx, h0]
  exact hK _ _ (h s2 c2 w2 h1 h2)
/-- A value is a slice of these. -/
def IsRowM (d : List Sm) (v : Value) (w : World) : Prop := ∃ s n cap, v = .slice s n cap ∧ IsSms w s n cap d
theorem IsRowM.later {d : List Sm} {v : Value} {w w' : World} (hg : Grow w w') : IsRowM d v w → IsRowM d v w' := fun ⟨s, n, cap, e, h⟩ => ⟨s, n, cap, e, h.later hg⟩
/-- A value is a slice of these that the call owns, or nil. -/
def OwnRowM (base : Nat) (d : List Sm) (v : Value) (w : World) : Prop := ∃ s n cap, v = .slice s n cap ∧ OwnMV w base s n cap d
theorem OwnRowM.later {base : Nat} {d : List Sm} {v : Value} {w w' : World} (hg : Grow w w') : OwnRowM base d v w → OwnRowM base d v w' := fun ⟨s, n, cap, e, h⟩ => ⟨s, n, cap, e, h.later hg⟩
theorem OwnRowM.is {base : Nat} {d : List Sm} {v : Value} {w : World} : OwnRowM base d v w → IsRowM d v w := fun ⟨s, n, cap, e, h⟩ => ⟨s, n, cap, e, h.is⟩
/-- A value is a new empty slice. -/
def LitM (base : Nat) (v : Value) (w : World) : Prop := ∃ g, v = .slice (some ⟨g, 0, none⟩) 0 0 ∧ OwnM w base g 0 []
theorem LitM.later {base : Nat} {v : Value} {w w' : World} (hg : Grow w w') : LitM base v w → LitM base v w' := fun ⟨g, e, h⟩ => ⟨g, e, h.later hg⟩
/-- A value is a slice of these, and a bool. -/
def IsAddM (d : List Sm) (p : Bool) (v : Value) (w : World) : Prop := ∃ s n cap, v = .tuple #[.slice s n cap, .bool p] ∧ IsSms w s n cap d
theorem IsAddM.later {d : List Sm} {p : Bool} {v : Value} {w w' : World} (hg : Grow w w') : IsAddM d p v w → IsAddM d p v w' := fun ⟨s, n, cap, e, h⟩ => ⟨s, n, cap, e, h.later hg⟩
/-- A value is a slice of these that the call owns, or nil, and a bool. -/
def OwnAddM (base : Nat) (d : List Sm) (p : Bool) (v : Value) (w : World) : Prop := ∃ s n cap, v = .tuple #[.slice s n cap, .bool p] ∧ OwnMV w base s n cap d
theorem OwnAddM.later {base : Nat} {d : List Sm} {p : Bool} {v : Value} {w w' : World} (hg : Grow w w') : OwnAddM base d p v w → OwnAddM base d p v w' := fun ⟨s, n, cap, e, h⟩ => ⟨s, n, cap, e, h.later hg⟩
theorem OwnAddM.is {base : Nat} {d : List Sm} {p : Bool} {v : Value} {w : World} : OwnAddM base d p v w → IsAddM d p v w := fun ⟨s, n, cap, e, h⟩ => ⟨s, n, cap, e, h.is⟩
theorem OwnAddM.rebase {base base' : Nat} {d : List Sm} {p : Bool} {v : Value} {w : World} (hb : base' ≤ base) : OwnAddM base d p v w → OwnAddM base' d p v w := fun ⟨s, n, cap, e, h⟩ => ⟨s, n, cap, e, h.rebase hb⟩
theorem isRowM_one (w : World) (t : Sm) : IsRowM [t] (.slice (some ⟨w.heap.size, 0, none⟩) 1 1) (w.alloc (.cells #[.int .i64 t.f, .int .i64 t.t, .int .i64 t.k, .int .i64 t.ep, .int .i64 t.x, .int .i64 t.y, .int .i64 t.z] 68)) :=
  ⟨_, _, _, rfl, rfl, Nat.le_refl _, .inr ⟨_, _, rfl, RowM_one w t⟩⟩
theorem litM_new (w : World) (base : Nat) (hb : base ≤ w.heap.size) : LitM base (.slice (some ⟨w.heap.size, 0, none⟩) 0 0) (w.alloc (.cells #[] 68)) := ⟨_, rfl, OwnM.lit0 w base hb⟩
theorem app_none_sm (s : Option Addr) (n cap : Nat) (hn : n ≤ cap) (c : Nat) (rt : TypeId) (w : World) :
    (Builtin.append_ #[33, 33] rt #[.slice s n cap, .slice none 0 c]).run Tryz.prog w = (Builtin.append_ #[33, 33] rt #[.slice s n cap, .slice (some ⟨0, 0, none⟩) 0 c]).run Tryz.prog w := by
  obtain ⟨i, hi, hz, hsz, hby⟩ := info_sm
  have hl : (loadCells ⟨0, 0, none⟩ 0).run Tryz.prog w = .ok #[] w := by simpa using run_loadCells_list (P := Tryz.prog) w ⟨0, 0, none⟩ [] (by simp)
  cases s <;> simp [Builtin.append_, run_underlying Tryz.underlying33, sizeOf, typeInfo, hi, Builtin.lenOf, Builtin.firstCells, hl, hn]
/-- What append does. -/
theorem run_apv_sm (w : World) (rt : TypeId) (base : Nat) (s : Option Addr) (n cap : Nat) (d e : List Sm) (hown : OwnMV w base s n cap d) (s' : Option Addr) (m c : Nat) (he : IsSms w s' m c e) (hlen : n + m ≤ 1000000000000) (hbase : base ≤ w.heap.size) :
    ∃ s2 c2 w2, (Builtin.append_ #[33, 33] rt #[.slice s n cap, .slice s' m c]).run Tryz.prog w = .ok (.slice s2 (n + m) c2) w2
      ∧ OwnMV w2 base s2 (n + m) c2 (d ++ e) ∧ GrewBut w w2 base s := by
  obtain ⟨i, hi, hz, hsz, hby⟩ := info_sm
  obtain ⟨hm, _, hs⟩ := he
  have hnc := hown.is.2.1
  obtain ⟨hn, hown⟩ := hown
  subst hn
  have hr : w.ownsRow base 68 7 (.slice s d.length cap) d.length (flatM d) := by
    rcases hown with ⟨rfl, rfl, rfl⟩ | ⟨g, rfl, h1⟩
    · exact World.ownsRow_nil w base _ _
    · exact h1
  have key : ∀ (a : Addr), (∀ j v, (flatM e)[j]? = some v → w.cell? (a.add j) = some v) → ∃ s2 c2 w2, (Builtin.append_ #[33, 33] rt #[.slice s d.length cap, .slice (some a) m c]).run Tryz.prog w = .ok (.slice s2 (d.length + m) c2) w2
      ∧ OwnMV w2 base s2 (d.length + m) c2 (d ++ e) ∧ GrewBut w w2 base s := by
    intro a ha
    obtain ⟨v', w', h0, h1, h2, h3, h4⟩ := run_append_own_at (P := Tryz.prog) w base 33 rt 68 i _ 7 56 Tryz.underlying33 hi hz hsz hby rfl (by omega) _ d.length (flatM d) hr a m c (flatM e) (by rw [flatM_len, hm]) ha (oneCell_flatM e) (by simp [maxLen]; omega) (by omega) hbase
    have hl : (d ++ e).length = d.length + m := by rw [List.length_append, hm]
    have hgb : GrewBut w w' base s := by
      refine ⟨?_, ?_⟩
      · rcases hown with ⟨rfl, rfl, rfl⟩ | ⟨g, rfl, h1⟩
        · exact h2
        · exact h2
      · intro a ha
        rcases hown with ⟨rfl, rfl, rfl⟩ | ⟨g, rfl, h1⟩
        · cases ha
        · cases ha; exact h1.le.1
    rcases h1.2 with ⟨h', h''⟩ | ⟨g', cap', cur, h', hb, hg, k1, k2, k3, k4⟩
    · subst h'
      have h5 : d.length + m = 0 := h''
      have hl0 : (d ++ e).length = 0 := hl.trans h5
      rw [h5]
      exact ⟨none, 0, w', h0, ⟨hl0, .inl ⟨rfl, rfl, List.eq_nil_of_length_eq_zero hl0⟩⟩, hgb⟩
    · subst h'
      exact ⟨some ⟨g', 0, none⟩, cap', w', h0, ⟨hl, .inr ⟨g', rfl, OwnM.mk' hb hg (by rw [hl]; exact k1) k2 k3 (by rw [hl, flatM_append]; exact k4)⟩⟩, hgb⟩
  rcases hs with rfl | ⟨b, off, rfl, hr⟩
  · have hm0 : m = 0 := by simp at hm; omega
    subst hm0
    cases s' with
    | none =>
      rw [app_none_sm _ _ _ hnc]
      exact key _ (fun j v hj => by simp [flatM] at hj)
    | some a => exact key a (fun j v hj => by simp [flatM] at hj)
  · exact key _ (fun j v hj => by rw [addr_add]; exact hr j v hj)
theorem app_empty_sm (g cap : Nat) (s : Option Addr) (rt : TypeId) (w : World) :
    (Builtin.append_ #[33, 33] rt #[.slice (some ⟨g, 0, none⟩) 0 0, .slice s 0 cap]).run Tryz.prog w = .ok (.slice (some ⟨g, 0, none⟩) 0 0) w := by
  have hl : ∀ (x : Addr), (loadCells x 0).run Tryz.prog w = .ok #[] w := fun x => by simpa using run_loadCells_list (P := Tryz.prog) w x [] (by simp)
  obtain ⟨i, hi, _⟩ := info_sm
  cases s <;> simp [Builtin.append_, run_underlying Tryz.underlying33, sizeOf, typeInfo, hi, Builtin.lenOf, Builtin.firstCells, storeCells, hl]
/-- What append onto a new empty slice does: nothing that was there changes. -/
theorem run_ap0_sm (w : World) (rt : TypeId) (base g : Nat) (e : List Sm) (hown : OwnM w base g 0 []) (s' : Option Addr) (m c : Nat) (he : IsSms w s' m c e) (hlen : m ≤ 1000000000000) (hbase : base ≤ w.heap.size) :
    ∃ s2 c2 w2, (Builtin.append_ #[33, 33] rt #[.slice (some ⟨g, 0, none⟩) 0 0, .slice s' m c]).run Tryz.prog w = .ok (.slice s2 m c2) w2
      ∧ OwnMV w2 base s2 m c2 e ∧ Grow w w2 := by
  obtain ⟨s2, c2, w2, h1, h2, h3⟩ := run_apv_sm w rt base (some ⟨g, 0, none⟩) 0 0 [] e (.of hown rfl) s' m c he (by omega) hbase
  rw [Nat.zero_add] at h1 h2
  by_cases h0 : m = 0
  · subst h0
    rw [app_empty_sm] at h1
    obtain ⟨h4, rfl⟩ : Value.slice (some ⟨g, 0, none⟩) 0 0 = .slice s2 0 c2 ∧ w = w2 := by cases h1; exact ⟨rfl, rfl⟩
    exact ⟨s2, c2, w, by rw [app_empty_sm, h4], h2, Grow.rfl' _⟩
  · obtain ⟨hm, hmc, hs⟩ := he
    have hne : e ≠ [] := fun h => by rw [h] at hm; simp at hm; omega
    obtain ⟨b, off, rfl, hr⟩ := hs.resolve_left hne
    obtain ⟨i, hi, hz, hsz, hby⟩ := info_sm
    have h4 := run_append_grow (P := Tryz.prog) w 33 rt 68 i _ Tryz.underlying33 hi hz ⟨g, 0, none⟩ 0 0 [] (by simp) (by simp) ⟨b, off, none⟩ m c (flatM e) (by rw [flatM_len, hm, hsz]) (fun j v hj => by rw [addr_add]; exact hr j v hj) (by omega) (by omega) (growslice_fits (by omega) (by rw [hby]; omega))
    refine ⟨s2, c2, w2, h1, h2, ?_⟩
    rw [h4] at h1
    have : w.drew.alloc _ = w2 := (Result.ok.inj h1).2
    rw [← this]
    exact grow_drewAlloc _ _
theorem wpList_apd_sm {w : World} {ops : Array Oper} {rest : List Oper} {o : Oper} {a : Act} {Q : Exit → Act → World → Prop} (hgd : o.guard = none) (s x : Operand)
    (ho : o.op = .call { callee := .builtin .append, args := #[s, x], argTypes := #[33, 33] })
    (base : Nat) (s0 : Option Addr) (n cap : Nat) (d e : List Sm) (hs : a.eval s = .slice s0 n cap) (hown : OwnMV w base s0 n cap d)
    (s' : Option Addr) (m c : Nat) (hx : a.eval x = .slice s' m c) (he : IsSms w s' m c e) (hlen : n + m ≤ 1000000000000) (hbase : base ≤ w.heap.size)
    (h : ∀ s2 c2 w2, OwnMV w2 base s2 (n + m) c2 (d ++ e) → GrewBut w w2 base s0 → wpList Tryz.prog ops Q rest (a.put o.dst (.slice s2 (n + m) c2)) w2) :
    wpList Tryz.prog ops Q (o :: rest) a w := by
  obtain ⟨s2, c2, w2, h0, h1, h2⟩ := run_apv_sm w o.type base s0 n cap d e hown s' m c he hlen hbase
  refine wpList_plain hgd fun K hK => ?_
  unfold Oper.wp execOp
  simp only [ho, resolve, invoke, builtin, Sem.run_bind, Sem.run_pure, Result.andThen_ok, List.map_toArray, List.map_cons, List.map_nil, hs, hx, h0]
  exact hK _ _ (h s2 c2 w2 h1 h2)

end Go.Proofs.YtehianjfpmbfpaaGreat
