/-
  Rows of nodes and of edges that a drawn region makes by append, each of its own blocks; the graph of them; what stands while another row turns. 
-/
import Derived.Test.YtjebipagehhkjaaGreatVMk
import Derived.Test.YtjebipagehhkjaaGreatEndG
namespace Go.Proofs.YtjebipagehhkjaaGreat
set_option maxRecDepth 100000
open Go.ChangeShapes Go.WideShapes Go.ChangeAt Go.RowKit Go.Deep Go.Sort
set_option linter.unusedVariables false
set_option linter.unusedSimpArgs false

theorem grow_drewAlloc (w : World) (o : Obj) : Grow w (w.drew.alloc o) := Grow.trans' (b := w.drew) ⟨rfl, rfl, rfl, Nat.le_refl _, fun _ _ => rfl⟩ (Grow.alloc' w.drew o)
/-- Of what was there only blocks of one type may have turned. -/
def GrewT (T : TypeId) (w w2 : World) : Prop := ∀ k, k < w.heap.size → w2.heap[k]? = w.heap[k]? ∨ ∃ cs, w.heap[k]? = some (.cells cs T (0, 0))
theorem GrewT.other {T U : TypeId} {w w2 : World} (h : GrewT T w w2) (hne : T ≠ U) {k : Nat} {cs : Array Value} (hk : w.heap[k]? = some (.cells cs U (0, 0))) : w2.heap[k]? = w.heap[k]? := by
  rcases h k (Array.getElem?_eq_some_iff.1 hk).1 with h1 | ⟨cs', h1⟩
  · exact h1
  · rw [h1] at hk
    simp only [Option.some.injEq, Obj.cells.injEq] at hk
    exact absurd hk.2.1 hne
theorem OwnN.block {w : World} {base n cap : Nat} {s : Option Addr} {d : List Nd} (h : OwnN w base s n cap d) : ∀ a, s = some a → ∃ cs, w.heap[a.block]? = some (.cells cs 37 (0, 0)) := by
  intro a ha
  rcases h.2.1.2 with ⟨h', _⟩ | ⟨g, cap', cur, h', hb, hg, r⟩
  · simp only [Value.slice.injEq] at h'
    rw [ha] at h'; cases h'.1
  · simp only [Value.slice.injEq] at h'
    rw [ha] at h'
    cases h'.1
    exact ⟨cur, hg⟩
theorem OwnN.grewT {w w2 : World} {base n cap : Nat} {s : Option Addr} {d : List Nd} (h : OwnN w base s n cap d) (hg : w.grownBy w2 (s.map (·.block))) : GrewT 37 w w2 := by
  intro k hk
  cases s with
  | none => exact .inl (hg.block k hk (by simp))
  | some a =>
    by_cases e : k = a.block
    · obtain ⟨cs, hc⟩ := h.block a rfl
      exact .inr ⟨cs, by rw [e]; exact hc⟩
    · exact .inl (hg.block k hk (by simp; exact e))
theorem OwnN.lit1 (w : World) (base : Nat) (hb : base ≤ w.heap.size) (x : Nd) : OwnN (w.alloc (.cells #[.int .i64 x.k, .int .i64 x.a, .int .i64 x.b, .int .i64 x.d] 37)) base (some ⟨w.heap.size, 0, none⟩) 1 1 [x] :=
  ⟨rfl, World.ownsRow_lit w #[.int .i64 x.k, .int .i64 x.a, .int .i64 x.b, .int .i64 x.d] 1 hb (by simp [maxLen]) rfl, fun h => by cases h⟩
theorem app_emp_nd (s : Option Addr) (n cap : Nat) (hn : n ≤ cap) (s' : Option Addr) (c : Nat) (rt : TypeId) (w : World) :
    (Builtin.append_ #[24, 24] rt #[.slice s n cap, .slice s' 0 c]).run Tryz.prog w = .ok (.slice s n cap) w := by
  obtain ⟨i, hi, _⟩ := info_nd
  have hl : ∀ a : Addr, (loadCells a 0).run Tryz.prog w = .ok #[] w := fun a => by simpa using run_loadCells_list (P := Tryz.prog) w a [] (by simp)
  cases s' <;> cases s <;> simp [Builtin.append_, run_underlying Tryz.underlying24, sizeOf, typeInfo, hi, Builtin.lenOf, Builtin.firstCells, storeCells, hl, hn]
/-- What append onto a new empty slice does: nothing that was there changes. -/
theorem run_ap0_nd (w : World) (rt : TypeId) (base g : Nat) (e : List Nd) (hown : OwnN w base (some ⟨g, 0, none⟩) 0 0 []) (s' : Option Addr) (m c : Nat) (he : IsNds w s' m c e) (hlen : m ≤ 1000000) (hbase : base ≤ w.heap.size) :
    ∃ s2 c2 w2, (Builtin.append_ #[24, 24] rt #[.slice (some ⟨g, 0, none⟩) 0 0, .slice s' m c]).run Tryz.prog w = .ok (.slice s2 m c2) w2
      ∧ OwnN w2 base s2 m c2 e ∧ Grow w w2 := by
  by_cases h0 : m = 0
  · subst h0
    have he' : e = [] := List.eq_nil_of_length_eq_zero he.1
    subst he'
    exact ⟨_, _, w, app_emp_nd _ 0 0 (Nat.le_refl _) s' c rt w, hown, Grow.rfl' _⟩
  obtain ⟨s2, c2, w2, h1, h2, h3⟩ := run_ap_nd w rt base (some ⟨g, 0, none⟩) 0 0 [] e hown s' m c he (by omega) hbase
  rw [Nat.zero_add] at h1 h2
  obtain ⟨hm, hmc, hs⟩ := he
  have hne : e ≠ [] := fun h => by rw [h] at hm; simp at hm; omega
  obtain ⟨b, off, rfl, hr⟩ := hs.resolve_left hne
  obtain ⟨i, hi, hz, hsz, hby⟩ := info_nd
  have h4 := run_append_grow (P := Tryz.prog) w 24 rt 37 i _ Tryz.underlying24 hi hz ⟨g, 0, none⟩ 0 0 [] (by simp) (by simp) ⟨b, off, none⟩ m c (flatN e) (by rw [flatN_len, hm, hsz]) (fun j v hj => by rw [addr_add]; exact hr j v hj) (by omega) (by omega) (growslice_fits (by omega) (by rw [hby]; omega))
  refine ⟨s2, c2, w2, h1, h2, ?_⟩
  rw [h4] at h1
  have : w.drew.alloc _ = w2 := (Result.ok.inj h1).2
  rw [← this]
  exact grow_drewAlloc _ _
/-- A row of the region's own. -/
def AppN (base n : Nat) (d : List Nd) (v : Value) (w : World) : Prop := ∃ s2 c2, v = .slice s2 n c2 ∧ OwnN w base s2 n c2 d ∧ True
theorem AppN.later {base n : Nat} {d : List Nd} {v : Value} {w w' : World} (hg : Grow w w') : AppN base n d v w → AppN base n d v w' := fun ⟨s2, c2, e, h, l⟩ => ⟨s2, c2, e, h.later hg, l⟩
theorem AppN.turn {T : TypeId} {base n : Nat} {d : List Nd} {v : Value} {w w' : World} (hT : GrewT T w w') (hne : T ≠ 37) : AppN base n d v w → AppN base n d v w' := fun ⟨s2, c2, e, h, l⟩ => ⟨s2, c2, e, h.keep fun a ha => by
  obtain ⟨cs, hc⟩ := h.block a ha
  exact hT.other hne hc, l⟩
/-- An empty new row. -/
def LitN (base : Nat) (v : Value) (w : World) : Prop := ∃ g, v = .slice (some ⟨g, 0, none⟩) 0 0 ∧ OwnN w base (some ⟨g, 0, none⟩) 0 0 []
theorem LitN.later {base : Nat} {v : Value} {w w' : World} (hg : Grow w w') : LitN base v w → LitN base v w' := fun ⟨g, e, h⟩ => ⟨g, e, h.later hg⟩
theorem LitN.turn {T : TypeId} {base : Nat} {v : Value} {w w' : World} (hT : GrewT T w w') (hne : T ≠ 37) : LitN base v w → LitN base v w' := fun ⟨g, e, h⟩ => ⟨g, e, h.keep fun a ha => by
  obtain ⟨cs, hc⟩ := h.block a ha
  exact hT.other hne hc⟩
theorem run_apN {ws w : World} (hg : Grow ws w) (rt : TypeId) (s : Option Addr) (n cap : Nat) (d e : List Nd) (hown : OwnN w ws.heap.size s n cap d) (s' : Option Addr) (m c : Nat) (he : IsNds w s' m c e) (hlen : n + m ≤ 1000000) :
    ∃ s2 c2 w2, (Builtin.append_ #[24, 24] rt #[.slice s n cap, .slice s' m c]).run Tryz.prog w = .ok (.slice s2 (n + m) c2) w2
      ∧ OwnN w2 ws.heap.size s2 (n + m) c2 (d ++ e) ∧ (Grow ws w2 ∧ GrewT 37 w w2) ∧ True := by
  obtain ⟨s2, c2, w2, h1, h2, h3⟩ := run_ap_nd w rt ws.heap.size s n cap d e hown s' m c he hlen hg.size
  exact ⟨s2, c2, w2, h1, h2, ⟨(GrewBut.mk h3 fun b hb => (hown.lt b hb).2).grow hg (Nat.le_refl _), hown.grewT h3⟩, trivial⟩
theorem OwnN.neG {w : World} {base n cap b : Nat} {s : Option Addr} {d : List Nd} (h : OwnN w base s n cap d) (hb : BlkG w b) : ∀ a, s = some a → a.block ≠ b := by
  intro a ha e
  obtain ⟨cs, hc⟩ := h.block a ha
  obtain ⟨cs', hc', _⟩ := hb
  rw [e, hc'] at hc
  simp only [Option.some.injEq, Obj.cells.injEq] at hc
  exact absurd hc.2.1 (by decide)
theorem OwnE.block {w : World} {base n cap : Nat} {s : Option Addr} {d : List Ed} (h : OwnE w base s n cap d) : ∀ a, s = some a → ∃ cs, w.heap[a.block]? = some (.cells cs 39 (0, 0)) := by
  intro a ha
  rcases h.2.1.2 with ⟨h', _⟩ | ⟨g, cap', cur, h', hb, hg, r⟩
  · simp only [Value.slice.injEq] at h'
    rw [ha] at h'; cases h'.1
  · simp only [Value.slice.injEq] at h'
    rw [ha] at h'
    cases h'.1
    exact ⟨cur, hg⟩
theorem OwnE.grewT {w w2 : World} {base n cap : Nat} {s : Option Addr} {d : List Ed} (h : OwnE w base s n cap d) (hg : w.grownBy w2 (s.map (·.block))) : GrewT 39 w w2 := by
  intro k hk
  cases s with
  | none => exact .inl (hg.block k hk (by simp))
  | some a =>
    by_cases e : k = a.block
    · obtain ⟨cs, hc⟩ := h.block a rfl
      exact .inr ⟨cs, by rw [e]; exact hc⟩
    · exact .inl (hg.block k hk (by simp; exact e))
theorem OwnE.lit1 (w : World) (base : Nat) (hb : base ≤ w.heap.size) (x : Ed) : OwnE (w.alloc (.cells #[.int .i64 x.f, .int .i64 x.t, .int .i64 x.p] 39)) base (some ⟨w.heap.size, 0, none⟩) 1 1 [x] :=
  ⟨rfl, World.ownsRow_lit w #[.int .i64 x.f, .int .i64 x.t, .int .i64 x.p] 1 hb (by simp [maxLen]) rfl, fun h => by cases h⟩
theorem app_emp_ed (s : Option Addr) (n cap : Nat) (hn : n ≤ cap) (s' : Option Addr) (c : Nat) (rt : TypeId) (w : World) :
    (Builtin.append_ #[25, 25] rt #[.slice s n cap, .slice s' 0 c]).run Tryz.prog w = .ok (.slice s n cap) w := by
  obtain ⟨i, hi, _⟩ := info_ed
  have hl : ∀ a : Addr, (loadCells a 0).run Tryz.prog w = .ok #[] w := fun a => by simpa using run_loadCells_list (P := Tryz.prog) w a [] (by simp)
  cases s' <;> cases s <;> simp [Builtin.append_, run_underlying Tryz.underlying25, sizeOf, typeInfo, hi, Builtin.lenOf, Builtin.firstCells, storeCells, hl, hn]
/-- What append onto a new empty slice does: nothing that was there changes. -/
theorem run_ap0_ed (w : World) (rt : TypeId) (base g : Nat) (e : List Ed) (hown : OwnE w base (some ⟨g, 0, none⟩) 0 0 []) (s' : Option Addr) (m c : Nat) (he : IsEds w s' m c e) (hlen : m ≤ 1000000) (hbase : base ≤ w.heap.size) :
    ∃ s2 c2 w2, (Builtin.append_ #[25, 25] rt #[.slice (some ⟨g, 0, none⟩) 0 0, .slice s' m c]).run Tryz.prog w = .ok (.slice s2 m c2) w2
      ∧ OwnE w2 base s2 m c2 e ∧ Grow w w2 := by
  by_cases h0 : m = 0
  · subst h0
    have he' : e = [] := List.eq_nil_of_length_eq_zero he.1
    subst he'
    exact ⟨_, _, w, app_emp_ed _ 0 0 (Nat.le_refl _) s' c rt w, hown, Grow.rfl' _⟩
  obtain ⟨s2, c2, w2, h1, h2, h3⟩ := run_ap_ed w rt base (some ⟨g, 0, none⟩) 0 0 [] e hown s' m c he (by omega) hbase
  rw [Nat.zero_add] at h1 h2
  obtain ⟨hm, hmc, hs⟩ := he
  have hne : e ≠ [] := fun h => by rw [h] at hm; simp at hm; omega
  obtain ⟨b, off, rfl, hr⟩ := hs.resolve_left hne
  obtain ⟨i, hi, hz, hsz, hby⟩ := info_ed
  have h4 := run_append_grow (P := Tryz.prog) w 25 rt 39 i _ Tryz.underlying25 hi hz ⟨g, 0, none⟩ 0 0 [] (by simp) (by simp) ⟨b, off, none⟩ m c (flatE e) (by rw [flatE_len, hm, hsz]) (fun j v hj => by rw [addr_add]; exact hr j v hj) (by omega) (by omega) (growslice_fits (by omega) (by rw [hby]; omega))
  refine ⟨s2, c2, w2, h1, h2, ?_⟩
  rw [h4] at h1
  have : w.drew.alloc _ = w2 := (Result.ok.inj h1).2
  rw [← this]
  exact grow_drewAlloc _ _
/-- A row of the region's own. -/
def AppE (base n : Nat) (d : List Ed) (v : Value) (w : World) : Prop := ∃ s2 c2, v = .slice s2 n c2 ∧ OwnE w base s2 n c2 d ∧ True
theorem AppE.later {base n : Nat} {d : List Ed} {v : Value} {w w' : World} (hg : Grow w w') : AppE base n d v w → AppE base n d v w' := fun ⟨s2, c2, e, h, l⟩ => ⟨s2, c2, e, h.later hg, l⟩
theorem AppE.turn {T : TypeId} {base n : Nat} {d : List Ed} {v : Value} {w w' : World} (hT : GrewT T w w') (hne : T ≠ 39) : AppE base n d v w → AppE base n d v w' := fun ⟨s2, c2, e, h, l⟩ => ⟨s2, c2, e, h.keep fun a ha => by
  obtain ⟨cs, hc⟩ := h.block a ha
  exact hT.other hne hc, l⟩
/-- An empty new row. -/
def LitE (base : Nat) (v : Value) (w : World) : Prop := ∃ g, v = .slice (some ⟨g, 0, none⟩) 0 0 ∧ OwnE w base (some ⟨g, 0, none⟩) 0 0 []
theorem LitE.later {base : Nat} {v : Value} {w w' : World} (hg : Grow w w') : LitE base v w → LitE base v w' := fun ⟨g, e, h⟩ => ⟨g, e, h.later hg⟩
theorem LitE.turn {T : TypeId} {base : Nat} {v : Value} {w w' : World} (hT : GrewT T w w') (hne : T ≠ 39) : LitE base v w → LitE base v w' := fun ⟨g, e, h⟩ => ⟨g, e, h.keep fun a ha => by
  obtain ⟨cs, hc⟩ := h.block a ha
  exact hT.other hne hc⟩
theorem run_apE {ws w : World} (hg : Grow ws w) (rt : TypeId) (s : Option Addr) (n cap : Nat) (d e : List Ed) (hown : OwnE w ws.heap.size s n cap d) (s' : Option Addr) (m c : Nat) (he : IsEds w s' m c e) (hlen : n + m ≤ 1000000) :
    ∃ s2 c2 w2, (Builtin.append_ #[25, 25] rt #[.slice s n cap, .slice s' m c]).run Tryz.prog w = .ok (.slice s2 (n + m) c2) w2
      ∧ OwnE w2 ws.heap.size s2 (n + m) c2 (d ++ e) ∧ (Grow ws w2 ∧ GrewT 39 w w2) ∧ True := by
  obtain ⟨s2, c2, w2, h1, h2, h3⟩ := run_ap_ed w rt ws.heap.size s n cap d e hown s' m c he hlen hg.size
  exact ⟨s2, c2, w2, h1, h2, ⟨(GrewBut.mk h3 fun b hb => (hown.lt b hb).2).grow hg (Nat.le_refl _), hown.grewT h3⟩, trivial⟩
theorem OwnE.neG {w : World} {base n cap b : Nat} {s : Option Addr} {d : List Ed} (h : OwnE w base s n cap d) (hb : BlkG w b) : ∀ a, s = some a → a.block ≠ b := by
  intro a ha e
  obtain ⟨cs, hc⟩ := h.block a ha
  obtain ⟨cs', hc', _⟩ := hb
  rw [e, hc'] at hc
  simp only [Option.some.injEq, Obj.cells.injEq] at hc
  exact absurd hc.2.1 (by decide)
/-- A new block for a graph, of the region's own. -/
def NewG (base : Nat) (v : Value) (w : World) : Prop := ∃ b, v = .pointer (some ⟨b, 0, none⟩) ∧ BlkG w b ∧ base ≤ b
theorem NewG.later {base : Nat} {v : Value} {w w' : World} (hg : Grow w w') : NewG base v w → NewG base v w' := fun ⟨b, e, h, k⟩ => ⟨b, e, h.later hg, k⟩
theorem NewG.turn {T : TypeId} {base : Nat} {v : Value} {w w' : World} (hT : GrewT T w w') (hne : T ≠ 27) : NewG base v w → NewG base v w' := fun ⟨b, e, h, k⟩ => ⟨b, e, by
  have h' := h
  obtain ⟨cs, hc, _⟩ := h
  exact h'.keep (hT.other hne hc), k⟩
/-- The value of a graph, both of whose rows are the region's own; of which one is. -/
def GrNE (base n m : Nat) (N : List Nd) (E : List Ed) (v : Value) (w : World) : Prop := ∃ s c t q, v = .agg #[.slice s n c, .slice t m q] ∧ OwnN w base s n c N ∧ OwnE w base t m q E
theorem GrNE.later {base n m : Nat} {N : List Nd} {E : List Ed} {v : Value} {w w' : World} (hg : Grow w w') : GrNE base n m N E v w → GrNE base n m N E v w' := fun ⟨s, c, t, q, e, h, k⟩ => ⟨s, c, t, q, e, h.later hg, k.later hg⟩
def GrIE (base : Nat) (s : Option Addr) (n c m : Nat) (E : List Ed) (v : Value) (w : World) : Prop := ∃ t q, v = .agg #[.slice s n c, .slice t m q] ∧ OwnE w base t m q E
theorem GrIE.later {base : Nat} {s : Option Addr} {n c m : Nat} {E : List Ed} {v : Value} {w w' : World} (hg : Grow w w') : GrIE base s n c m E v w → GrIE base s n c m E v w' := fun ⟨t, q, e, k⟩ => ⟨t, q, e, k.later hg⟩
def GrNI (base n : Nat) (N : List Nd) (t : Option Addr) (m q : Nat) (v : Value) (w : World) : Prop := ∃ s c, v = .agg #[.slice s n c, .slice t m q] ∧ OwnN w base s n c N
theorem GrNI.later {base n : Nat} {N : List Nd} {t : Option Addr} {m q : Nat} {v : Value} {w w' : World} (hg : Grow w w') : GrNI base n N t m q v w → GrNI base n N t m q v w' := fun ⟨s, c, e, k⟩ => ⟨s, c, e, k.later hg⟩
theorem wp_store_gr {o : Oper} {a : Act} {w : World} {K : Act → World → Prop} {Q : Exit → Act → World → Prop} (x y : Operand) (ho : o.op = .store 27 x y) {b : Nat} {g : GA}
    (hx : a.eval x = .pointer (some ⟨b, 0, none⟩)) (hy : a.eval y = .agg #[.slice g.s g.n g.c, .slice g.t g.m g.q]) (hb : BlkG w b) (W : World) (hg : Grow W w) (hW : W.heap.size ≤ b)
    (h : ∀ w2, Grow W w2 → BoxG w2 b g → BlkG w2 b → (∀ k, k ≠ b → w2.heap[k]? = w.heap[k]?) → K (a.put o.dst undef) w2) : o.wp Tryz.prog a w K Q := by
  have hb' := hb
  obtain ⟨cs, hb, hs⟩ := hb
  exact wp_store_row 27 x y ho b _ hx hy _ _ hb (by kernel_rfl) (by rw [hs]; rfl) (by simp [Value.oneCell']) (h _ (below_setRow hg hW _) (hb'.box g) ⟨_, setRow_heap w b cs _ _ _ hb, rfl⟩ (fun k hk => setRow_other w b k _ hk))
def fromA (a : Option Addr) (cap k : Nat) : Option Addr := if cap = k then a else a.map (·.add (k * 3))
theorem run_tailE (a : Option Addr) (n cap k : Nat) (w : World) (h1 : (k : Int) ≤ (n : Int)) :
    (Instr.slice 25 (.slice a n cap) (some (.int .i64 (k : Int))) none none).run Tryz.prog w = .ok (.slice (fromA a cap k) (n - k) (cap - k)) w := by
  have h0 : (0 : Int) ≤ (k : Int) := by omega
  have z := Tryz.sizeOf39
  unfold fromA
  by_cases hc : cap = k
  · subst hc
    cases a <;> simp [go_sem, h1]
  · cases a <;> simp [go_sem, h1, hc]
theorem RowE.drop' {w : World} {b o : Nat} {d : List Ed} (h : RowE w b o d) (k : Nat) : RowE w b (o + k * 3) (d.drop k) := by
  intro j v hj
  rw [← flatE_drop, List.getElem?_drop] at hj
  have := h (k * 3 + j) v hj
  rwa [← Nat.add_assoc] at this
theorem IsEds.from' {w : World} {s : Option Addr} {n cap : Nat} {d : List Ed} (h : IsEds w s n cap d) (k : Nat) (hk : k ≤ n) : IsEds w (fromA s cap k) (n - k) (cap - k) (d.drop k) := by
  refine ⟨by rw [List.length_drop, h.1], by have := h.2.1; omega, ?_⟩
  by_cases hn : k = n
  · left
    rw [List.drop_of_length_le]
    rw [h.1]; omega
  · rcases h.2.2 with e | ⟨b, o, rfl, r⟩
    · left; rw [e]; simp
    · right
      have hc : ¬ cap = k := by have := h.2.1; omega
      refine ⟨b, o + k * 3, ?_, r.drop' k⟩
      unfold fromA
      rw [if_neg hc]
      simp [addr_add]

end Go.Proofs.YtjebipagehhkjaaGreat
