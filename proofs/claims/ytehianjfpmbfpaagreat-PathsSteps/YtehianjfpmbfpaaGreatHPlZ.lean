import Derived.Test.YtehianjfpmbfpaaGreatBase
import Derived.Test.YtehianjfpmbfpaaGreatInv
import Derived.Test.YtehianjfpmbfpaaGreatSBase
import Derived.Test.YtehianjfpmbfpaaGreatBox
section
/-
  Summaries as plain data, for a program without times: what nodes do; what summary's own small functions, within and depthMay, and the document's own depth, do to the world.
-/
namespace Go.Proofs.YtehianjfpmbfpaaGreat
open Go.RowKit
set_option linter.unusedVariables false

theorem eqS_self (s : Sm) : eqS s s = true := by simp [eqS]

end Go.Proofs.YtehianjfpmbfpaaGreat
end

section
/-
  Nodes, places and edges as plain data: what a node has, the places of a graph in order, where edges lead and come from. No program is named here.
-/
namespace Go.Proofs.YtehianjfpmbfpaaGreat
open Go.RowKit
set_option linter.unusedVariables false
set_option linter.unusedSimpArgs false

/-- A node: its kind, two numbers, its depth. -/
structure Nd where
  k : Int
  a : Int
  b : Int
  d : Int
/-- A place: a node and a port. -/
structure Lc where
  n : Int
  p : Int
/-- An edge: from a node to a node's port. -/
structure Ed where
  f : Int
  t : Int
  p : Int
theorem Lc.ext' {a b : Lc} (h1 : a.n = b.n) (h2 : a.p = b.p) : a = b := by cases a; cases b; simp_all
instance : DecidableEq Lc := fun a b =>
  if h : a.n = b.n ∧ a.p = b.p then .isTrue (Lc.ext' h.1 h.2) else .isFalse fun e => h (by subst e; exact ⟨rfl, rfl⟩)
def eqL (a b : Lc) : Bool := a.n == b.n && a.p == b.p
theorem eqL_iff (a b : Lc) : eqL a b = true ↔ a = b := by
  constructor
  · intro h
    simp [eqL] at h
    exact Lc.ext' h.1 h.2
  · rintro rfl
    simp [eqL]
def insP (k : Int) : Int := if k = 4 then 2 else if 2 ≤ k ∧ k ≤ 11 then 1 else 0
def hasP (k : Int) : Bool := decide (1 ≤ k) && decide (k ≤ 10)
theorem insP_cases (k : Int) : insP k = 0 ∨ insP k = 1 ∨ insP k = 2 := by
  unfold insP
  repeat' split
  all_goals omega
def inDP (n : Nd) : Int := if n.k = 8 then wrap64 (n.d - 1) else if n.k = 9 then wrap64 (n.d + 1) else n.d
def innP (n : Nd) : Sm := if n.k = 8 then enterS (inDP n) else if n.k = 9 then leaveS (inDP n) else if n.k = 10 then feedS n.d else if 2 ≤ n.k ∧ n.k ≤ 7 then sameS n.d else ⟨0, 0, 0, 0, 0, 0, 0⟩
/-- The order of places. -/
def ordL (a b : Lc) : Int := if cmpI a.n b.n ≠ 0 then cmpI a.n b.n else cmpI a.p b.p
theorem ordL_zero (a b : Lc) : ordL a b = 0 ↔ a = b := by
  constructor
  · intro h
    unfold ordL cmpI at h
    refine Lc.ext' ?_ ?_ <;> (repeat' split at h) <;> omega
  · rintro rfl
    simp [ordL, cmpI]
theorem ordL_lt (a b : Lc) : ordL a b = -1 ↔ a.n < b.n ∨ a.n = b.n ∧ a.p < b.p := by
  unfold ordL cmpI
  constructor
  · intro h
    repeat' split at h
    all_goals omega
  · intro h
    repeat' split
    all_goals omega
theorem ordL_gt (a b : Lc) : ordL a b = 1 ↔ b.n < a.n ∨ b.n = a.n ∧ b.p < a.p := by
  unfold ordL cmpI
  constructor
  · intro h
    repeat' split at h
    all_goals omega
  · intro h
    repeat' split
    all_goals omega
theorem ordL_cases (a b : Lc) : ordL a b = -1 ∨ ordL a b = 0 ∨ ordL a b = 1 := by
  unfold ordL cmpI
  repeat' split
  all_goals omega
theorem ordL_turn (a b : Lc) : ordL a b = -ordL b a := by
  unfold ordL cmpI
  repeat' split
  all_goals omega
theorem ordL_chain (a b c : Lc) (h1 : ¬ 0 < ordL a b) (h2 : ¬ 0 < ordL b c) : ordL a c ≤ 0 := by
  have a1 := ordL_gt a b
  have a2 := ordL_gt b c
  have a3 := ordL_gt a c
  have c1 := ordL_cases a b
  have c2 := ordL_cases b c
  have c3 := ordL_cases a c
  omega
theorem ordL_out (n : Int) : ordL ⟨n, -1⟩ ⟨n, 0⟩ = -1 := (ordL_lt _ _).2 (.inr ⟨rfl, by simp⟩)

/-- Node number i. -/
def nth (N : List Nd) (i : Nat) : Nd := N.getD i ⟨0, 0, 0, 0⟩
theorem nth_get (N : List Nd) (i : Nat) (h : i < N.length) : nth N i = N[i] := by simp [nth, h]
/-- The inputs of node i below port j. -/
def insTo (i : Nat) (j : Nat) : List Lc := (List.range j).map fun (p : Nat) => (⟨(i : Int), (p : Int)⟩ : Lc)
theorem insTo_step (i j : Nat) : insTo i (j + 1) = insTo i j ++ [⟨i, j⟩] := by simp [insTo, List.range_succ]
/-- The places of one node. -/
def locsOf (i : Nat) (k : Int) : List Lc := (if hasP k = true then [⟨i, -1⟩] else []) ++ insTo i (insP k).toNat
/-- The places of the first m nodes. -/
def locsTo (N : List Nd) (m : Nat) : List Lc := (List.range m).flatMap fun i => locsOf i (nth N i).k
theorem locsTo_zero (N : List Nd) : locsTo N 0 = [] := rfl
theorem locsTo_step (N : List Nd) (m : Nat) : locsTo N (m + 1) = locsTo N m ++ locsOf m (nth N m).k := by simp [locsTo, List.range_succ]
def locs (N : List Nd) : List Lc := locsTo N N.length
theorem mem_insTo (i j : Nat) (l : Lc) : l ∈ insTo i j ↔ l.n = i ∧ 0 ≤ l.p ∧ l.p < j := by
  unfold insTo
  simp only [List.mem_map, List.mem_range]
  constructor
  · rintro ⟨p, hp, rfl⟩
    exact ⟨rfl, by simp, by simpa using hp⟩
  · rintro ⟨h1, h2, h3⟩
    exact ⟨l.p.toNat, by omega, Lc.ext' h1.symm (by simp; omega)⟩
/-- Is port p one of a node of kind k? -/
def portB (k p : Int) : Bool := if p = -1 then hasP k else decide (0 ≤ p) && decide (p < insP k)
theorem mem_locsOf (i : Nat) (k : Int) (l : Lc) : l ∈ locsOf i k ↔ l.n = i ∧ portB k l.p = true := by
  unfold locsOf portB
  have hi := insP_cases k
  rw [List.mem_append, mem_insTo]
  by_cases hp : l.p = -1
  · rw [if_pos hp]
    by_cases hh : hasP k = true
    · rw [if_pos hh]
      simp only [List.mem_singleton]
      constructor
      · rintro (rfl | h)
        · exact ⟨rfl, hh⟩
        · omega
      · rintro ⟨h, _⟩
        exact .inl (Lc.ext' h hp)
    · rw [if_neg hh]
      simp only [List.not_mem_nil, false_or]
      constructor
      · intro h; omega
      · rintro ⟨_, h⟩; exact absurd h hh
  · rw [if_neg hp]
    have hn : ¬ l ∈ (if hasP k = true then [(⟨i, -1⟩ : Lc)] else []) := by
      split
      · simp only [List.mem_singleton]
        intro h
        rw [h] at hp
        exact hp rfl
      · simp
    simp only [hn, false_or, Bool.and_eq_true, decide_eq_true_eq]
    omega
/-- Is l a place? As the program asks it. -/
def isP (N : List Nd) (l : Lc) : Bool := decide (0 ≤ l.n) && decide (l.n < N.length) && portB (nth N l.n.toNat).k l.p
theorem mem_locsTo (N : List Nd) (m : Nat) (l : Lc) : l ∈ locsTo N m ↔ 0 ≤ l.n ∧ l.n < m ∧ portB (nth N l.n.toNat).k l.p = true := by
  unfold locsTo
  simp only [List.mem_flatMap, List.mem_range, mem_locsOf]
  constructor
  · rintro ⟨i, hi, h1, h2⟩
    have : l.n.toNat = i := by omega
    rw [this]
    exact ⟨by omega, by omega, h2⟩
  · rintro ⟨h1, h2, h3⟩
    exact ⟨l.n.toNat, by omega, by omega, h3⟩
theorem mem_locs (N : List Nd) (l : Lc) : l ∈ locs N ↔ isP N l = true := by
  unfold locs isP
  rw [mem_locsTo]
  simp [and_assoc]
def depP (N : List Nd) (l : Lc) : Int := if isP N l = true then (if l.p = -1 then (nth N l.n.toNat).d else inDP (nth N l.n.toNat)) else -1
def nextP (E : List Ed) (i : Int) : List Lc := (E.filter fun e => decide (e.f = i)).map fun e => ⟨e.t, e.p⟩
def prevP (E : List Ed) (l : Lc) : List Int := (E.filter fun e => decide (e.t = l.n) && decide (e.p = l.p)).map (·.f)
theorem nextP_step (E : List Ed) (i : Int) (j : Nat) (h : j < E.length) : nextP (E.take (j + 1)) i = nextP (E.take j) i ++ if E[j].f = i then [⟨E[j].t, E[j].p⟩] else [] := by
  unfold nextP
  rw [← List.take_append_getElem h, List.filter_append, List.map_append]
  congr 1
  by_cases hf : E[j].f = i <;> simp [hf]
theorem prevP_step (E : List Ed) (l : Lc) (j : Nat) (h : j < E.length) : prevP (E.take (j + 1)) l = prevP (E.take j) l ++ if E[j].t = l.n ∧ E[j].p = l.p then [E[j].f] else [] := by
  unfold prevP
  rw [← List.take_append_getElem h, List.filter_append, List.map_append]
  congr 1
  by_cases hf : E[j].t = l.n <;> by_cases hg : E[j].p = l.p <;> simp [hf, hg]
theorem nextP_len (E : List Ed) (i : Int) : (nextP E i).length ≤ E.length := by unfold nextP; rw [List.length_map]; exact List.length_filter_le _ _
theorem prevP_len (E : List Ed) (l : Lc) : (prevP E l).length ≤ E.length := by unfold prevP; rw [List.length_map]; exact List.length_filter_le _ _
theorem locsOf_len (i : Nat) (k : Int) : (locsOf i k).length = (insP k).toNat + (if hasP k = true then 1 else 0) := by
  unfold locsOf
  rw [List.length_append]
  have : (insTo i (insP k).toNat).length = (insP k).toNat := by simp [insTo]
  rw [this]
  split <;> simp <;> omega
theorem locsTo_len (N : List Nd) (m : Nat) : (locsTo N m).length ≤ 3 * m := by
  induction m with
  | zero => simp [locsTo]
  | succ m ih =>
    rw [locsTo_step, List.length_append, locsOf_len]
    have := insP_cases (nth N m).k
    split <;> omega
/-- How many places, as the law counts them. -/
def manyTo (N : List Nd) : Nat → Int
  | 0 => 0
  | m + 1 => manyTo N m + insP (nth N m).k + if hasP (nth N m).k = true then 1 else 0
theorem manyTo_len (N : List Nd) (m : Nat) : manyTo N m = (locsTo N m).length := by
  induction m with
  | zero => rfl
  | succ m ih =>
    unfold manyTo
    rw [locsTo_step, List.length_append, locsOf_len, ih]
    have := insP_cases (nth N m).k
    split <;> omega

/-- Places stand in order. -/
def risesL (d : List Lc) : Prop := ∀ i (h : i + 1 < d.length), ordL d[i] d[i + 1] = -1
theorem risesL_of {d : List Lc} (h : d.Pairwise fun a b => ordL a b = -1) : risesL d := by
  intro i hi
  exact (List.pairwise_iff_getElem.1 h) i (i + 1) (by omega) hi (by omega)
theorem locsOf_rises (i : Nat) (k : Int) : (locsOf i k).Pairwise fun a b => ordL a b = -1 := by
  have hr : (insTo i (insP k).toNat).Pairwise fun a b => ordL a b = -1 := by
    unfold insTo
    rw [List.pairwise_map]
    refine List.Pairwise.imp (R := fun (a b : Nat) => a < b) ?_ List.pairwise_lt_range
    intro a b h
    exact (ordL_lt _ _).2 (.inr ⟨rfl, show (a : Int) < (b : Int) by omega⟩)
  unfold locsOf
  rw [List.pairwise_append]
  refine ⟨?_, hr, ?_⟩
  · split <;> simp
  · intro a ha b hb
    have h1 := (mem_insTo _ _ _).1 hb
    split at ha
    · simp only [List.mem_singleton] at ha
      subst ha
      exact (ordL_lt _ _).2 (.inr ⟨h1.1.symm, by simp; omega⟩)
    · simp at ha
theorem locsTo_rises (N : List Nd) (m : Nat) : (locsTo N m).Pairwise fun a b => ordL a b = -1 := by
  induction m with
  | zero => simp [locsTo]
  | succ m ih =>
    rw [locsTo_step, List.pairwise_append]
    refine ⟨ih, locsOf_rises _ _, ?_⟩
    intro a ha b hb
    have h1 := (mem_locsTo _ _ _).1 ha
    have h2 := (mem_locsOf _ _ _).1 hb
    exact (ordL_lt _ _).2 (.inl (by omega))
/-- P8.4: places are in order, each is one. -/
theorem locs_rises (N : List Nd) : risesL (locs N) := risesL_of (locsTo_rises N _)
theorem locs_is (N : List Nd) (i : Nat) (h : i < (locs N).length) : isP N (locs N)[i] = true := (mem_locs N _).1 (List.getElem_mem h)
/-- P8.4: an edge leads where Next tells, and comes from where Prev does. -/
theorem next_has (E : List Ed) (e : Ed) (h : e ∈ E) : (⟨e.t, e.p⟩ : Lc) ∈ nextP E e.f := by
  unfold nextP
  exact List.mem_map.2 ⟨e, List.mem_filter.2 ⟨h, by simp⟩, rfl⟩
theorem prev_has (E : List Ed) (e : Ed) (h : e ∈ E) : e.f ∈ prevP E ⟨e.t, e.p⟩ := by
  unfold prevP
  exact List.mem_map.2 ⟨e, List.mem_filter.2 ⟨h, by simp⟩, rfl⟩
/-- The edges that lead from the first m nodes. -/
def fromTo (E : List Ed) : Nat → Nat
  | 0 => 0
  | m + 1 => fromTo E m + (nextP E m).length
/-- Of the first j edges those that are from one of n nodes. -/
def ownTo (E : List Ed) (n : Nat) (j : Nat) : Nat := ((E.take j).filter fun e => decide (0 ≤ e.f) && decide (e.f < (n : Int))).length
theorem ownTo_step (E : List Ed) (n j : Nat) (h : j < E.length) : ownTo E n (j + 1) = ownTo E n j + if 0 ≤ E[j].f ∧ E[j].f < n then 1 else 0 := by
  unfold ownTo
  rw [← List.take_append_getElem h, List.filter_append, List.length_append]
  congr 1
  by_cases hf : 0 ≤ E[j].f <;> by_cases hg : E[j].f < n <;> simp [hf, hg]
theorem ownTo_le (E : List Ed) (n j : Nat) : ownTo E n j ≤ j := by
  unfold ownTo
  exact Nat.le_trans (List.length_filter_le _ _) (by rw [List.length_take]; omega)
theorem next_one (e : Ed) (E : List Ed) (i : Int) : (nextP (e :: E) i).length = (if e.f = i then 1 else 0) + (nextP E i).length := by
  unfold nextP
  by_cases h : e.f = i <;> simp [h] <;> omega
theorem fromTo_cons (e : Ed) (E : List Ed) (m : Nat) : fromTo (e :: E) m = (if 0 ≤ e.f ∧ e.f < m then 1 else 0) + fromTo E m := by
  induction m with
  | zero => simp [fromTo]; try omega
  | succ m ih =>
    unfold fromTo
    rw [ih, next_one]
    by_cases h1 : e.f = m
    · have h2 : ¬ (0 ≤ e.f ∧ e.f < m) := by omega
      have h3 : 0 ≤ e.f ∧ e.f < ((m + 1 : Nat) : Int) := by omega
      rw [if_neg h2, if_pos h1, if_pos h3]; omega
    · by_cases h2 : 0 ≤ e.f ∧ e.f < m
      · have h3 : 0 ≤ e.f ∧ e.f < ((m + 1 : Nat) : Int) := by omega
        rw [if_neg h1, if_pos h2, if_pos h3]; omega
      · have h3 : ¬ (0 ≤ e.f ∧ e.f < ((m + 1 : Nat) : Int)) := by omega
        rw [if_neg h1, if_neg h2, if_neg h3]; omega
/-- P8.3: a graph's edges are as many as lead from its nodes together, if each is from one of them. -/
theorem from_own (E : List Ed) (n : Nat) : fromTo E n = ownTo E n E.length := by
  induction E with
  | nil =>
    have : ∀ m, fromTo [] m = 0 := by
      intro m
      induction m with
      | zero => rfl
      | succ m ih => unfold fromTo; rw [ih]; rfl
    rw [this]; rfl
  | cons e E ih =>
    rw [fromTo_cons, ih]
    unfold ownTo
    rw [List.take_of_length_le (Nat.le_refl _), List.take_of_length_le (Nat.le_refl _)]
    by_cases hf : 0 ≤ e.f <;> by_cases hg : e.f < n <;> simp [hf, hg] <;> omega
theorem fromTo_le (E : List Ed) (m : Nat) : fromTo E m ≤ m * E.length := by
  induction m with
  | zero => simp [fromTo]
  | succ m ih =>
    unfold fromTo
    have := nextP_len E m
    rw [Nat.succ_mul]; omega

end Go.Proofs.YtehianjfpmbfpaaGreat
end
