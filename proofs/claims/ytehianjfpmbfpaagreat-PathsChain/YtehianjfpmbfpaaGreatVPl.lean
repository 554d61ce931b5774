/-
  Which graphs may run, as plain data: whether a node may be, what is the first thing that is wrong with a graph; and what follows: of a graph that is accepted, with a Capture more, without an edge, with one twice, with its edges turned about, with a node spoiled. No program is named here.
-/
import Derived.Test.YtehianjfpmbfpaaGreatVWk
import Derived.Test.YtehianjfpmbfpaaGreatVMy
import Derived.Test.YtehianjfpmbfpaaGreatWPl
namespace Go.Proofs.YtehianjfpmbfpaaGreat
open Go.RowKit
set_option linter.unusedVariables false
set_option linter.unusedSimpArgs false

/-- P9.1. -/
def nodeB (n : Nd) : Bool :=
  depthB n.d &&
  if n.k = 1 ∨ n.k = 11 then decide (n.a = 0) && decide (n.b = 0) && decide (n.d = 0)
  else if n.k = 2 then mayMapB n.a n.b
  else if n.k = 3 then mayFilB n.a n.b
  else if n.k = 4 ∨ n.k = 5 then decide (n.a = 0) && decide (n.b = 0)
  else if n.k = 6 then mayRedB n.a && decide (n.b = 0)
  else if n.k = 7 then mayW n.a n.b && decide (n.d = 0)
  else if n.k = 8 then decide (n.a = 0) && decide (n.b = 0) && decide (0 < n.d)
  else if n.k = 9 then decide (n.a = 0) && decide (n.b = 0) && decide (n.d < 3)
  else if n.k = 10 then decide (0 < n.d) && decide (1 ≤ n.a) && decide (n.a ≤ 6) && decide (n.b = 0)
  else false
theorem nodeB_fit {n : Nd} (h : nodeB n = true) : Fit n := by
  unfold nodeB at h
  rw [Bool.and_eq_true, depB_iff] at h
  obtain ⟨⟨h1, h2⟩, h3⟩ := h
  refine ⟨h1, h2, fun hk => ?_, fun hk => ?_, fun hk => ?_⟩
  all_goals
    rw [hk] at h3
    simp at h3
    omega
theorem nodeB_kind {n : Nd} (h : nodeB n = true) : 1 ≤ n.k ∧ n.k ≤ 11 := by
  by_cases hk : 1 ≤ n.k ∧ n.k ≤ 11
  · exact hk
  · unfold nodeB at h
    rw [if_neg (by omega), if_neg (by omega), if_neg (by omega), if_neg (by omega), if_neg (by omega), if_neg (by omega), if_neg (by omega), if_neg (by omega), if_neg (by omega)] at h
    simp at h
/-- An edge is from an output to an input. -/
def edgeB (N : List Nd) (e : Ed) : Bool := isP N ⟨e.f, -1⟩ && isP N ⟨e.t, e.p⟩ && decide (e.p ≠ -1)
def depE (N : List Nd) (e : Ed) : Bool := decide ((nth N e.f.toNat).d = inDP (nth N e.t.toNat))
/-- An input has just one edge. -/
def portOk (E : List Ed) (l : Lc) : Bool := decide (l.p = -1) || decide ((prevP E l).length = 1)
/-- What is routed by keys comes from an Exchange. -/
def routeOk (N : List Nd) (E : List Ed) (l : Lc) : Bool :=
  decide (l.p = -1) || !(decide ((nth N l.n.toNat).k = 6) || decide ((nth N l.n.toNat).k = 7)) || (prevP E l).all fun j => decide ((nth N j.toNat).k = 5)
def cycB (N : List Nd) (E : List Ed) (v : Nat) : Bool := decide (¬ (nth N v).k = 10) && roundB N E v
/-- P9.2: the first thing that is wrong. -/
def errG (N : List Nd) (E : List Ed) : Int :=
  if ¬ (1 ≤ N.length ∧ N.length ≤ 12 ∧ E.length ≤ 24) then 3
  else if ¬ N.all nodeB = true then 10
  else if ¬ E.all (edgeB N) = true then 11
  else if ¬ E.all (depE N) = true then 12
  else if ¬ (locs N).all (portOk E) = true then 13
  else if ¬ (locs N).all (routeOk N E) = true then 15
  else if (List.range N.length).any (cycB N E) = true then 14 else 0
/-- Nothing is wrong. -/
structure AccG (N : List Nd) (E : List Ed) : Prop where
  big : 1 ≤ N.length ∧ N.length ≤ 12 ∧ E.length ≤ 24
  nodes : N.all nodeB = true
  edges : E.all (edgeB N) = true
  deps : E.all (depE N) = true
  ports : (locs N).all (portOk E) = true
  routes : (locs N).all (routeOk N E) = true
  cyc : ¬ (List.range N.length).any (cycB N E) = true
theorem errG_zero {N : List Nd} {E : List Ed} : errG N E = 0 ↔ AccG N E := by
  constructor
  · intro h
    unfold errG at h
    by_cases h1 : 1 ≤ N.length ∧ N.length ≤ 12 ∧ E.length ≤ 24
    · rw [if_neg (fun x => x h1)] at h
      by_cases h2 : N.all nodeB = true
      · rw [if_neg (fun x => x h2)] at h
        by_cases h3 : E.all (edgeB N) = true
        · rw [if_neg (fun x => x h3)] at h
          by_cases h4 : E.all (depE N) = true
          · rw [if_neg (fun x => x h4)] at h
            by_cases h5 : (locs N).all (portOk E) = true
            · rw [if_neg (fun x => x h5)] at h
              by_cases h6 : (locs N).all (routeOk N E) = true
              · rw [if_neg (fun x => x h6)] at h
                by_cases h7 : (List.range N.length).any (cycB N E) = true
                · rw [if_pos h7] at h; cases h
                · exact ⟨h1, h2, h3, h4, h5, h6, h7⟩
              · rw [if_pos h6] at h; cases h
            · rw [if_pos h5] at h; cases h
          · rw [if_pos h4] at h; cases h
        · rw [if_pos h3] at h; cases h
      · rw [if_pos h2] at h; cases h
    · rw [if_pos h1] at h; cases h
  · rintro ⟨h1, h2, h3, h4, h5, h6, h7⟩
    unfold errG
    rw [if_neg (fun x => x h1), if_neg (fun x => x h2), if_neg (fun x => x h3), if_neg (fun x => x h4), if_neg (fun x => x h5), if_neg (fun x => x h6), if_neg h7]
/-- All stands but an input's edges. -/
theorem errG_port {N : List Nd} {E : List Ed} (h1 : 1 ≤ N.length ∧ N.length ≤ 12 ∧ E.length ≤ 24) (h2 : N.all nodeB = true) (h3 : E.all (edgeB N) = true) (h4 : E.all (depE N) = true) (h5 : ¬ (locs N).all (portOk E) = true) : errG N E = 13 := by
  unfold errG
  rw [if_neg (fun x => x h1), if_neg (fun x => x h2), if_neg (fun x => x h3), if_neg (fun x => x h4), if_pos h5]
theorem errG_node {N : List Nd} {E : List Ed} (h1 : 1 ≤ N.length ∧ N.length ≤ 12 ∧ E.length ≤ 24) (h2 : ¬ N.all nodeB = true) : errG N E = 10 := by
  unfold errG
  rw [if_neg (fun x => x h1), if_pos h2]
theorem edge_is {N : List Nd} {e : Ed} (h : edgeB N e = true) : (0 ≤ e.f ∧ e.f < N.length ∧ hasP (nth N e.f.toNat).k = true) ∧ (0 ≤ e.t ∧ e.t < N.length ∧ portB (nth N e.t.toNat).k e.p = true) ∧ ¬ e.p = -1 := by
  unfold edgeB isP at h
  simp only [Bool.and_eq_true, decide_eq_true_eq] at h
  obtain ⟨⟨⟨⟨h1, h2⟩, h3⟩, ⟨h4, h5⟩, h6⟩, h7⟩ := h
  unfold portB at h3
  rw [if_pos rfl] at h3
  exact ⟨⟨h1, h2, h3⟩, ⟨h4, h5, h6⟩, h7⟩
theorem AccG.edge {N : List Nd} {E : List Ed} (h : AccG N E) {e : Ed} (he : e ∈ E) : edgeB N e = true := List.all_eq_true.1 h.edges e he
theorem AccG.inN {N : List Nd} {E : List Ed} (h : AccG N E) : InN N E := fun e he => by
  have := edge_is (h.edge he)
  exact ⟨this.1.1, this.1.2.1, this.2.1.1, this.2.1.2.1⟩
theorem nth_mem {N : List Nd} {i : Nat} (h : i < N.length) : nth N i ∈ N := by rw [nth_get N i h]; exact List.getElem_mem h
theorem AccG.node {N : List Nd} {E : List Ed} (h : AccG N E) {i : Nat} (hi : i < N.length) : nodeB (nth N i) = true := List.all_eq_true.1 h.nodes _ (nth_mem hi)
theorem AccG.noRound {N : List Nd} {E : List Ed} (h : AccG N E) {v : Nat} (hv : v < N.length) (hk : ¬ (nth N v).k = 10) : roundB N E v = false := by
  cases hr : roundB N E v
  · rfl
  · exact absurd (List.any_eq_true.2 ⟨v, List.mem_range.2 hv, by simp [cycB, hk, hr]⟩) h.cyc
/-- What walks ask. -/
theorem AccG.acc {N : List Nd} {E : List Ed} (h : AccG N E) : Acc N E where
  inN := h.inN
  fit := fun i hi => nodeB_fit (h.node hi)
  dep := fun e he => of_decide_eq_true (List.all_eq_true.1 h.deps e he)
  round := fun v hv hk ht => by
    have := (roundB_iff h.inN hv).2 ht
    rw [h.noRound hv hk] at this
    cases this
/-- A node that an edge leads to has an input; if it has an output too, it does something to times. -/
theorem AccG.mid {N : List Nd} {E : List Ed} (h : AccG N E) {e : Ed} (he : e ∈ E) (ho : hasP (nth N e.t.toNat).k = true) : 2 ≤ (nth N e.t.toNat).k ∧ (nth N e.t.toNat).k ≤ 10 := by
  obtain ⟨_, ⟨_, _, h1⟩, h2⟩ := edge_is (h.edge he)
  simp only [hasP, Bool.and_eq_true, decide_eq_true_eq] at ho
  unfold portB at h1
  rw [if_neg h2] at h1
  simp only [Bool.and_eq_true, decide_eq_true_eq] at h1
  refine ⟨?_, ho.2⟩
  unfold insP at h1
  split at h1
  · omega
  · split at h1
    · omega
    · omega

/-! ## The edges turned about -/
theorem Tr.sub {N : List Nd} {E F : List Ed} {m : Int} {a b : Nat} (hs : ∀ e ∈ E, e ∈ F) (h : Tr N E m a b) : Tr N F m a b := by
  induction h with
  | one e b he hf ht ok => exact .one e b (hs e he) hf ht ok
  | more b e c _ he hf ht ok ih => exact .more b e c ih (hs e he) hf ht ok
theorem prev_rev (E : List Ed) (l : Lc) : prevP E.reverse l = (prevP E l).reverse := by
  unfold prevP
  rw [List.filter_reverse, List.map_reverse]
theorem AccG.rev {N : List Nd} {E : List Ed} (h : AccG N E) : AccG N E.reverse where
  big := by simpa using h.big
  nodes := h.nodes
  edges := by rw [List.all_reverse]; exact h.edges
  deps := by rw [List.all_reverse]; exact h.deps
  ports := by
    refine List.all_eq_true.2 fun l hl => ?_
    have := List.all_eq_true.1 h.ports l hl
    unfold portOk at this ⊢
    rw [prev_rev, List.length_reverse]; exact this
  routes := by
    refine List.all_eq_true.2 fun l hl => ?_
    have := List.all_eq_true.1 h.routes l hl
    unfold routeOk at this ⊢
    rw [prev_rev, List.all_reverse]; exact this
  cyc := by
    intro hc
    obtain ⟨v, hv, hb⟩ := List.any_eq_true.1 hc
    have hvn := List.mem_range.1 hv
    simp only [cycB, Bool.and_eq_true, decide_eq_true_eq] at hb
    have hin : InN N E.reverse := fun e he => h.inN e (List.mem_reverse.1 he)
    have ht := (roundB_iff hin hvn).1 hb.2
    exact h.acc.round v hvn hb.1 (ht.sub fun e he => List.mem_reverse.1 he)

/-! ## An edge less, and one twice -/
theorem prev_app (E F : List Ed) (l : Lc) : prevP (E ++ F) l = prevP E l ++ prevP F l := by simp [prevP]
theorem prev_cons_self (e : Ed) (F : List Ed) : prevP (e :: F) ⟨e.t, e.p⟩ = e.f :: prevP F ⟨e.t, e.p⟩ := by simp [prevP]
theorem AccG.place {N : List Nd} {E : List Ed} (h : AccG N E) {e : Ed} (he : e ∈ E) : (⟨e.t, e.p⟩ : Lc) ∈ locs N ∧ (prevP E ⟨e.t, e.p⟩).length = 1 ∧ ¬ e.p = -1 := by
  have h1 := edge_is (h.edge he)
  have hm : (⟨e.t, e.p⟩ : Lc) ∈ locs N := by
    rw [mem_locs]
    unfold isP
    simp [h1.2.1]
  have := List.all_eq_true.1 h.ports _ hm
  simp only [portOk, Bool.or_eq_true, decide_eq_true_eq] at this
  exact ⟨hm, this.resolve_left h1.2.2, h1.2.2⟩
theorem not_port {N : List Nd} {E : List Ed} {l : Lc} (hm : l ∈ locs N) (hp : ¬ l.p = -1) (hl : ¬ (prevP E l).length = 1) : ¬ (locs N).all (portOk E) = true := by
  intro h
  have := List.all_eq_true.1 h l hm
  simp only [portOk, Bool.or_eq_true, decide_eq_true_eq] at this
  rcases this with h1 | h1
  · exact hp h1
  · exact hl h1
theorem AccG.less {N : List Nd} {E : List Ed} (h : AccG N E) (i : Nat) (hi : i < E.length) : errG N (E.take i ++ E.drop (i + 1)) = 13 := by
  have hE : E = E.take i ++ E[i] :: E.drop (i + 1) := by
    have := List.take_append_drop i E
    rw [List.drop_eq_getElem_cons hi] at this
    exact this.symm
  obtain ⟨hm, hl, hp⟩ := h.place (List.getElem_mem hi)
  have hsub : ∀ e ∈ E.take i ++ E.drop (i + 1), e ∈ E := by
    intro e he
    rcases List.mem_append.1 he with he | he
    · exact List.mem_of_mem_take he
    · exact List.mem_of_mem_drop he
  refine errG_port ?_ h.nodes (List.all_eq_true.2 fun e he => List.all_eq_true.1 h.edges e (hsub e he)) (List.all_eq_true.2 fun e he => List.all_eq_true.1 h.deps e (hsub e he)) (not_port hm hp ?_)
  · have := h.big
    refine ⟨this.1, this.2.1, ?_⟩
    rw [List.length_append, List.length_take, List.length_drop]
    omega
  · have h1 : prevP E ⟨E[i].t, E[i].p⟩ = prevP (E.take i ++ E[i] :: E.drop (i + 1)) ⟨E[i].t, E[i].p⟩ := congrArg (fun F => prevP F ⟨E[i].t, E[i].p⟩) hE
    rw [h1, prev_app, prev_cons_self, List.length_append, List.length_cons] at hl
    rw [prev_app, List.length_append]
    omega
theorem AccG.twice {N : List Nd} {E : List Ed} (h : AccG N E) (i : Nat) (hi : i < E.length) (hb : E.length < 24) : errG N (E ++ [E[i]]) = 13 := by
  obtain ⟨hm, hl, hp⟩ := h.place (List.getElem_mem hi)
  have hsub : ∀ e ∈ E ++ [E[i]], e ∈ E := by
    intro e he
    rcases List.mem_append.1 he with he | he
    · exact he
    · rw [List.mem_singleton.1 he]; exact List.getElem_mem hi
  refine errG_port ?_ h.nodes (List.all_eq_true.2 fun e he => List.all_eq_true.1 h.edges e (hsub e he)) (List.all_eq_true.2 fun e he => List.all_eq_true.1 h.deps e (hsub e he)) (not_port hm hp ?_)
  · have := h.big
    refine ⟨this.1, this.2.1, ?_⟩
    simp
    omega
  · rw [prev_app, List.length_append, prev_cons_self, List.length_cons]
    omega

/-! ## A node spoiled -/
theorem bad_kind (n : Nd) : nodeB ⟨12, n.a, n.b, n.d⟩ = false := by simp [nodeB]
theorem bad_depth (n : Nd) : nodeB ⟨n.k, n.a, n.b, 4⟩ = false := by simp [nodeB, depthB]
theorem bad_a (n : Nd) : nodeB ⟨n.k, 5000, n.b, n.d⟩ = false := by
  unfold nodeB
  simp only
  repeat' split
  all_goals simp [mayMapB, mayFilB, mayRedB, mayW]
theorem bad_b (n : Nd) : nodeB ⟨n.k, n.a, 5000, n.d⟩ = false := by
  unfold nodeB
  simp only
  repeat' split
  all_goals simp [mayMapB, mayFilB, mayRedB, mayW]
  all_goals omega
theorem AccG.spoil {N : List Nd} {E : List Ed} (h : AccG N E) (i : Nat) (hi : i < N.length) (x : Nd) (hx : nodeB x = false) : errG (N.set i x) E = 10 := by
  refine errG_node (by simpa using h.big) fun hc => ?_
  have := List.all_eq_true.1 hc x (List.mem_set hi x)
  rw [hx] at this
  cases this

end Go.Proofs.YtehianjfpmbfpaaGreat
