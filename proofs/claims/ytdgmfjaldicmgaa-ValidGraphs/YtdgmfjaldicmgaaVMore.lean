/-
  A graph that is accepted stays so with a Capture more at an output of the depth 0; a row of plain nodes that leads back to its beginning is refused, one with a Feedback is accepted: as plain data. No program is named here.
-/
import Derived.Test.YtdgmfjaldicmgaaVPl
namespace Go.Proofs.Ytdgmfjaldicmgaa
open Go.RowKit
set_option linter.unusedVariables false
set_option linter.unusedSimpArgs false

theorem isP_at {N : List Nd} {k : Nat} {p : Int} (h : k < N.length) : isP N ⟨k, p⟩ = portB (nth N k).k p := by
  unfold isP
  have h1 : (0 : Int) ≤ (k : Int) := by omega
  simp [h1, h]
/-- A Capture. -/
def capN : Nd := ⟨11, 0, 0, 0⟩
theorem nth_old {N : List Nd} {x : Nd} {i : Nat} (h : i < N.length) : nth (N ++ [x]) i = nth N i := by
  rw [nth_get _ i (by simp; omega), nth_get N i h, List.getElem_append_left h]
theorem nth_new (N : List Nd) (x : Nd) : nth (N ++ [x]) N.length = x := by
  rw [nth_get _ _ (by simp)]
  simp
theorem locs_more (N : List Nd) (x : Nd) : locs (N ++ [x]) = locs N ++ locsOf N.length x.k := by
  have key : ∀ m, m ≤ N.length → locsTo (N ++ [x]) m = locsTo N m := by
    intro m
    induction m with
    | zero => intro _; rfl
    | succ m ih => intro hm; rw [locsTo_step, locsTo_step, ih (by omega), nth_old (by omega)]
  unfold locs
  rw [List.length_append, List.length_singleton, locsTo_step, key _ (Nat.le_refl _), nth_new]
theorem locs_cap (N : List Nd) : locs (N ++ [capN]) = locs N ++ [⟨N.length, 0⟩] := by
  rw [locs_more]
  rfl
theorem isP_old {N : List Nd} {x : Nd} {l : Lc} (h : isP N l = true) : isP (N ++ [x]) l = true := by
  unfold isP at h ⊢
  simp only [Bool.and_eq_true, decide_eq_true_eq] at h ⊢
  obtain ⟨⟨h1, h2⟩, h3⟩ := h
  rw [nth_old (by omega)]
  exact ⟨⟨h1, by simp; omega⟩, h3⟩
theorem Tr.old {N : List Nd} {E : List Ed} {x : Nd} {y : Ed} {m : Int} {a b : Nat} (hin : InN N E) (hy : y.t = N.length) (hyf : y.f < N.length) (h : Tr (N ++ [x]) (E ++ [y]) m a b) : b < N.length → Tr N E m a b := by
  induction h with
  | one e b he hf ht ok =>
    intro hb
    rw [okT, nth_old hb] at ok
    rcases List.mem_append.1 he with he | he
    · exact .one e b he hf ht ok
    · rw [List.mem_singleton.1 he, hy] at ht; omega
  | more b e c _ he hf ht ok ih =>
    intro hc
    rw [okT, nth_old hc] at ok
    rcases List.mem_append.1 he with he | he
    · have := hin e he
      exact .more b e c (ih (by omega)) he hf ht ok
    · rw [List.mem_singleton.1 he, hy] at ht; omega
theorem Tr.from' {N : List Nd} {E : List Ed} {m : Int} {a b : Nat} (h : Tr N E m a b) : ∃ e ∈ E, e.f = a := by
  induction h with
  | one e b he hf ht ok => exact ⟨e, he, hf⟩
  | more b e c _ he hf ht ok ih => exact ih
/-- P9.2: with a Capture more. -/
theorem AccG.more {N : List Nd} {E : List Ed} (h : AccG N E) (i : Nat) (hi : i < N.length) (ho : hasP (nth N i).k = true) (hd : (nth N i).d = 0) (hn : N.length < 12) (he : E.length < 24) :
    errG (N ++ [capN]) (E ++ [⟨i, N.length, 0⟩]) = 0 := by
  have hin := h.inN
  have hold : ∀ e ∈ E, (nth (N ++ [capN]) e.f.toNat) = nth N e.f.toNat ∧ (nth (N ++ [capN]) e.t.toNat) = nth N e.t.toNat := fun e h2 => by
    have := hin e h2
    exact ⟨nth_old (by omega), nth_old (by omega)⟩
  have hprev : ∀ l : Lc, l ∈ locs N → prevP (E ++ [⟨i, N.length, 0⟩]) l = prevP E l := fun l hl => by
    have h1 := (mem_locs N l).1 hl
    simp only [isP, Bool.and_eq_true, decide_eq_true_eq] at h1
    rw [prev_app]
    have : prevP [⟨i, N.length, 0⟩] l = [] := by
      unfold prevP
      have : ¬ ((N.length : Int) = l.n) := by omega
      simp [this]
    rw [this, List.append_nil]
  rw [errG_zero]
  refine ⟨?_, ?_, ?_, ?_, ?_, ?_, ?_⟩
  · simp; omega
  · rw [List.all_append, h.nodes]; rfl
  · rw [List.all_append, Bool.and_eq_true]
    refine ⟨List.all_eq_true.2 fun e h2 => ?_, ?_⟩
    · have h3 := h.edge h2
      unfold edgeB at h3 ⊢
      simp only [Bool.and_eq_true] at h3 ⊢
      exact ⟨⟨isP_old h3.1.1, isP_old h3.1.2⟩, h3.2⟩
    · have h3 : isP (N ++ [capN]) ⟨(i : Int), -1⟩ = true := isP_old (by rw [isP_at hi]; unfold portB; rw [if_pos rfl]; exact ho)
      have h4 : isP (N ++ [capN]) ⟨(N.length : Int), 0⟩ = true := by
        rw [isP_at (by simp), nth_new]
        rfl
      simp [edgeB, h3, h4]
  · rw [List.all_append, Bool.and_eq_true]
    refine ⟨List.all_eq_true.2 fun e h2 => ?_, ?_⟩
    · have h3 := List.all_eq_true.1 h.deps e h2
      unfold depE at h3 ⊢
      rw [(hold e h2).1, (hold e h2).2]; exact h3
    · have h3 : depE (N ++ [capN]) ⟨i, N.length, 0⟩ = true := by
        refine decide_eq_true ?_
        show (nth (N ++ [capN]) i).d = inDP (nth (N ++ [capN]) N.length)
        rw [nth_old hi, nth_new, hd]
        rfl
      simp [h3]
  · rw [locs_cap, List.all_append, Bool.and_eq_true]
    refine ⟨List.all_eq_true.2 fun l hl => ?_, ?_⟩
    · have h3 := List.all_eq_true.1 h.ports l hl
      unfold portOk at h3 ⊢
      rw [hprev l hl]; exact h3
    · have h3 : prevP E ⟨(N.length : Int), 0⟩ = [] := by
        unfold prevP
        rw [List.filter_eq_nil_iff.2]
        · rfl
        · intro e he2
          have := hin e he2
          have : ¬ (e.t = (N.length : Int)) := by omega
          simp [this]
      have h4 : portOk (E ++ [⟨i, N.length, 0⟩]) ⟨(N.length : Int), 0⟩ = true := by
        unfold portOk
        rw [prev_app, h3]
        have := prev_cons_self ⟨i, N.length, 0⟩ []
        simp only at this
        rw [this]
        simp [prevP]
      simp [h4]
  · rw [locs_cap, List.all_append, Bool.and_eq_true]
    refine ⟨List.all_eq_true.2 fun l hl => ?_, ?_⟩
    · have h3 := List.all_eq_true.1 h.routes l hl
      have h1 := (mem_locs N l).1 hl
      simp only [isP, Bool.and_eq_true, decide_eq_true_eq] at h1
      unfold routeOk at h3 ⊢
      rw [hprev l hl, nth_old (by omega)]
      rw [Bool.or_eq_true] at h3 ⊢
      refine h3.imp id fun h4 => List.all_eq_true.2 fun j hj => ?_
      have h5 := List.all_eq_true.1 h4 j hj
      obtain ⟨e, he2, hej⟩ := List.mem_map.1 hj
      have h6 := hin e (List.mem_filter.1 he2).1
      rw [nth_old (by omega)]
      exact h5
    · have h3 : routeOk (N ++ [capN]) (E ++ [⟨i, N.length, 0⟩]) ⟨(N.length : Int), 0⟩ = true := by
        simp [routeOk, nth_new, capN]
      simp [h3]
  · intro hc
    obtain ⟨v, hv, hb⟩ := List.any_eq_true.1 hc
    have hvn := List.mem_range.1 hv
    simp only [cycB, Bool.and_eq_true, decide_eq_true_eq] at hb
    have hin2 : InN (N ++ [capN]) (E ++ [⟨i, N.length, 0⟩]) := by
      intro e h2
      rcases List.mem_append.1 h2 with h2 | h2
      · have := hin e h2
        simp
        omega
      · rw [List.mem_singleton.1 h2]
        simp
        omega
    have ht := (roundB_iff hin2 hvn).1 hb.2
    by_cases hvo : v < N.length
    · have := ht.old hin rfl (by simp; omega) hvo
      rw [nth_old hvo] at this hb
      exact h.acc.round v hvo hb.1 this
    · have hvl : v = N.length := by simp at hvn; omega
      obtain ⟨e, he2, hef⟩ := ht.from'
      rcases List.mem_append.1 he2 with he2 | he2
      · have := hin e he2
        omega
      · rw [List.mem_singleton.1 he2] at hef
        simp at hef
        omega

/-- The graphs of ValidLoops: n plain nodes, the last one a Feedback or not. -/
def loopN (n : Nat) (feed : Bool) : List Nd :=
  [⟨1, 0, 0, 0⟩, ⟨8, 0, 0, 1⟩, ⟨4, 0, 0, 1⟩] ++ (List.range n).map fun i => if i + 1 = n ∧ feed = true then ⟨10, 2, 0, 1⟩ else ⟨5, 0, 0, 1⟩
def loopE (n : Nat) : List Ed :=
  [⟨0, 1, 0⟩, ⟨1, 2, 0⟩] ++ ((List.range n).map fun (i : Nat) => (⟨(i : Int) + 2, (i : Int) + 3, 0⟩ : Ed)) ++ [⟨(n : Int) + 2, 2, 1⟩]
theorem loop_err : ∀ n : Fin 4, ∀ feed : Bool, errG (loopN (n + 1) feed) (loopE (n + 1)) = if feed = true then 0 else 14 := by decide +kernel
theorem plain_err : errG [⟨1, 0, 0, 0⟩, ⟨11, 0, 0, 0⟩] [⟨0, 1, 0⟩] = 0 ∧ errG [⟨1, 0, 0, 0⟩, ⟨11, 0, 0, 0⟩] [] = 13 := by decide +kernel

end Go.Proofs.Ytdgmfjaldicmgaa
