/-
  Ways along edges, found by going on from what was found last (a stack), as plain data: what stands at each step, and what is found at the end. No program is named here.
-/
import Derived.Test.YtehianjfpmbfpaaGreatVTr
namespace Go.Proofs.YtehianjfpmbfpaaGreat
open Go.RowKit
set_option linter.unusedVariables false
set_option linter.unusedSimpArgs false

theorem next_mem {E : List Ed} {i : Int} {l : Lc} : l ∈ nextP E i ↔ ∃ e ∈ E, e.f = i ∧ l = ⟨e.t, e.p⟩ := by
  unfold nextP
  simp only [List.mem_map, List.mem_filter, decide_eq_true_eq]
  constructor
  · rintro ⟨e, ⟨h1, h2⟩, h3⟩
    exact ⟨e, h1, h2, h3.symm⟩
  · rintro ⟨e, h1, h2, h3⟩
    exact ⟨e, ⟨h1, h2⟩, h3.symm⟩
/-- All that one edge leads to from u is found. -/
def Lit (N : List Nd) (E : List Ed) (m : Int) (S : List Bool) (u : Nat) : Prop := ∀ e ∈ E, e.f = u → okT N m e.t.toNat = true → S.getD e.t.toNat false = true
structure Dfs (N : List Nd) (E : List Ed) (m : Int) (v : Nat) (S : List Bool) (W : List Nat) : Prop where
  len : S.length = N.length
  sound : Sound N E m v S
  lt : ∀ x ∈ W, x < N.length
  known : ∀ x ∈ W, x = v ∨ S.getD x false = true
  done : ∀ u, (u = v ∨ S.getD u false = true) → u ∈ W ∨ Lit N E m S u
theorem Dfs.start {N : List Nd} {E : List Ed} {m : Int} {v : Nat} (hv : v < N.length) : Dfs N E m v (List.replicate N.length false) [v] := by
  have hz : ∀ i, (List.replicate N.length false).getD i false = true → False := by
    intro i hi
    simp [List.getD_eq_getElem?_getD, List.getElem?_replicate] at hi
    split at hi <;> simp at hi
  refine ⟨by simp, fun i hi => (hz i hi).elim, by simpa using hv, by simp, fun u hu => .inl ?_⟩
  rcases hu with rfl | hu
  · simp
  · exact (hz u hu).elim
theorem getD_set_mono {S : List Bool} {i j : Nat} (h : S.getD j false = true) : (S.set i true).getD j false = true := by
  rw [getD_set]
  split
  · rfl
  · exact h
theorem Dfs.push {N : List Nd} {E : List Ed} {m : Int} {v a : Nat} {S : List Bool} {W : List Nat} (hin : InN N E) (h : Dfs N E m v S W) (ha : a ∈ W) {e : Ed} {t : Nat} (he : e ∈ E) (hf : e.f = a) (ht : e.t = t) (ok : okT N m t = true) :
    Dfs N E m v (S.set t true) (W ++ [t]) := by
  have h1 := hin e he
  have htl : t < N.length := by omega
  have hTr : Tr N E m v t := by
    rcases h.known a ha with rfl | hs
    · exact .one e t he hf ht ok
    · exact .more a e t (h.sound a hs) he hf ht ok
  have hst : (S.set t true).getD t false = true := by rw [getD_set, if_pos ⟨rfl, by rw [h.len]; exact htl⟩]
  refine ⟨by rw [List.length_set]; exact h.len, fun i hi => ?_, fun x hx => ?_, fun x hx => ?_, fun u hu => ?_⟩
  · rw [getD_set] at hi
    by_cases hc : t = i ∧ i < S.length
    · rw [← hc.1]; exact hTr
    · rw [if_neg hc] at hi; exact h.sound i hi
  · rcases List.mem_append.1 hx with hx | hx
    · exact h.lt x hx
    · rw [List.mem_singleton.1 hx]; exact htl
  · rcases List.mem_append.1 hx with hx | hx
    · exact (h.known x hx).imp id getD_set_mono
    · rw [List.mem_singleton.1 hx]; exact .inr hst
  · by_cases hut : u = t
    · subst hut
      exact .inl (by simp)
    · have hu' : u = v ∨ S.getD u false = true := by
        rcases hu with hu | hu
        · exact .inl hu
        · rw [getD_set, if_neg (fun hc => hut hc.1.symm)] at hu
          exact .inr hu
      rcases h.done u hu' with hd | hd
      · exact .inl (List.mem_append_left _ hd)
      · exact .inr fun x hx hxf hok => getD_set_mono (hd x hx hxf hok)
theorem Dfs.pop {N : List Nd} {E : List Ed} {m : Int} {v a : Nat} {S : List Bool} {W : List Nat} (h : Dfs N E m v S (W ++ [a])) (hl : Lit N E m S a) : Dfs N E m v S W := by
  refine ⟨h.len, h.sound, fun x hx => h.lt x (List.mem_append_left _ hx), fun x hx => h.known x (List.mem_append_left _ hx), fun u hu => ?_⟩
  rcases h.done u hu with hd | hd
  · rcases List.mem_append.1 hd with hd | hd
    · exact .inl hd
    · rw [List.mem_singleton.1 hd]; exact .inr hl
  · exact .inr hd
theorem Dfs.end {N : List Nd} {E : List Ed} {m : Int} {v : Nat} {S : List Bool} (hin : InN N E) (h : Dfs N E m v S []) : S.getD v false = true ↔ Tr N E m v v := by
  refine ⟨h.sound v, fun ht => ?_⟩
  have key : ∀ t, Tr N E m v t → S.getD t false = true := by
    intro t ht
    induction ht with
    | one e b he hf hb ok =>
      have hl := (h.done v (.inl rfl)).resolve_left (by simp)
      have h1 := hl e he hf (by rw [show e.t.toNat = b by omega]; exact ok)
      rwa [show e.t.toNat = b by omega] at h1
    | more b e c _ he hf hb ok ih =>
      have hl := (h.done b (.inr ih)).resolve_left (by simp)
      have h1 := hl e he hf (by rw [show e.t.toNat = c by omega]; exact ok)
      rwa [show e.t.toNat = c by omega] at h1
  exact key v ht
/-- What is still to be done. -/
def todo (n : Nat) (S : List Bool) (W : Nat) : Nat := 2 * (n - cnt S) + W
theorem cnt_le (S : List Bool) : cnt S ≤ S.length := List.count_le_length
theorem todo_push {n t W : Nat} {S : List Bool} (hl : S.length = n) (ht : t < n) (hs : S.getD t false = false) : todo n (S.set t true) (W + 1) < todo n S W := by
  have h1 := cnt_set S t (by omega) hs
  have h2 := cnt_le (S.set t true)
  rw [List.length_set] at h2
  unfold todo
  omega
theorem todo_pop {n W : Nat} {S : List Bool} : todo n S W < todo n S (W + 1) := by unfold todo; omega

end Go.Proofs.YtehianjfpmbfpaaGreat
