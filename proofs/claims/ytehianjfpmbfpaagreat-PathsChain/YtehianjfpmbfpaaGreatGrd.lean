/-
  The chain as the program reckons it: those that may be, put in order, and of these each that is not covered by those ahead; no program is named in it.
-/
import Derived.Test.YtehianjfpmbfpaaGreatChi
namespace Go.Proofs.YtehianjfpmbfpaaGreat
set_option linter.unusedVariables false

variable {α : Type} (O : Kin α)

/-- One more is held against those that were found lowest. -/
def pushO (c : List α) (x : α) : List α := if coverB O c x = true then c else c ++ [x]
def greedyO (s : List α) : List α := s.foldl (pushO O) []
theorem greedy_step (s : List α) (k : Nat) (h : k < s.length) : greedyO O (s.take (k + 1)) = pushO O (greedyO O (s.take k)) s[k] := by
  unfold greedyO
  rw [List.take_succ_eq_append_getElem h, List.foldl_append]
  rfl
theorem push_len (c : List α) (x : α) : (pushO O c x).length ≤ c.length + 1 := by
  unfold pushO; split <;> simp
theorem greedy_len_aux : ∀ (s : List α) (c : List α), (s.foldl (pushO O) c).length ≤ c.length + s.length
  | [], c => by simp
  | x :: s, c => by
    have h1 := greedy_len_aux s (pushO O c x)
    have h2 := push_len O c x
    simp only [List.foldl_cons, List.length_cons]
    omega
theorem greedy_len (s : List α) : (greedyO O s).length ≤ s.length := by
  have := greedy_len_aux O s []
  simpa [greedyO] using this

theorem push_chain {p c : List α} {x : α} (h : IsChain O p c) (hx : O.may x = true) (ho : ∀ y ∈ p, O.ord y x ≤ 0) : IsChain O (p ++ [x]) (pushO O c x) := by
  unfold pushO
  rw [chain_step O h]
  by_cases hc : coverB O c x = true
  · rw [if_pos hc]
    exact chain_stays O h (.inr hc)
  · rw [if_neg hc]
    have hlt : ∀ y ∈ c, O.ord y x < 0 := fun y hy => by
      have h1 := ho y (chain_mem O h hy).1
      by_cases h0 : O.ord y x = 0
      · have := O.ozero y x h0
        subst this
        exact absurd ((cover_iff O c y).2 ⟨y, hy, O.refl y hx⟩) hc
      · omega
    have hr : Rises O (c ++ [x]) := by
      unfold Rises
      rw [List.pairwise_append]
      exact ⟨h.1, by simp, fun a ha b hb => by rw [List.mem_singleton.1 hb]; exact hlt a ha⟩
    refine ⟨hr, fun z => ⟨fun hz => ?_, fun hz => hz.1⟩⟩
    have hmz : O.may z = true := by
      rcases List.mem_append.1 hz with k | k
      · exact (chain_mem O h k).2
      · rw [List.mem_singleton.1 k]; exact hx
    refine ⟨hz, hmz, fun y hy hym hyz => ?_⟩
    rcases List.mem_append.1 hz with k | k <;> rcases List.mem_append.1 hy with j | j
    · exact chain_apart O h j k hyz
    · rw [List.mem_singleton.1 j] at hyz hym
      have a := O.ole x z hx hmz hyz
      have b := hlt z k
      have := O.oanti x z
      omega
    · rw [List.mem_singleton.1 k] at hyz
      exact absurd ((cover_iff O c x).2 ⟨y, j, hyz⟩) hc
    · rw [List.mem_singleton.1 k, List.mem_singleton.1 j]
theorem greedy_chain_aux {s : List α} (hs : s.Pairwise fun a b => O.ord a b ≤ 0) (hm : ∀ x ∈ s, O.may x = true) : ∀ k, k ≤ s.length → IsChain O (s.take k) (greedyO O (s.take k))
  | 0, _ => by simpa [greedyO] using chain_nil O
  | k + 1, hk => by
    have ih := greedy_chain_aux hs hm k (by omega)
    rw [greedy_step O s k (by omega), List.take_succ_eq_append_getElem (by omega)]
    refine push_chain O ih (hm _ (List.getElem_mem _)) (fun y hy => ?_)
    obtain ⟨j, hj, rfl⟩ := List.getElem_of_mem hy
    rw [List.getElem_take]
    have : j < k := by
      have := hj
      rw [List.length_take] at this
      omega
    exact List.pairwise_iff_getElem.1 hs j k (by omega) (by omega) this
/-- What the program reckons is the chain. -/
theorem greedy_chain {l s : List α} (hp : s.Perm (l.filter O.may)) (hs : s.Pairwise fun a b => O.ord a b ≤ 0) : IsChain O l (greedyO O s) := by
  rw [chain_filter O, chain_set O (fun x => (hp.mem_iff (a := x)).symm)]
  have := greedy_chain_aux O hs (fun x hx => (List.mem_filter.1 (hp.mem_iff.1 hx)).2) s.length (Nat.le_refl _)
  rwa [List.take_length] at this
/-- The chain of a row. -/
def chainO (l : List α) : List α := greedyO O ((l.filter O.may).mergeSort fun a b => decide (O.ord a b ≤ 0))
theorem chainO_is (l : List α) : IsChain O l (chainO O l) := by
  refine greedy_chain O (List.mergeSort_perm _ _) ?_
  have := List.pairwise_mergeSort (le := fun a b => decide (O.ord a b ≤ 0)) (fun a b c h k => ?_) (fun a b => ?_) (l.filter O.may)
  · exact this.imp fun h => by simpa using h
  · simp only [decide_eq_true_eq] at h k ⊢
    rcases O.otot a b with x | x | x
    · rcases O.otot b c with y | y | y
      · have := O.otrans _ _ _ x y; omega
      · rw [← y]; exact h
      · have := O.oanti b c; omega
    · rw [x]; exact k
    · have := O.oanti a b; omega
  · have := O.oanti a b
    simp only [Bool.or_eq_true, decide_eq_true_eq]
    omega
theorem chainO_eq {l c : List α} (h : IsChain O l c) : c = chainO O l := chain_unique O h (chainO_is O l)
theorem chainO_len (l : List α) : (chainO O l).length ≤ l.length := by
  have h1 := greedy_len O ((l.filter O.may).mergeSort fun a b => decide (O.ord a b ≤ 0))
  have h2 := (List.mergeSort_perm (l.filter O.may) fun a b => decide (O.ord a b ≤ 0)).length_eq
  have h3 := List.length_filter_le O.may l
  unfold chainO
  omega

end Go.Proofs.YtehianjfpmbfpaaGreat
