/-
  What follows of chains: the chain of a chain, of a chain and one more, of two chains; no program is named in it.
-/
import Derived.Test.YtehianjfpmbfpaaGreatGrd
namespace Go.Proofs.YtehianjfpmbfpaaGreat
set_option linter.unusedVariables false

section
variable {α : Type} (O : Kin α)
theorem chainO_nil : chainO O [] = [] := (chainO_eq O (chain_nil O)).symm
theorem chainO_again (l : List α) : chainO O (chainO O l) = chainO O l := (chainO_eq O (chain_again O (chainO_is O l))).symm
theorem chainO_step (l : List α) (t : α) : chainO O (chainO O l ++ [t]) = chainO O (l ++ [t]) :=
  (chainO_eq O ((chain_step O (chainO_is O l)).1 (chainO_is O (l ++ [t])))).symm
theorem chainO_stays (l : List α) (t : α) (ht : O.may t = false ∨ coverB O (chainO O l) t = true) : chainO O (chainO O l ++ [t]) = chainO O l :=
  (chainO_eq O (chain_stays O (chainO_is O l) ht)).symm
theorem chainO_union (a b : List α) : chainO O (chainO O a ++ chainO O b) = chainO O (a ++ b) :=
  (chainO_eq O ((chain_union O (chainO_is O a) (chainO_is O b)).1 (chainO_is O (a ++ b)))).symm
theorem chainO_covers (l : List α) (t : α) : coverB O (chainO O l) t = coverB O (l.filter O.may) t := chain_covers O (chainO_is O l) t
theorem chainO_rises (l : List α) (i k : Nat) (hi : i < (chainO O l).length) (hk : k < (chainO O l).length) (h : i < k) : O.ord (chainO O l)[i] (chainO O l)[k] < 0 :=
  List.pairwise_iff_getElem.1 (chainO_is O l).1 i k hi hk h
theorem chainO_apart (l : List α) (i k : Nat) (hi : i < (chainO O l).length) (hk : k < (chainO O l).length) (h : i ≠ k) : O.le (chainO O l)[i] (chainO O l)[k] = false := by
  cases hl : O.le (chainO O l)[i] (chainO O l)[k]
  · rfl
  · have e := chain_apart O (chainO_is O l) (List.getElem_mem hi) (List.getElem_mem hk) hl
    have z := O.oself (chainO O l)[i]
    rcases Nat.lt_or_gt_of_ne h with h | h
    · have := chainO_rises O l i k hi hk h
      rw [← e] at this
      omega
    · have := chainO_rises O l k i hk hi h
      rw [← e] at this
      omega
theorem chainO_has (l : List α) (i : Nat) (hi : i < l.length) (hm : O.may l[i] = true) : coverB O (chainO O l) l[i] = true := by
  rw [chainO_covers, cover_iff]
  exact ⟨l[i], List.mem_filter.2 ⟨List.getElem_mem hi, hm⟩, O.refl _ hm⟩
theorem chainO_take (l : List α) (k : Nat) (h : k < l.length) : chainO O (chainO O (l.take k) ++ [l[k]]) = chainO O (l.take (k + 1)) := by
  rw [chainO_step, List.take_succ_eq_append_getElem h]
end

theorem orderI_neg (s r : Tm) (h : orderI s r < 0) : orderI s r = -1 := by
  rcases orderI_cases s r with ⟨h, _⟩ | ⟨h, _⟩ | ⟨h, _⟩
  · exact h
  · omega
  · omega
theorem orderS_neg (s r : Sm) (h : orderS s r < 0) : orderS s r = -1 := by
  rcases orderS_cases s r with ⟨h, _⟩ | ⟨h, _⟩ | ⟨h, _⟩
  · exact h
  · omega
  · omega

end Go.Proofs.YtehianjfpmbfpaaGreat
