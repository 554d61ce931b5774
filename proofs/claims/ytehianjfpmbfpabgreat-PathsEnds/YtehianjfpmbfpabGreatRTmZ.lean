/-
  What the document's own Times does to the world: of every row its chain, in a row of its own; what was there stays as it was.
-/
import Derived.Test.YtehianjfpmbfpabGreatRAtZ
import Derived.Test.YtehianjfpmbfpabGreatLess
import Derived.Test.YtehianjfpmbfpabGreatPutGZ
import Derived.Test.YtehianjfpmbfpabGreatRowAZ
import Derived.Test.YtehianjfpmbfpabGreatSmeGZ
namespace Go.Proofs.YtehianjfpmbfpabGreat
set_option maxRecDepth 100000
open Go.RowKit Go.Sort
attribute [local go_sem ↓] eqTm
set_option linter.unusedVariables false

theorem insT_eq (c : List Tm) (x : Tm) (h : x ∉ c) : insT c x = insO kinT c x := by
  have e : ∀ y ∈ c, notBehind x y = decide (kinT.ord y x < 0) := fun y hy => by
    have h0 : kinT.ord y x ≠ 0 := fun h0 => by
      have := kinT.ozero y x h0
      subst this
      exact h hy
    have h1 : notBehind x y = decide (kinT.ord y x ≤ 0) := rfl
    rw [h1]
    simp only [decide_eq_decide]
    omega
  have t : ∀ c : List Tm, (∀ y ∈ c, notBehind x y = decide (kinT.ord y x < 0)) → c.takeWhile (notBehind x) = c.takeWhile (fun y => decide (kinT.ord y x < 0)) ∧ c.dropWhile (notBehind x) = c.dropWhile (fun y => decide (kinT.ord y x < 0)) := by
    intro c
    induction c with
    | nil => intro _; exact ⟨rfl, rfl⟩
    | cons a c ih =>
      intro hc
      have ha := hc a (by simp)
      obtain ⟨i1, i2⟩ := ih (fun y hy => hc y (by simp [hy]))
      constructor
      · rw [List.takeWhile_cons, List.takeWhile_cons, ha, i1]
      · rw [List.dropWhile_cons, List.dropWhile_cons, ha, i2]
  obtain ⟨t1, t2⟩ := t c e
  unfold insT insO
  rw [t1, t2]
  simp

section
variable {α : Type} (O : Kin α)
/-- What the inner loop knows behind k places. -/
def PickTo (l : List α) (x : α) (i k : Nat) : Prop :=
  O.may x = true ∧ ∀ (j : Nat) y, j < k → l[j]? = some y → O.may y = true → ¬ ((O.le y x = true ∧ ¬ O.le x y = true) ∨ (j < i ∧ y = x))
theorem pickTo_zero (l : List α) (x : α) (i : Nat) : PickTo O l x i 0 ↔ O.may x = true := ⟨fun h => h.1, fun h => ⟨h, fun j y hj => by omega⟩⟩
theorem pickTo_all {l : List α} {x : α} {i : Nat} (hx : l[i]? = some x) : PickTo O l x i l.length ↔ Pick O l i := by
  constructor
  · rintro ⟨h1, h2⟩
    exact ⟨x, hx, h1, fun k y hk hm => h2 k y (List.getElem?_eq_some_iff.1 hk).1 hk hm⟩
  · rintro ⟨z, hz, h1, h2⟩
    rw [hx] at hz
    cases hz
    exact ⟨h1, fun j y _ hj hm => h2 j y hj hm⟩
theorem pickTo_succ {l : List α} {x y : α} {i k : Nat} (hy : l[k]? = some y) : PickTo O l x i (k + 1) ↔ PickTo O l x i k ∧ ¬ (O.may y = true ∧ ((O.le y x = true ∧ ¬ O.le x y = true) ∨ (k < i ∧ y = x))) := by
  constructor
  · rintro ⟨h1, h2⟩
    exact ⟨⟨h1, fun j z hj => h2 j z (by omega)⟩, fun ⟨a, b⟩ => h2 k y (by omega) hy a b⟩
  · rintro ⟨⟨h1, h2⟩, h3⟩
    refine ⟨h1, fun j z hj hz hm => ?_⟩
    by_cases e : j = k
    · subst e
      rw [hy] at hz
      cases hz
      exact fun h => h3 ⟨hm, h⟩
    · exact h2 j z (by omega) hz hm
end
theorem lessB_iff (x y : Tm) : lessB y x = true ↔ (kinT.le y x = true ∧ ¬ kinT.le x y = true) := by
  unfold lessB
  simp only [Bool.and_eq_true, Bool.not_eq_true', Bool.not_eq_true]
  exact Iff.rfl


end Go.Proofs.YtehianjfpmbfpabGreat
