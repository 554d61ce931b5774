/-
  What valid.Node with its two parts does to the world: for every node it returns its plain answer, and what was there stays as it was.
-/
import Derived.Test.YtehianjfpmbfpaaGreatVCon
import Derived.Test.YtehianjfpmbfpaaGreatVPl
import Derived.Test.YtehianjfpmbfpaaGreatHBlk
namespace Go.Proofs.YtehianjfpmbfpaaGreat
set_option maxRecDepth 100000
open Go.RowKit
set_option linter.unusedVariables false
set_option linter.unusedSimpArgs false

/-- May a node of this kind have this depth? -/
def depK (k d : Int) : Bool := if k = 1 ∨ k = 11 ∨ k = 7 then decide (d = 0) else if k = 8 ∨ k = 10 then decide (0 < d) else if k = 9 then decide (d < 3) else true
/-- May a node of this kind have these numbers? -/
def numK (k a b : Int) : Bool :=
  if k = 2 then mayMapB a b
  else if k = 3 then mayFilB a b
  else if k = 6 then mayRedB a && decide (b = 0)
  else if k = 7 then mayW a b
  else if k = 10 then decide (1 ≤ a) && decide (a ≤ 6) && decide (b = 0)
  else if k = 1 ∨ k = 4 ∨ k = 5 ∨ k = 8 ∨ k = 9 ∨ k = 11 then decide (a = 0) && decide (b = 0)
  else false
theorem kind_cases (k : Int) : k = 1 ∨ k = 2 ∨ k = 3 ∨ k = 4 ∨ k = 5 ∨ k = 6 ∨ k = 7 ∨ k = 8 ∨ k = 9 ∨ k = 10 ∨ k = 11 ∨ (k ≠ 1 ∧ k ≠ 2 ∧ k ≠ 3 ∧ k ≠ 4 ∧ k ≠ 5 ∧ k ≠ 6 ∧ k ≠ 7 ∧ k ≠ 8 ∧ k ≠ 9 ∧ k ≠ 10 ∧ k ≠ 11) := by omega
theorem nodeB_parts (k a b d : Int) : nodeB ⟨k, a, b, d⟩ = (depthB d && depK k d && numK k a b) := by
  rw [Bool.eq_iff_iff]
  rcases kind_cases k with rfl | rfl | rfl | rfl | rfl | rfl | rfl | rfl | rfl | rfl | rfl | ⟨h1, h2, h3, h4, h5, h6, h7, h8, h9, h10, h11⟩
  all_goals (simp [nodeB, depK, numK, *]; try grind)
end Go.Proofs.YtehianjfpmbfpaaGreat
