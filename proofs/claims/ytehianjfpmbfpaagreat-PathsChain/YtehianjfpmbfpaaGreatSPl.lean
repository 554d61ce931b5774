/-
  Summaries as plain data, for a program without times: whether one may be, what two do one behind the other, and whether one is at most another. No program is named here.
-/
import Derived.Test.YtehianjfpmbfpaaGreatHSum
import Derived.Test.YtehianjfpmbfpaaGreatSFacts
namespace Go.Proofs.YtehianjfpmbfpaaGreat
set_option linter.unusedVariables false
set_option linter.unusedSimpArgs false

/-- What is at most another adds no more, wherever both keep. -/
theorem leS_add {s r : Sm} (h : leS s r = true) : (s.t ≤ 0 ∨ s.x ≤ r.x) ∧ (s.t ≤ 1 ∨ s.y ≤ r.y) ∧ (s.t ≤ 2 ∨ s.z ≤ r.z) := by
  simp only [leS, Bool.and_eq_true, Bool.or_eq_true, decide_eq_true_eq] at h
  obtain ⟨⟨⟨_, h1⟩, h2⟩, h3⟩ := h
  exact ⟨h1.imp id (·.2), h2.imp id (·.2), h3.imp id (·.2)⟩

end Go.Proofs.YtehianjfpmbfpaaGreat
