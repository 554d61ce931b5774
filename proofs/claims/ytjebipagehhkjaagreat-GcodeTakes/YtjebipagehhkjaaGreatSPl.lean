/-
  Summaries as plain data, for a program without times: whether one may be, what two do one behind the other, and whether one is at most another. No program is named here.
-/
import Derived.Test.YtjebipagehhkjaaGreatHSum
namespace Go.Proofs.YtjebipagehhkjaaGreat
set_option linter.unusedVariables false
set_option linter.unusedSimpArgs false

def mayS (s : Sm) : Bool :=
  depthB s.f && depthB s.t && decide (0 ≤ s.k) && decide (s.k ≤ s.f) && decide (s.k ≤ s.t) && decide (0 ≤ s.ep) && decide (s.ep ≤ 1048576)
    && decide (0 ≤ s.x) && decide (0 ≤ s.y) && decide (0 ≤ s.z)
    && decide (s.x ≤ if 0 < s.t then 1000 else 0) && decide (s.y ≤ if 1 < s.t then 1000 else 0) && decide (s.z ≤ if 2 < s.t then 1000 else 0)
def compI (i to keep add old : Int) : Int := if i < to then if i < keep then old + add else add else 0
def rawS (s r : Sm) : Sm := ⟨s.f, r.t, minI s.k r.k, s.ep + r.ep, compI 0 r.t r.k r.x s.x, compI 1 r.t r.k r.y s.y, compI 2 r.t r.k r.z s.z⟩
def fitS (s r : Sm) : Bool := mayS s && mayS r && decide (s.t = r.f)
def thenE (s r : Sm) : Int := if fitS s r = true then if mayS (rawS s r) = true then 0 else 4 else 1
def thenS (s r : Sm) : Sm := if thenE s r = 0 then rawS s r else ⟨0, 0, 0, 0, 0, 0, 0⟩
def leS (s r : Sm) : Bool := mayS s && mayS r && decide (s.f = r.f) && decide (s.t = r.t) && decide (s.ep ≤ r.ep)
    && (decide (s.t ≤ 0) || !(decide (0 < s.k) && decide (r.k ≤ 0)) && decide (s.x ≤ r.x))
    && (decide (s.t ≤ 1) || !(decide (1 < s.k) && decide (r.k ≤ 1)) && decide (s.y ≤ r.y))
    && (decide (s.t ≤ 2) || !(decide (2 < s.k) && decide (r.k ≤ 2)) && decide (s.z ≤ r.z))
theorem cap_iff (x t i : Int) : (x ≤ if i < t then 1000 else 0) ↔ (i < t → x ≤ 1000) ∧ (t ≤ i → x ≤ 0) := by
  split <;> omega
theorem mayS_iff (s : Sm) : mayS s = true ↔ (0 ≤ s.f ∧ s.f ≤ 3 ∧ 0 ≤ s.t ∧ s.t ≤ 3) ∧ (0 ≤ s.k ∧ s.k ≤ s.f ∧ s.k ≤ s.t) ∧ (0 ≤ s.ep ∧ s.ep ≤ 1048576)
    ∧ (0 ≤ s.x ∧ (0 < s.t → s.x ≤ 1000) ∧ (s.t ≤ 0 → s.x ≤ 0)) ∧ (0 ≤ s.y ∧ (1 < s.t → s.y ≤ 1000) ∧ (s.t ≤ 1 → s.y ≤ 0)) ∧ (0 ≤ s.z ∧ (2 < s.t → s.z ≤ 1000) ∧ (s.t ≤ 2 → s.z ≤ 0)) := by
  simp only [mayS, depthB, Bool.and_eq_true, decide_eq_true_eq, cap_iff]
  constructor
  · rintro ⟨⟨⟨⟨⟨⟨⟨⟨⟨⟨⟨⟨⟨h1, h2⟩, h3, h4⟩, h5⟩, h6⟩, h7⟩, h8⟩, h9⟩, h10⟩, h11⟩, h12⟩, h13⟩, h14⟩, h15⟩
    exact ⟨⟨h1, h2, h3, h4⟩, ⟨h5, h6, h7⟩, ⟨h8, h9⟩, ⟨h10, h13⟩, ⟨h11, h14⟩, ⟨h12, h15⟩⟩
  · rintro ⟨⟨h1, h2, h3, h4⟩, ⟨h5, h6, h7⟩, ⟨h8, h9⟩, ⟨h10, h13⟩, ⟨h11, h14⟩, ⟨h12, h15⟩⟩
    exact ⟨⟨⟨⟨⟨⟨⟨⟨⟨⟨⟨⟨⟨h1, h2⟩, h3, h4⟩, h5⟩, h6⟩, h7⟩, h8⟩, h9⟩, h10⟩, h11⟩, h12⟩, h13⟩, h14⟩, h15⟩
theorem thenE_mk {s r : Sm} (h1 : mayS s = true) (h2 : mayS r = true) (h3 : s.t = r.f) (h4 : mayS (rawS s r) = true) : thenE s r = 0 ∧ thenS s r = rawS s r := by
  have e : thenE s r = 0 := by
    unfold thenE
    rw [if_pos (by simp [fitS, h1, h2, h3]), if_pos h4]
  exact ⟨e, by unfold thenS; rw [if_pos e]⟩
/-- What is at most another adds no more, wherever both keep. -/
theorem leS_add {s r : Sm} (h : leS s r = true) : (s.t ≤ 0 ∨ s.x ≤ r.x) ∧ (s.t ≤ 1 ∨ s.y ≤ r.y) ∧ (s.t ≤ 2 ∨ s.z ≤ r.z) := by
  simp only [leS, Bool.and_eq_true, Bool.or_eq_true, decide_eq_true_eq] at h
  obtain ⟨⟨⟨_, h1⟩, h2⟩, h3⟩ := h
  exact ⟨h1.imp id (·.2), h2.imp id (·.2), h3.imp id (·.2)⟩

end Go.Proofs.YtjebipagehhkjaaGreat
