/-
  Summaries as plain data, for a program without times: what nodes do; what summary's own small functions, within and depthMay, and the document's own depth, do to the world.
-/
import Derived.Test.YtjebipagehhkjaaGreatBase
import Derived.Test.YtjebipagehhkjaaGreatInv
namespace Go.Proofs.YtjebipagehhkjaaGreat
open Go.RowKit
set_option linter.unusedVariables false

theorem Grow.alloc' (w : World) (o : Obj) : Grow w (w.alloc o) := (Below.refl _ _).alloc (Nat.le_refl _) _
/-- A summary: the depths that it leads from and to, how many counters it keeps, the epochs and the counters that it adds. -/
structure Sm where
  f : Int
  t : Int
  k : Int
  ep : Int
  x : Int
  y : Int
  z : Int
def eqS (s r : Sm) : Bool := s.f == r.f && s.t == r.t && s.k == r.k && s.ep == r.ep && s.x == r.x && s.y == r.y && s.z == r.z
theorem eqS_self (s : Sm) : eqS s s = true := by simp [eqS]
def sameS (d : Int) : Sm := if depthB d = true then ⟨d, d, d, 0, 0, 0, 0⟩ else ⟨0, 0, 0, 0, 0, 0, 0⟩
def enterS (d : Int) : Sm := if depthB d = true ∧ d ≠ 3 then ⟨d, d + 1, d, 0, 0, 0, 0⟩ else ⟨0, 0, 0, 0, 0, 0, 0⟩
def leaveS (d : Int) : Sm := if depthB d = true ∧ d ≠ 0 then ⟨d, d - 1, d - 1, 0, 0, 0, 0⟩ else ⟨0, 0, 0, 0, 0, 0, 0⟩
def feedS (d : Int) : Sm := if depthB d = true ∧ d ≠ 0 then ⟨d, d, d, 0, if d = 1 then 1 else 0, if d = 2 then 1 else 0, if d = 3 then 1 else 0⟩ else ⟨0, 0, 0, 0, 0, 0, 0⟩
def withinB (n m : Int) : Bool := decide (0 ≤ n) && decide (n ≤ m)
theorem within_iff (n m : Int) : withinB n m = true ↔ 0 ≤ n ∧ n ≤ m := by unfold withinB; rw [Bool.and_eq_true, decide_eq_true_iff, decide_eq_true_iff]


end Go.Proofs.YtjebipagehhkjaaGreat
