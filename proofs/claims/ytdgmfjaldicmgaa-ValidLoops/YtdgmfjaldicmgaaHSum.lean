/-
  Summaries as plain data, for a program without times: what nodes do; what summary's own small functions, within and depthMay, and the document's own depth, do to the world.
-/
import Derived.Test.YtdgmfjaldicmgaaBase
import Derived.Test.YtdgmfjaldicmgaaInv
namespace Go.Proofs.Ytdgmfjaldicmgaa
open Go.RowKit
set_option linter.unusedVariables false

theorem Grow.alloc' (w : World) (o : Obj) : Grow w (w.alloc o) := (Below.refl _ _).alloc (Nat.le_refl _) _
/-- A summary: the depths that it leads from and to, how many counters it keeps, the epochs and the counters that it adds. -/
structure Sm where
  f : Int
  t : Int
  k : Int
  ep : Int
  x : Int
  y : Int
  z : Int
def eqS (s r : Sm) : Bool := s.f == r.f && s.t == r.t && s.k == r.k && s.ep == r.ep && s.x == r.x && s.y == r.y && s.z == r.z
theorem eqS_self (s : Sm) : eqS s s = true := by simp [eqS]
def sameS (d : Int) : Sm := if depthB d = true then ⟨d, d, d, 0, 0, 0, 0⟩ else ⟨0, 0, 0, 0, 0, 0, 0⟩
def enterS (d : Int) : Sm := if depthB d = true ∧ d ≠ 3 then ⟨d, d + 1, d, 0, 0, 0, 0⟩ else ⟨0, 0, 0, 0, 0, 0, 0⟩
def leaveS (d : Int) : Sm := if depthB d = true ∧ d ≠ 0 then ⟨d, d - 1, d - 1, 0, 0, 0, 0⟩ else ⟨0, 0, 0, 0, 0, 0, 0⟩
def feedS (d : Int) : Sm := if depthB d = true ∧ d ≠ 0 then ⟨d, d, d, 0, if d = 1 then 1 else 0, if d = 2 then 1 else 0, if d = 3 then 1 else 0⟩ else ⟨0, 0, 0, 0, 0, 0, 0⟩
def withinB (n m : Int) : Bool := decide (0 ≤ n) && decide (n ≤ m)
theorem within_iff (n m : Int) : withinB n m = true ↔ 0 ≤ n ∧ n ≤ m := by unfold withinB; rw [Bool.and_eq_true, decide_eq_true_iff, decide_eq_true_iff]

set_option maxHeartbeats 400000 in
theorem within_any (n m : Int) (w : World) :
    Calls Try.prog 106 #[.int .i64 n, .int .i64 m] w fun e w' => e = .returned (.bool (withinB n m)) ∧ w' = w := by
  unfold withinB
  by_cases h : 0 ≤ n
  all_goals
    go_enter Try.func106, Try.ntmps106
    go_wp2
    all_goals go_ret
    all_goals exact ⟨ret_bool (by first | (simp [h]; done) | (simp; omega)), rfl⟩
theorem depthMay_any (n : Int) (w : World) :
    Calls Try.prog 94 #[.int .i64 n] w fun e w' => e = .returned (.bool (withinB n 3)) ∧ w' = w := by
  go_enter Try.func94, Try.ntmps94
  go_wp2_with (go_at_call 106; refine (within_any _ _ _).mono ?_; rintro e w' ⟨rfl, rfl⟩)
  all_goals go_ret
  exact ⟨rfl, rfl⟩
theorem refDepth_any (n : Int) (w : World) :
    Calls Try.prog 32 #[.int .i64 n] w fun e w' => e = .returned (.bool (withinB n 3)) ∧ w' = w := by
  unfold withinB
  by_cases h : 0 ≤ n
  all_goals
    go_enter Try.func32, Try.ntmps32
    go_wp2
    all_goals go_ret
    all_goals exact ⟨ret_bool (by first | (simp [h]; done) | (simp; omega)), rfl⟩

end Go.Proofs.Ytdgmfjaldicmgaa
