/-
  What bytes' CutPrefix, HasPrefix and Equal do to the world, and what gcode's Take does: of bytes that are a graph's it returns the graph, in rows of the call's own, else the error; what was there stays as it was.
-/
import Derived.Test.YtjebipagehhkjaaGreatKRh
namespace Go.Proofs.YtjebipagehhkjaaGreat
set_option maxRecDepth 100000
open Go.ChangeShapes Go.WideShapes Go.ChangeAt Go.RowKit Go.Deep Go.Sort
set_option linter.unusedVariables false
set_option linter.unusedSimpArgs false

theorem run_headU (a : Option Addr) (n cap k : Nat) (w : World) (h1 : (k : Int) ≤ (cap : Int)) :
    (Instr.slice 22 (.slice a n cap) none (some (.int .i64 (k : Int))) none).run Tryz.prog w = .ok (.slice a k cap) w := by
  have h0 : (0 : Int) ≤ (k : Int) := by omega
  have z := Tryz.sizeOf5
  cases a with
  | none => simp [go_sem, h1]
  | some a =>
    obtain ⟨b, o, s⟩ := a
    by_cases hc : cap = 0
    · have hk : k = 0 := by omega
      subst hk
      simp [go_sem, hc]
    · simp [go_sem, h1, hc]
theorem equal_at (s : Option Addr) (n c : Nat) (d : List UInt8) (t : Option Addr) (m q : Nat) (e : List UInt8) {z : Bool} (hz : decide (d = e) = z) (w : World) (hI : IsBy w s n c d) (hJ : IsBy w t m q e) :
    Calls Tryz.prog 39 #[.slice s n c, .slice t m q] w fun r w' => r = .returned (.bool z) ∧ w' = w := by
  have k1 := run_str_by byT Tryz.underlying9 w s n c d hI
  have k2 := run_str_by byT Tryz.underlying9 w t m q e hJ
  have HZ := hide hz
  clear hI hJ hz
  go_enter Tryz.func39, Tryz.ntmps39
  go_wp2_with fail
  go_ret
  exact ⟨ret_bool (by rw [← HZ.out]; simp), rfl⟩
/-- Do bytes begin with the two letters? -/
def begB (d : List UInt8) : Bool := decide (2 ≤ d.length) && decide (d.take 2 = [77, 71])
theorem hasP_0 (s : Option Addr) (n c : Nat) (d : List UInt8) (t : Option Addr) (q : Nat) (w : World) (hn : ¬ 2 ≤ n) :
    Calls Tryz.prog 22 #[.slice s n c, .slice t 2 q] w fun r w' => r = .returned (.bool false) ∧ w' = w := by
  have i1 : ¬ (2 : Int) ≤ (n : Int) := by omega
  clear hn
  go_enter Tryz.func22, Tryz.ntmps22
  go_wp2_with fail
  go_ret
  exact ⟨rfl, rfl⟩
theorem hasP_1 (s : Option Addr) (n c : Nat) (d : List UInt8) (t : Option Addr) (q : Nat) {z : Bool} (hz : decide (d.take 2 = [77, 71]) = z) (w : World) (hn : 2 ≤ n) (hI : IsBy w s n c d) (hJ : IsBy w t 2 q [77, 71]) :
    Calls Tryz.prog 22 #[.slice s n c, .slice t 2 q] w fun r w' => r = .returned (.bool z) ∧ w' = w := by
  have i1 : (2 : Int) ≤ (n : Int) := by omega
  have kh : ∀ w, (Instr.slice 22 (.slice s n c) none (some (.int .i64 2)) none).run Tryz.prog w = .ok (.slice s 2 c) w := fun w => run_headU s n c 2 w (by have := hI.2.1; omega)
  have C := hide (equal_at s 2 c (d.take 2) t 2 q [77, 71] hz w (hI.take' 2 hn) hJ)
  clear hn hI hJ hz
  go_enter Tryz.func22, Tryz.ntmps22
  go_wp2_with fail
  refine C.out.mono ?_
  rintro _ w1 ⟨rfl, hw⟩
  obtain rfl : w = w1 := hw.symm
  clear kh
  cases z
  all_goals
    go_wp2_with fail
    go_ret
    exact ⟨rfl, rfl⟩
theorem hasP_any (s : Option Addr) (n c : Nat) (d : List UInt8) (t : Option Addr) (q : Nat) {z : Bool} (hz : begB d = z) (w : World) (hI : IsBy w s n c d) (hJ : IsBy w t 2 q [77, 71]) :
    Calls Tryz.prog 22 #[.slice s n c, .slice t 2 q] w fun r w' => r = .returned (.bool z) ∧ w' = w := by
  unfold begB at hz
  rw [hI.1] at hz
  by_cases h : 2 ≤ n
  · rw [decide_eq_true h, Bool.true_and] at hz
    exact hasP_1 s n c d t q hz w h hI hJ
  · rw [decide_eq_false h, Bool.false_and] at hz
    subst hz
    exact hasP_0 s n c d t q w h
theorem cut_any (s : Option Addr) (n c : Nat) (d : List UInt8) (t : Option Addr) (q : Nat) {z : Bool} (hz : begB d = z) (w : World) (hI : IsBy w s n c d) (hJ : IsBy w t 2 q [77, 71]) :
    Calls Tryz.prog 13 #[.slice s n c, .slice t 2 q] w fun r w' => w' = w ∧ ∃ s' n' c' d', r = .returned (.tuple #[.slice s' n' c', .bool z]) ∧ IsBy w s' n' c' d' ∧ (z = true → d' = d.drop 2) := by
  have C := hide (hasP_any s n c d t q hz w hI hJ)
  have HI := hide hI
  cases z
  · clear hI hJ hz
    go_enter Tryz.func13, Tryz.ntmps13
    go_wp2_with fail
    refine C.out.mono ?_
    rintro _ w1 ⟨rfl, hw⟩
    obtain rfl : w = w1 := hw.symm
    go_wp2_with fail
    exact bodyPost_ret (v := .tuple #[.slice s n c, .bool false]) (by simp [results, Tryz.results13, go_sem]) rfl ⟨rfl, s, n, c, d, rfl, HI.out, fun h => by cases h⟩
  · have hn : 2 ≤ n := by
      rw [← hI.1]
      unfold begB at hz
      simp only [Bool.and_eq_true, decide_eq_true_eq] at hz
      exact hz.1
    have HN := hide hn
    have kt : ∀ w, (Instr.slice 22 (.slice s n c) (some (.int .i64 2)) none none).run Tryz.prog w = .ok (.slice (fromU s c 2) (n - 2) (c - 2)) w := fun w => run_tailU s n c 2 w (by omega)
    clear hI hJ hz hn
    go_enter Tryz.func13, Tryz.ntmps13
    go_wp2_with fail
    refine C.out.mono ?_
    rintro _ w1 ⟨rfl, hw⟩
    obtain rfl : w = w1 := hw.symm
    go_wp2_with fail
    exact bodyPost_ret (v := .tuple #[.slice (fromU s c 2) (n - 2) (c - 2), .bool true]) (by simp [results, Tryz.results13, go_sem]) rfl ⟨rfl, _, _, _, d.drop 2, rfl, HI.out.from' 2 HN.out, fun _ => rfl⟩
end Go.Proofs.YtjebipagehhkjaaGreat
