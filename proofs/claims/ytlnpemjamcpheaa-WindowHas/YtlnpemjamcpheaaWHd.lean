/-
  What the laws' own function shown does to the world: it is true, and what was there stays as it was; small facts that the laws share.
-/
import Derived.Test.YtlnpemjamcpheaaWOf
namespace Go.Proofs.Ytlnpemjamcpheaa
set_option maxRecDepth 100000
open Go.RowKit
set_option linter.unusedVariables false
set_option linter.unusedSimpArgs false

theorem example_of : ofW 4 2 5 = [1, 2] := by decide
theorem example_ends : (ofW 4 2 5).map (lastW 4 2) = [5, 7] := by decide
theorem example_one : ofW 3 3 5 = [1] := by decide
set_option maxHeartbeats 2000000 in
theorem shown_any (w : World) : Calls Try.prog 9 #[] w fun e w' => e = .returned (.bool true) ∧ Grow w w' := by
  go_enter Try.func9, Try.ntmps9
  go_wp2_with fail
  refine (of_at 4 2 5 w).mono ?_
  rintro _ w1 ⟨s1, n1, c1, rfl, hb, hO⟩
  rw [example_of] at hO
  have h1 : n1 = 2 := hO.1.symm
  subst h1
  have G1 := hide hb
  have O1 := hide hO
  clear hb hO
  go_wp2_with fail
  refine (ends_at 4 2 5 w1).mono ?_
  rintro _ w2 ⟨s2, n2, c2, rfl, hb, hO⟩
  rw [example_ends] at hO
  have h1 : n2 = 2 := hO.1.symm
  subst h1
  have G2 := hide (Grow.trans' G1.out hb)
  have O1' := hide (O1.out.later hb)
  have O2 := hide hO
  clear hb hO O1 G1
  go_wp2_with fail
  refine (of_at 3 3 5 w2).mono ?_
  rintro _ w3 ⟨s3, n3, c3, rfl, hb, hO⟩
  rw [example_one] at hO
  have h1 : n3 = 1 := hO.1.symm
  subst h1
  have G3 := hide (Grow.trans' G2.out hb)
  obtain ⟨g1, rfl⟩ := O1'.out.some' (by omega)
  obtain ⟨g2, rfl⟩ := O2.out.some' (by omega)
  obtain ⟨g3, rfl⟩ := hO.some' (by omega)
  have p0 := (O1'.out.later hb).cell 0 (by simp)
  have p1 := (O1'.out.later hb).cell 1 (by simp)
  have q0 := (O2.out.later hb).cell 0 (by simp)
  have q1 := (O2.out.later hb).cell 1 (by simp)
  have r0 := hO.cell 0 (by simp)
  simp only [List.getElem_cons_zero, List.getElem_cons_succ] at p0 p1 q0 q1 r0
  clear hb hO O1' O2 G2
  go_wp2_with fail
  go_ret
  exact ⟨rfl, G3.out⟩

/-- Is k among the first i? -/
def foundTo (O : List Int) (k : Int) (i : Nat) : Bool := decide (k ∈ O.take i)
theorem foundTo_zero (O : List Int) (k : Int) : foundTo O k 0 = false := by simp [foundTo]
theorem foundTo_step (O : List Int) (k : Int) (i : Nat) (h : i < O.length) : foundTo O k (i + 1) = (foundTo O k i || decide (O[i] = k)) := by
  unfold foundTo
  rw [← List.take_append_getElem h, Bool.eq_iff_iff]
  simp only [Bool.or_eq_true, decide_eq_true_eq, List.mem_append, List.mem_singleton]
  rw [eq_comm (a := k)]
theorem foundTo_all (O : List Int) (k : Int) : foundTo O k O.length = decide (k ∈ O) := by simp [foundTo]

end Go.Proofs.Ytlnpemjamcpheaa
