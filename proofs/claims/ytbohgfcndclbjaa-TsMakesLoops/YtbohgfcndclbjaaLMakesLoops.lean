/-
  What the law TsMakesLoops does: for every epoch, every three counters and whatever number says how many of them are taken, it returns true, and what was there stays as it was.
-/
import Derived.Test.YtbohgfcndclbjaaJm
import Derived.Test.YtbohgfcndclbjaaShown
import Derived.Test.YtbohgfcndclbjaaMy
import Derived.Test.YtbohgfcndclbjaaRowi
namespace Go.Proofs.Ytbohgfcndclbjaa
open Go.RowKit
set_option linter.unusedVariables false

theorem and3 (m : Int) : ∃ k : Nat, k ≤ 3 ∧ bits .and .i64 m 3 = (k : Int) := by
  refine ⟨(BitVec.ofInt 64 m).toNat &&& 3, Nat.and_le_right, ?_⟩
  have h3 : (BitVec.ofInt 64 m).toNat &&& 3 ≤ 3 := Nat.and_le_right
  show IntKind.i64.wrap ((BitVec.ofInt 64 m &&& BitVec.ofInt 64 3).toNat : Int) = _
  rw [BitVec.toNat_and, show (BitVec.ofInt 64 3).toNat = 3 from rfl, IntKind.wrap_i64]
  omega

theorem beq_ret {p q : Bool} (h : p = true ↔ q = true) : Ending.returned (.bool (p == q)) = .returned (.bool true) := by
  have : p = q := by cases p <;> cases q <;> simp_all
  rw [this]; simp

set_option maxHeartbeats 4000000 in
theorem TsMakesLoops_0 (ep x y z m : Int) (w : World) (hm : bits .and .i64 m 3 = 0) :
    Calls Try.prog 8 #[.int .i64 ep, .agg #[.int .i64 x, .int .i64 y, .int .i64 z], .int .i64 m] w fun e w' => e = .returned (.bool true) ∧ Below w.heap.size w w' := by
  have cat : ∀ (w' : World), Calls Try.prog 10 #[.int .i64 ep, .slice (some ⟨w.heap.size, 0, none⟩) 0 3] w' fun e w2 => e = .returned (.agg #[.int .i64 ep, .int .i64 0, .int .i64 0, .int .i64 0, .int .i64 0]) ∧ Below w'.heap.size w' w2 := fun w' => by
    have := at_none ep (some ⟨w.heap.size, 0, none⟩) 3 (fun _ => 0) w'
    simpa [atT] using this
  have CAT := hide cat
  clear cat
  go_enter Try.func8, Try.ntmps8
  go_wp2_with fail
  refine (shown_any _).mono ?_
  rintro e w1 ⟨rfl, hb1⟩
  have c0 : w1.cell? ⟨w.heap.size, 0, none⟩ = some (.int .i64 x) := cell_later hb1 (by simp [go_sem])
  have c1 : w1.cell? ⟨w.heap.size, 1, none⟩ = some (.int .i64 y) := cell_later hb1 (by simp [go_sem])
  have c2 : w1.cell? ⟨w.heap.size, 2, none⟩ = some (.int .i64 z) := cell_later hb1 (by simp [go_sem])
  have g1 := hide (Grow.trans' (Grow.alloc' w _) hb1)
  clear hb1
  go_wp2_with fail
  refine (CAT.out w1).mono ?_
  rintro e w2 ⟨rfl, hb2⟩
  have d0 : (w2.alloc (.cells #[.int .i64 ep, .int .i64 0, .int .i64 0, .int .i64 0, .int .i64 0] 25)).cell? ⟨w.heap.size, 0, none⟩ = some (.int .i64 x) := cell_later (Grow.alloc' _ _) (cell_later hb2 c0)
  have d1 : (w2.alloc (.cells #[.int .i64 ep, .int .i64 0, .int .i64 0, .int .i64 0, .int .i64 0] 25)).cell? ⟨w.heap.size, 1, none⟩ = some (.int .i64 y) := cell_later (Grow.alloc' _ _) (cell_later hb2 c1)
  have d2 : (w2.alloc (.cells #[.int .i64 ep, .int .i64 0, .int .i64 0, .int .i64 0, .int .i64 0] 25)).cell? ⟨w.heap.size, 2, none⟩ = some (.int .i64 z) := cell_later (Grow.alloc' _ _) (cell_later hb2 c2)
  have g2 := hide (Grow.trans' (Grow.trans' g1.out hb2) (Grow.alloc' w2 (.cells #[.int .i64 ep, .int .i64 0, .int .i64 0, .int .i64 0, .int .i64 0] 25)))
  clear hb2 g1 c0 c1 c2
  go_wp2_with fail
  repeat any_goals (first | (refine wp_loop_rounds 4 ?_; rw [rounds_succ]; go_wp2_with fail) | (rw [rounds_succ]; go_wp2_with fail))
  all_goals
    refine (may_any ⟨ep, 0, 0, 0, 0⟩ _).mono ?_
    rintro e w3 ⟨rfl, hb3⟩
    clear d0 d1 d2
    go_wp2
  all_goals go_ret
  all_goals refine ⟨?_, Grow.trans' g2.out hb3⟩
  all_goals first | (refine beq_ret ?_; simp [mayB, depthB]; omega) | (refine ret_bool ?_; simp [mayB, depthB]; omega)

set_option maxHeartbeats 4000000 in
theorem TsMakesLoops_1 (ep x y z m : Int) (w : World) (hm : bits .and .i64 m 3 = 1) :
    Calls Try.prog 8 #[.int .i64 ep, .agg #[.int .i64 x, .int .i64 y, .int .i64 z], .int .i64 m] w fun e w' => e = .returned (.bool true) ∧ Below w.heap.size w w' := by
  have cat : ∀ (w' : World), w'.cell? ⟨w.heap.size, 0, none⟩ = some (.int .i64 x) → w'.cell? ⟨w.heap.size, 1, none⟩ = some (.int .i64 y) → w'.cell? ⟨w.heap.size, 2, none⟩ = some (.int .i64 z) → Calls Try.prog 10 #[.int .i64 ep, .slice (some ⟨w.heap.size, 0, none⟩) 1 3] w' fun e w2 => e = .returned (.agg #[.int .i64 ep, .int .i64 1, .int .i64 x, .int .i64 0, .int .i64 0]) ∧ Below w'.heap.size w' w2 := fun w' c0 c1 c2 => by
    have := at_some ep w.heap.size 0 1 3 (fun j => if j = 0 then x else if j = 1 then y else z) w' (by omega) (fun j hj => by
      have hj' : j = 0 ∨ j = 1 ∨ j = 2 := by omega
      rcases hj' with rfl | rfl | rfl
      · simpa using c0
      · simpa using c1
      · simpa using c2)
    simpa [atT] using this
  have CAT := hide cat
  clear cat
  go_enter Try.func8, Try.ntmps8
  go_wp2_with fail
  refine (shown_any _).mono ?_
  rintro e w1 ⟨rfl, hb1⟩
  have c0 : w1.cell? ⟨w.heap.size, 0, none⟩ = some (.int .i64 x) := cell_later hb1 (by simp [go_sem])
  have c1 : w1.cell? ⟨w.heap.size, 1, none⟩ = some (.int .i64 y) := cell_later hb1 (by simp [go_sem])
  have c2 : w1.cell? ⟨w.heap.size, 2, none⟩ = some (.int .i64 z) := cell_later hb1 (by simp [go_sem])
  have g1 := hide (Grow.trans' (Grow.alloc' w _) hb1)
  clear hb1
  go_wp2_with fail
  refine (CAT.out w1 c0 c1 c2).mono ?_
  rintro e w2 ⟨rfl, hb2⟩
  have d0 : (w2.alloc (.cells #[.int .i64 ep, .int .i64 1, .int .i64 x, .int .i64 0, .int .i64 0] 25)).cell? ⟨w.heap.size, 0, none⟩ = some (.int .i64 x) := cell_later (Grow.alloc' _ _) (cell_later hb2 c0)
  have d1 : (w2.alloc (.cells #[.int .i64 ep, .int .i64 1, .int .i64 x, .int .i64 0, .int .i64 0] 25)).cell? ⟨w.heap.size, 1, none⟩ = some (.int .i64 y) := cell_later (Grow.alloc' _ _) (cell_later hb2 c1)
  have d2 : (w2.alloc (.cells #[.int .i64 ep, .int .i64 1, .int .i64 x, .int .i64 0, .int .i64 0] 25)).cell? ⟨w.heap.size, 2, none⟩ = some (.int .i64 z) := cell_later (Grow.alloc' _ _) (cell_later hb2 c2)
  have g2 := hide (Grow.trans' (Grow.trans' g1.out hb2) (Grow.alloc' w2 (.cells #[.int .i64 ep, .int .i64 1, .int .i64 x, .int .i64 0, .int .i64 0] 25)))
  clear hb2 g1 c0 c1 c2
  go_wp2_with fail
  repeat any_goals (first | (refine wp_loop_rounds 4 ?_; rw [rounds_succ]; go_wp2_with fail) | (rw [rounds_succ]; go_wp2_with fail))
  all_goals
    refine (may_any ⟨ep, 1, x, 0, 0⟩ _).mono ?_
    rintro e w3 ⟨rfl, hb3⟩
    clear d0 d1 d2
    go_wp2
  all_goals go_ret
  all_goals refine ⟨?_, Grow.trans' g2.out hb3⟩
  all_goals first | (refine beq_ret ?_; simp [mayB, depthB]; omega) | (refine ret_bool ?_; simp [mayB, depthB]; omega)

set_option maxHeartbeats 4000000 in
theorem TsMakesLoops_2 (ep x y z m : Int) (w : World) (hm : bits .and .i64 m 3 = 2) :
    Calls Try.prog 8 #[.int .i64 ep, .agg #[.int .i64 x, .int .i64 y, .int .i64 z], .int .i64 m] w fun e w' => e = .returned (.bool true) ∧ Below w.heap.size w w' := by
  have cat : ∀ (w' : World), w'.cell? ⟨w.heap.size, 0, none⟩ = some (.int .i64 x) → w'.cell? ⟨w.heap.size, 1, none⟩ = some (.int .i64 y) → w'.cell? ⟨w.heap.size, 2, none⟩ = some (.int .i64 z) → Calls Try.prog 10 #[.int .i64 ep, .slice (some ⟨w.heap.size, 0, none⟩) 2 3] w' fun e w2 => e = .returned (.agg #[.int .i64 ep, .int .i64 2, .int .i64 x, .int .i64 y, .int .i64 0]) ∧ Below w'.heap.size w' w2 := fun w' c0 c1 c2 => by
    have := at_some ep w.heap.size 0 2 3 (fun j => if j = 0 then x else if j = 1 then y else z) w' (by omega) (fun j hj => by
      have hj' : j = 0 ∨ j = 1 ∨ j = 2 := by omega
      rcases hj' with rfl | rfl | rfl
      · simpa using c0
      · simpa using c1
      · simpa using c2)
    simpa [atT] using this
  have CAT := hide cat
  clear cat
  go_enter Try.func8, Try.ntmps8
  go_wp2_with fail
  refine (shown_any _).mono ?_
  rintro e w1 ⟨rfl, hb1⟩
  have c0 : w1.cell? ⟨w.heap.size, 0, none⟩ = some (.int .i64 x) := cell_later hb1 (by simp [go_sem])
  have c1 : w1.cell? ⟨w.heap.size, 1, none⟩ = some (.int .i64 y) := cell_later hb1 (by simp [go_sem])
  have c2 : w1.cell? ⟨w.heap.size, 2, none⟩ = some (.int .i64 z) := cell_later hb1 (by simp [go_sem])
  have g1 := hide (Grow.trans' (Grow.alloc' w _) hb1)
  clear hb1
  go_wp2_with fail
  refine (CAT.out w1 c0 c1 c2).mono ?_
  rintro e w2 ⟨rfl, hb2⟩
  have d0 : (w2.alloc (.cells #[.int .i64 ep, .int .i64 2, .int .i64 x, .int .i64 y, .int .i64 0] 25)).cell? ⟨w.heap.size, 0, none⟩ = some (.int .i64 x) := cell_later (Grow.alloc' _ _) (cell_later hb2 c0)
  have d1 : (w2.alloc (.cells #[.int .i64 ep, .int .i64 2, .int .i64 x, .int .i64 y, .int .i64 0] 25)).cell? ⟨w.heap.size, 1, none⟩ = some (.int .i64 y) := cell_later (Grow.alloc' _ _) (cell_later hb2 c1)
  have d2 : (w2.alloc (.cells #[.int .i64 ep, .int .i64 2, .int .i64 x, .int .i64 y, .int .i64 0] 25)).cell? ⟨w.heap.size, 2, none⟩ = some (.int .i64 z) := cell_later (Grow.alloc' _ _) (cell_later hb2 c2)
  have g2 := hide (Grow.trans' (Grow.trans' g1.out hb2) (Grow.alloc' w2 (.cells #[.int .i64 ep, .int .i64 2, .int .i64 x, .int .i64 y, .int .i64 0] 25)))
  clear hb2 g1 c0 c1 c2
  go_wp2_with fail
  repeat any_goals (first | (refine wp_loop_rounds 4 ?_; rw [rounds_succ]; go_wp2_with fail) | (rw [rounds_succ]; go_wp2_with fail))
  all_goals
    refine (may_any ⟨ep, 2, x, y, 0⟩ _).mono ?_
    rintro e w3 ⟨rfl, hb3⟩
    clear d0 d1 d2
    go_wp2
  all_goals go_ret
  all_goals refine ⟨?_, Grow.trans' g2.out hb3⟩
  all_goals first | (refine beq_ret ?_; simp [mayB, depthB]; omega) | (refine ret_bool ?_; simp [mayB, depthB]; omega)

set_option maxHeartbeats 4000000 in
theorem TsMakesLoops_3 (ep x y z m : Int) (w : World) (hm : bits .and .i64 m 3 = 3) :
    Calls Try.prog 8 #[.int .i64 ep, .agg #[.int .i64 x, .int .i64 y, .int .i64 z], .int .i64 m] w fun e w' => e = .returned (.bool true) ∧ Below w.heap.size w w' := by
  have cat : ∀ (w' : World), w'.cell? ⟨w.heap.size, 0, none⟩ = some (.int .i64 x) → w'.cell? ⟨w.heap.size, 1, none⟩ = some (.int .i64 y) → w'.cell? ⟨w.heap.size, 2, none⟩ = some (.int .i64 z) → Calls Try.prog 10 #[.int .i64 ep, .slice (some ⟨w.heap.size, 0, none⟩) 3 3] w' fun e w2 => e = .returned (.agg #[.int .i64 ep, .int .i64 3, .int .i64 x, .int .i64 y, .int .i64 z]) ∧ Below w'.heap.size w' w2 := fun w' c0 c1 c2 => by
    have := at_some ep w.heap.size 0 3 3 (fun j => if j = 0 then x else if j = 1 then y else z) w' (by omega) (fun j hj => by
      have hj' : j = 0 ∨ j = 1 ∨ j = 2 := by omega
      rcases hj' with rfl | rfl | rfl
      · simpa using c0
      · simpa using c1
      · simpa using c2)
    simpa [atT] using this
  have CAT := hide cat
  clear cat
  go_enter Try.func8, Try.ntmps8
  go_wp2_with fail
  refine (shown_any _).mono ?_
  rintro e w1 ⟨rfl, hb1⟩
  have c0 : w1.cell? ⟨w.heap.size, 0, none⟩ = some (.int .i64 x) := cell_later hb1 (by simp [go_sem])
  have c1 : w1.cell? ⟨w.heap.size, 1, none⟩ = some (.int .i64 y) := cell_later hb1 (by simp [go_sem])
  have c2 : w1.cell? ⟨w.heap.size, 2, none⟩ = some (.int .i64 z) := cell_later hb1 (by simp [go_sem])
  have g1 := hide (Grow.trans' (Grow.alloc' w _) hb1)
  clear hb1
  go_wp2_with fail
  refine (CAT.out w1 c0 c1 c2).mono ?_
  rintro e w2 ⟨rfl, hb2⟩
  have d0 : (w2.alloc (.cells #[.int .i64 ep, .int .i64 3, .int .i64 x, .int .i64 y, .int .i64 z] 25)).cell? ⟨w.heap.size, 0, none⟩ = some (.int .i64 x) := cell_later (Grow.alloc' _ _) (cell_later hb2 c0)
  have d1 : (w2.alloc (.cells #[.int .i64 ep, .int .i64 3, .int .i64 x, .int .i64 y, .int .i64 z] 25)).cell? ⟨w.heap.size, 1, none⟩ = some (.int .i64 y) := cell_later (Grow.alloc' _ _) (cell_later hb2 c1)
  have d2 : (w2.alloc (.cells #[.int .i64 ep, .int .i64 3, .int .i64 x, .int .i64 y, .int .i64 z] 25)).cell? ⟨w.heap.size, 2, none⟩ = some (.int .i64 z) := cell_later (Grow.alloc' _ _) (cell_later hb2 c2)
  have g2 := hide (Grow.trans' (Grow.trans' g1.out hb2) (Grow.alloc' w2 (.cells #[.int .i64 ep, .int .i64 3, .int .i64 x, .int .i64 y, .int .i64 z] 25)))
  clear hb2 g1 c0 c1 c2
  go_wp2_with fail
  repeat any_goals (first | (refine wp_loop_rounds 4 ?_; rw [rounds_succ]; go_wp2_with fail) | (rw [rounds_succ]; go_wp2_with fail))
  all_goals
    refine (may_any ⟨ep, 3, x, y, z⟩ _).mono ?_
    rintro e w3 ⟨rfl, hb3⟩
    clear d0 d1 d2
    go_wp2
  all_goals go_ret
  all_goals refine ⟨?_, Grow.trans' g2.out hb3⟩
  all_goals first | (refine beq_ret ?_; simp [mayB, depthB]; omega) | (refine ret_bool ?_; simp [mayB, depthB]; omega)

theorem TsMakesLoops_any (ep x y z m : Int) (w : World) :
    Calls Try.prog 8 #[.int .i64 ep, .agg #[.int .i64 x, .int .i64 y, .int .i64 z], .int .i64 m] w fun e w' => e = .returned (.bool true) ∧ Below w.heap.size w w' := by
  obtain ⟨k, hk, hm⟩ := and3 m
  have : k = 0 ∨ k = 1 ∨ k = 2 ∨ k = 3 := by omega
  rcases this with rfl | rfl | rfl | rfl
  · exact TsMakesLoops_0 ep x y z m w hm
  · exact TsMakesLoops_1 ep x y z m w hm
  · exact TsMakesLoops_2 ep x y z m w hm
  · exact TsMakesLoops_3 ep x y z m w hm

end Go.Proofs.Ytbohgfcndclbjaa
