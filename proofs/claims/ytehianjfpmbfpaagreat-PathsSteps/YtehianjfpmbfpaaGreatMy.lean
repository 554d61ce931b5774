/-
  What ts.May and the document's own May do to the world: for every time each returns its plain answer, and what was there stays as it was.
-/
import Derived.Test.YtehianjfpmbfpaaGreatBase
namespace Go.Proofs.YtehianjfpmbfpaaGreat
open Go.RowKit

theorem idx0 (a b c : Int) (w : World) : (Instr.index 41 (.agg #[.int .i64 a, .int .i64 b, .int .i64 c]) (.int .i64 0)).run Tryz.prog w = .ok (.int .i64 a) w := by kernel_rfl
theorem idx1 (a b c : Int) (w : World) : (Instr.index 41 (.agg #[.int .i64 a, .int .i64 b, .int .i64 c]) (.int .i64 1)).run Tryz.prog w = .ok (.int .i64 b) w := by kernel_rfl
theorem idx2 (a b c : Int) (w : World) : (Instr.index 41 (.agg #[.int .i64 a, .int .i64 b, .int .i64 c]) (.int .i64 2)).run Tryz.prog w = .ok (.int .i64 c) w := by kernel_rfl

set_option maxHeartbeats 2000000 in
theorem may_any (a : Tm) (w : World) :
    Calls Tryz.prog 87 #[.agg #[.int .i64 a.e, .int .i64 a.d, .int .i64 a.x, .int .i64 a.y, .int .i64 a.z]] w fun e w' => e = .returned (.bool (mayB a)) ∧ Below w.heap.size w w' := by
  obtain ⟨ae, ad, ax, ay, az⟩ := a
  dsimp only
  have i0 := idx0
  have i1 := idx1
  have i2 := idx2
  by_cases hr : 0 ≤ ad ∧ ad ≤ 3
  · have : ad = 0 ∨ ad = 1 ∨ ad = 2 ∨ ad = 3 := by omega
    clear hr
    rcases this with rfl | rfl | rfl | rfl
    all_goals
      go_enter Tryz.func87, Tryz.ntmps87
      go_wp2
      repeat any_goals (first | (refine wp_loop_rounds 4 ?_; rw [rounds_succ]; go_wp2) | (rw [rounds_succ]; go_wp2) | (go_quiet (fail); go_wp2))
      all_goals clear i0 i1 i2
      all_goals go_ret
      all_goals refine ⟨ret_bool ?_, ?_⟩
      all_goals first | (simp [mayB, depthB]; done) | (simp [mayB, depthB]; omega) | (simp [mayB, depthB] at *; omega) | (repeat (first | exact Below.refl _ _ | apply below_drewN | refine Below.alloc ?_ (by simp; try omega) _))
  · by_cases h0 : 0 ≤ ad
    · have h3 : decide (ad ≤ 3) = false := by simp; omega
      have h3' : decide (3 < ad) = true := by simp; omega
      clear hr
      go_enter Tryz.func87, Tryz.ntmps87
      go_wp2
      all_goals clear i0 i1 i2
      all_goals go_ret
      all_goals refine ⟨ret_bool ?_, ?_⟩
      all_goals simp at h3 h3'
      all_goals first | (simp [mayB, depthB]; done) | (simp [mayB, depthB]; omega) | (simp [mayB, depthB] at *; omega) | (repeat (first | exact Below.refl _ _ | apply below_drewN | refine Below.alloc ?_ (by simp; try omega) _))
    · clear hr
      go_enter Tryz.func87, Tryz.ntmps87
      go_wp2
      all_goals clear i0 i1 i2
      all_goals go_ret
      all_goals refine ⟨ret_bool ?_, ?_⟩
      all_goals first | (simp [mayB, depthB]; done) | (simp [mayB, depthB]; omega) | (simp [mayB, depthB] at *; omega) | (repeat (first | exact Below.refl _ _ | apply below_drewN | refine Below.alloc ?_ (by simp; try omega) _))
set_option maxHeartbeats 2000000 in
theorem refMay_any (a : Tm) (w : World) :
    Calls Tryz.prog 22 #[.agg #[.int .i64 a.e, .int .i64 a.d, .int .i64 a.x, .int .i64 a.y, .int .i64 a.z]] w fun e w' => e = .returned (.bool (mayB a)) ∧ Below w.heap.size w w' := by
  obtain ⟨ae, ad, ax, ay, az⟩ := a
  dsimp only
  have i0 := idx0
  have i1 := idx1
  have i2 := idx2
  by_cases hr : 0 ≤ ad ∧ ad ≤ 3
  · have : ad = 0 ∨ ad = 1 ∨ ad = 2 ∨ ad = 3 := by omega
    clear hr
    rcases this with rfl | rfl | rfl | rfl
    all_goals
      go_enter Tryz.func22, Tryz.ntmps22
      go_wp2
      repeat any_goals (first | (refine wp_loop_rounds 4 ?_; rw [rounds_succ]; go_wp2) | (rw [rounds_succ]; go_wp2) | (go_quiet (fail); go_wp2))
      all_goals clear i0 i1 i2
      all_goals go_ret
      all_goals refine ⟨ret_bool ?_, ?_⟩
      all_goals first | (simp [mayB, depthB]; done) | (simp [mayB, depthB]; omega) | (simp [mayB, depthB] at *; omega) | (repeat (first | exact Below.refl _ _ | apply below_drewN | refine Below.alloc ?_ (by simp; try omega) _))
  · by_cases h0 : 0 ≤ ad
    · have h3 : decide (ad ≤ 3) = false := by simp; omega
      have h3' : decide (3 < ad) = true := by simp; omega
      clear hr
      go_enter Tryz.func22, Tryz.ntmps22
      go_wp2
      all_goals clear i0 i1 i2
      all_goals go_ret
      all_goals refine ⟨ret_bool ?_, ?_⟩
      all_goals simp at h3 h3'
      all_goals first | (simp [mayB, depthB]; done) | (simp [mayB, depthB]; omega) | (simp [mayB, depthB] at *; omega) | (repeat (first | exact Below.refl _ _ | apply below_drewN | refine Below.alloc ?_ (by simp; try omega) _))
    · clear hr
      go_enter Tryz.func22, Tryz.ntmps22
      go_wp2
      all_goals clear i0 i1 i2
      all_goals go_ret
      all_goals refine ⟨ret_bool ?_, ?_⟩
      all_goals first | (simp [mayB, depthB]; done) | (simp [mayB, depthB]; omega) | (simp [mayB, depthB] at *; omega) | (repeat (first | exact Below.refl _ _ | apply below_drewN | refine Below.alloc ?_ (by simp; try omega) _))

end Go.Proofs.YtehianjfpmbfpaaGreat
