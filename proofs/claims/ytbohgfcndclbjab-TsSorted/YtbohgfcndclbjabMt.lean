/-
  What ts.Meet and the document's own Meet do to the world: for every two times each returns its plain answer, and what was there stays as it was.
-/
import Derived.Test.YtbohgfcndclbjabBase
namespace Go.Proofs.Ytbohgfcndclbjab
open Go.RowKit
attribute [local go_sem ↓] run_minI

set_option maxHeartbeats 1000000 in
theorem meet_yes (a b : Tm) (w : World) (hl : likeB a b = true) :
    Calls Try.prog 8 #[.agg #[.int .i64 a.e, .int .i64 a.d, .int .i64 a.x, .int .i64 a.y, .int .i64 a.z], .agg #[.int .i64 b.e, .int .i64 b.d, .int .i64 b.x, .int .i64 b.y, .int .i64 b.z]] w fun e w' => e = .returned (.tuple #[.agg #[.int .i64 (meetT a b).e, .int .i64 (meetT a b).d, .int .i64 (meetT a b).x, .int .i64 (meetT a b).y, .int .i64 (meetT a b).z], .int .i64 0]) ∧ Below w.heap.size w w' := by
  obtain ⟨ae, ad, ax, ay, az⟩ := a
  obtain ⟨be, bd, bx, bY, bz⟩ := b
  simp [likeB, depthB] at hl
  obtain ⟨rfl, h0, h3⟩ := hl
  have : ad = 0 ∨ ad = 1 ∨ ad = 2 ∨ ad = 3 := by omega
  clear h0 h3
  dsimp only
  rcases this with rfl | rfl | rfl | rfl
  all_goals
    go_enter Try.func8, Try.ntmps8
    go_wp2
    repeat any_goals (first | (refine wp_loop_rounds 4 ?_; rw [rounds_succ]; go_wp2) | (rw [rounds_succ]; go_wp2) | (go_region; all_goals go_wp2))
    refine bodyPost_ret (v := .tuple #[.agg #[.int .i64 (meetT ⟨ae, _, ax, ay, az⟩ ⟨be, _, bx, bY, bz⟩).e, .int .i64 (meetT ⟨ae, _, ax, ay, az⟩ ⟨be, _, bx, bY, bz⟩).d, .int .i64 (meetT ⟨ae, _, ax, ay, az⟩ ⟨be, _, bx, bY, bz⟩).x, .int .i64 (meetT ⟨ae, _, ax, ay, az⟩ ⟨be, _, bx, bY, bz⟩).y, .int .i64 (meetT ⟨ae, _, ax, ay, az⟩ ⟨be, _, bx, bY, bz⟩).z], .int .i64 0]) ?_ rfl ⟨rfl, ?_⟩
    · simp [results, Try.results8, go_sem, meetT]
    repeat (first | exact Below.refl _ _ | apply below_drewN | apply Below.drew | refine Below.alloc ?_ (by simp; try omega) _)

set_option maxHeartbeats 400000 in
theorem meet_no (a b : Tm) (w : World) (hl : likeB a b = false) :
    Calls Try.prog 8 #[.agg #[.int .i64 a.e, .int .i64 a.d, .int .i64 a.x, .int .i64 a.y, .int .i64 a.z], .agg #[.int .i64 b.e, .int .i64 b.d, .int .i64 b.x, .int .i64 b.y, .int .i64 b.z]] w fun e w' => e = .returned (.tuple #[.agg #[.int .i64 0, .int .i64 0, .int .i64 0, .int .i64 0, .int .i64 0], .int .i64 1]) ∧ Below w.heap.size w w' := by
  obtain ⟨ae, ad, ax, ay, az⟩ := a
  obtain ⟨be, bd, bx, bY, bz⟩ := b
  simp [likeB, depthB] at hl
  dsimp only
  by_cases hd : ad = bd
  · subst hd
    by_cases h0 : 0 ≤ ad
    · have h3 : decide (ad ≤ 3) = false := by simpa using hl rfl h0
      clear hl
      go_enter Try.func8, Try.ntmps8
      go_wp2
      refine bodyPost_ret (v := .tuple #[.agg #[.int .i64 0, .int .i64 0, .int .i64 0, .int .i64 0, .int .i64 0], .int .i64 1]) (by simp [results, Try.results8, go_sem]) rfl ⟨rfl, ?_⟩
      repeat (first | exact Below.refl _ _ | apply below_drewN | apply Below.drew | refine Below.alloc ?_ (by simp; try omega) _)
    · clear hl
      go_enter Try.func8, Try.ntmps8
      go_wp2
      refine bodyPost_ret (v := .tuple #[.agg #[.int .i64 0, .int .i64 0, .int .i64 0, .int .i64 0, .int .i64 0], .int .i64 1]) (by simp [results, Try.results8, go_sem]) rfl ⟨rfl, ?_⟩
      repeat (first | exact Below.refl _ _ | apply below_drewN | apply Below.drew | refine Below.alloc ?_ (by simp; try omega) _)
  · clear hl
    go_enter Try.func8, Try.ntmps8
    go_wp2
    refine bodyPost_ret (v := .tuple #[.agg #[.int .i64 0, .int .i64 0, .int .i64 0, .int .i64 0, .int .i64 0], .int .i64 1]) (by simp [results, Try.results8, go_sem]) rfl ⟨rfl, ?_⟩
    repeat (first | exact Below.refl _ _ | apply below_drewN | apply Below.drew | refine Below.alloc ?_ (by simp; try omega) _)

end Go.Proofs.Ytbohgfcndclbjab
