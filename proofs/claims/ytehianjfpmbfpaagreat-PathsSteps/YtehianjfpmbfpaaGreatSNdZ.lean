/-
  What Same, Enter, Leave and Feed, and the document's own, do to the world: for every depth each returns its plain answer, and what was there stays as it was.
-/
import Derived.Test.YtehianjfpmbfpaaGreatSRMy
import Derived.Test.YtehianjfpmbfpaaGreatHPlZ
namespace Go.Proofs.YtehianjfpmbfpaaGreat
open Go.RowKit
set_option linter.unusedVariables false
attribute [local go_sem ↓] run_minI

def betweenS (f t : Int) : Sm := if withinB f 3 = true ∧ withinB t 3 = true then ⟨f, t, minI f t, 0, 0, 0, 0⟩ else ⟨0, 0, 0, 0, 0, 0, 0⟩
set_option maxHeartbeats 400000 in
theorem between_0 (f t : Int) (w : World) (h1 : withinB f 3 = false) :
    Calls Tryz.prog 60 #[.int .i64 f, .int .i64 t] w fun e w' => e = .returned (.agg #[.int .i64 0, .int .i64 0, .int .i64 0, .int .i64 0, .int .i64 0, .int .i64 0, .int .i64 0]) ∧ Below w.heap.size w w' := by
  go_enter Tryz.func60, Tryz.ntmps60
  go_wp2_with (go_at_call 84; refine (depthMay_any _ _).mono ?_; rintro e w' ⟨rfl, rfl⟩)
  repeat any_goals (go_region; try go_wp2_with (go_at_call 84; refine (depthMay_any _ _).mono ?_; rintro e w' ⟨rfl, rfl⟩))
  all_goals refine bodyPost_ret (v := .agg #[.int .i64 0, .int .i64 0, .int .i64 0, .int .i64 0, .int .i64 0, .int .i64 0, .int .i64 0]) (by simp [results, Tryz.results60, go_sem]) rfl ⟨rfl, ?_⟩
  all_goals (repeat (first | exact Below.refl _ _ | apply below_drewN | refine Below.alloc ?_ (by simp; try omega) _ | refine Below.setCell ?_ (by simp; try omega) _))
set_option maxHeartbeats 400000 in
theorem between_1 (f t : Int) (w : World) (h1 : withinB f 3 = true) (h2 : withinB t 3 = false) :
    Calls Tryz.prog 60 #[.int .i64 f, .int .i64 t] w fun e w' => e = .returned (.agg #[.int .i64 0, .int .i64 0, .int .i64 0, .int .i64 0, .int .i64 0, .int .i64 0, .int .i64 0]) ∧ Below w.heap.size w w' := by
  go_enter Tryz.func60, Tryz.ntmps60
  go_wp2_with (go_at_call 84; refine (depthMay_any _ _).mono ?_; rintro e w' ⟨rfl, rfl⟩)
  repeat any_goals (go_region; try go_wp2_with (go_at_call 84; refine (depthMay_any _ _).mono ?_; rintro e w' ⟨rfl, rfl⟩))
  all_goals refine bodyPost_ret (v := .agg #[.int .i64 0, .int .i64 0, .int .i64 0, .int .i64 0, .int .i64 0, .int .i64 0, .int .i64 0]) (by simp [results, Tryz.results60, go_sem]) rfl ⟨rfl, ?_⟩
  all_goals (repeat (first | exact Below.refl _ _ | apply below_drewN | refine Below.alloc ?_ (by simp; try omega) _ | refine Below.setCell ?_ (by simp; try omega) _))
set_option maxHeartbeats 400000 in
theorem between_2 (f t : Int) (w : World) (h1 : withinB f 3 = true) (h2 : withinB t 3 = true) :
    Calls Tryz.prog 60 #[.int .i64 f, .int .i64 t] w fun e w' => e = .returned (.agg #[.int .i64 f, .int .i64 t, .int .i64 (minI f t), .int .i64 0, .int .i64 0, .int .i64 0, .int .i64 0]) ∧ Below w.heap.size w w' := by
  go_enter Tryz.func60, Tryz.ntmps60
  go_wp2_with (go_at_call 84; refine (depthMay_any _ _).mono ?_; rintro e w' ⟨rfl, rfl⟩)
  repeat any_goals (go_region; try go_wp2_with (go_at_call 84; refine (depthMay_any _ _).mono ?_; rintro e w' ⟨rfl, rfl⟩))
  all_goals refine bodyPost_ret (v := .agg #[.int .i64 f, .int .i64 t, .int .i64 (minI f t), .int .i64 0, .int .i64 0, .int .i64 0, .int .i64 0]) (by simp [results, Tryz.results60, go_sem]) rfl ⟨rfl, ?_⟩
  all_goals (repeat (first | exact Below.refl _ _ | apply below_drewN | refine Below.alloc ?_ (by simp; try omega) _ | refine Below.setCell ?_ (by simp; try omega) _))

theorem between_any (f t : Int) (w : World) :
    Calls Tryz.prog 60 #[.int .i64 f, .int .i64 t] w fun e w' => e = .returned (.agg #[.int .i64 (betweenS f t).f, .int .i64 (betweenS f t).t, .int .i64 (betweenS f t).k, .int .i64 (betweenS f t).ep, .int .i64 (betweenS f t).x, .int .i64 (betweenS f t).y, .int .i64 (betweenS f t).z]) ∧ Below w.heap.size w w' := by
  unfold betweenS
  cases h1 : withinB f 3
  · rw [if_neg (by simp)]; exact between_0 f t w h1
  cases h2 : withinB t 3
  · rw [if_neg (by simp)]; exact between_1 f t w h1 h2
  · rw [if_pos ⟨rfl, rfl⟩]; exact between_2 f t w h1 h2
theorem between_at (f t : Int) {s : Sm} (h : betweenS f t = s) (w : World) :
    Calls Tryz.prog 60 #[.int .i64 f, .int .i64 t] w fun e w' => e = .returned (.agg #[.int .i64 s.f, .int .i64 s.t, .int .i64 s.k, .int .i64 s.ep, .int .i64 s.x, .int .i64 s.y, .int .i64 s.z]) ∧ Below w.heap.size w w' := by
  rw [← h]; exact between_any f t w
theorem between_no {f t : Int} (h : withinB f 3 = false) (w : World) :
    Calls Tryz.prog 60 #[.int .i64 f, .int .i64 t] w fun e w' => e = .returned (.agg #[.int .i64 0, .int .i64 0, .int .i64 0, .int .i64 0, .int .i64 0, .int .i64 0, .int .i64 0]) ∧ Below w.heap.size w w' := between_0 f t w h

set_option maxHeartbeats 400000 in
theorem same_no (d : Int) (w : World) (h : withinB d 3 = false) :
    Calls Tryz.prog 33 #[.int .i64 d] w fun e w' => e = .returned (.agg #[.int .i64 0, .int .i64 0, .int .i64 0, .int .i64 0, .int .i64 0, .int .i64 0, .int .i64 0]) ∧ Below w.heap.size w w' := by
  go_enter Tryz.func33, Tryz.ntmps33
  go_wp2_with fail
  refine (between_no h _).mono ?_
  rintro e w' ⟨rfl, hb⟩
  obtain ⟨hc, hf⟩ := bcell hb
  go_wp2
  refine bodyPost_ret (v := .agg #[.int .i64 0, .int .i64 0, .int .i64 0, .int .i64 0, .int .i64 0, .int .i64 0, .int .i64 0]) (by simp [results, Tryz.results33, go_sem, hc]) rfl ⟨rfl, ?_⟩
  (iterate 7 refine Below.setCell ?_ (by simp) _); exact Grow.trans' (Grow.alloc' _ _) hb
set_option maxHeartbeats 400000 in
theorem enter_no (d : Int) (w : World) (h : withinB d 3 = false) :
    Calls Tryz.prog 99 #[.int .i64 d] w fun e w' => e = .returned (.agg #[.int .i64 0, .int .i64 0, .int .i64 0, .int .i64 0, .int .i64 0, .int .i64 0, .int .i64 0]) ∧ Below w.heap.size w w' := by
  go_enter Tryz.func99, Tryz.ntmps99
  go_wp2_with fail
  refine (between_no h _).mono ?_
  rintro e w' ⟨rfl, hb⟩
  obtain ⟨hc, hf⟩ := bcell hb
  go_wp2
  refine bodyPost_ret (v := .agg #[.int .i64 0, .int .i64 0, .int .i64 0, .int .i64 0, .int .i64 0, .int .i64 0, .int .i64 0]) (by simp [results, Tryz.results99, go_sem, hc]) rfl ⟨rfl, ?_⟩
  (iterate 7 refine Below.setCell ?_ (by simp) _); exact Grow.trans' (Grow.alloc' _ _) hb
set_option maxHeartbeats 400000 in
theorem leave_no (d : Int) (w : World) (h : withinB d 3 = false) :
    Calls Tryz.prog 100 #[.int .i64 d] w fun e w' => e = .returned (.agg #[.int .i64 0, .int .i64 0, .int .i64 0, .int .i64 0, .int .i64 0, .int .i64 0, .int .i64 0]) ∧ Below w.heap.size w w' := by
  go_enter Tryz.func100, Tryz.ntmps100
  go_wp2_with fail
  refine (between_no h _).mono ?_
  rintro e w' ⟨rfl, hb⟩
  obtain ⟨hc, hf⟩ := bcell hb
  go_wp2
  refine bodyPost_ret (v := .agg #[.int .i64 0, .int .i64 0, .int .i64 0, .int .i64 0, .int .i64 0, .int .i64 0, .int .i64 0]) (by simp [results, Tryz.results100, go_sem, hc]) rfl ⟨rfl, ?_⟩
  (iterate 7 refine Below.setCell ?_ (by simp) _); exact Grow.trans' (Grow.alloc' _ _) hb
set_option maxHeartbeats 400000 in
theorem same_0 (w : World) :
    Calls Tryz.prog 33 #[.int .i64 0] w fun e w' => e = .returned (.agg #[.int .i64 0, .int .i64 0, .int .i64 0, .int .i64 0, .int .i64 0, .int .i64 0, .int .i64 0]) ∧ Below w.heap.size w w' := by
  go_enter Tryz.func33, Tryz.ntmps33
  go_wp2_with fail
  refine (between_at _ _ (s := ⟨0, 0, 0, 0, 0, 0, 0⟩) rfl _).mono ?_
  rintro e w' ⟨rfl, hb⟩
  dsimp only
  obtain ⟨hc, hf⟩ := bcell hb
  go_wp2
  refine bodyPost_ret (v := .agg #[.int .i64 0, .int .i64 0, .int .i64 0, .int .i64 0, .int .i64 0, .int .i64 0, .int .i64 0]) (by simp [results, Tryz.results33, go_sem, hc]) rfl ⟨rfl, ?_⟩
  (iterate 7 refine Below.setCell ?_ (by simp) _); exact Grow.trans' (Grow.alloc' _ _) hb
set_option maxHeartbeats 400000 in
theorem same_1 (w : World) :
    Calls Tryz.prog 33 #[.int .i64 1] w fun e w' => e = .returned (.agg #[.int .i64 1, .int .i64 1, .int .i64 1, .int .i64 0, .int .i64 0, .int .i64 0, .int .i64 0]) ∧ Below w.heap.size w w' := by
  go_enter Tryz.func33, Tryz.ntmps33
  go_wp2_with fail
  refine (between_at _ _ (s := ⟨1, 1, 1, 0, 0, 0, 0⟩) rfl _).mono ?_
  rintro e w' ⟨rfl, hb⟩
  dsimp only
  obtain ⟨hc, hf⟩ := bcell hb
  go_wp2
  refine bodyPost_ret (v := .agg #[.int .i64 1, .int .i64 1, .int .i64 1, .int .i64 0, .int .i64 0, .int .i64 0, .int .i64 0]) (by simp [results, Tryz.results33, go_sem, hc]) rfl ⟨rfl, ?_⟩
  (iterate 7 refine Below.setCell ?_ (by simp) _); exact Grow.trans' (Grow.alloc' _ _) hb
set_option maxHeartbeats 400000 in
theorem same_2 (w : World) :
    Calls Tryz.prog 33 #[.int .i64 2] w fun e w' => e = .returned (.agg #[.int .i64 2, .int .i64 2, .int .i64 2, .int .i64 0, .int .i64 0, .int .i64 0, .int .i64 0]) ∧ Below w.heap.size w w' := by
  go_enter Tryz.func33, Tryz.ntmps33
  go_wp2_with fail
  refine (between_at _ _ (s := ⟨2, 2, 2, 0, 0, 0, 0⟩) rfl _).mono ?_
  rintro e w' ⟨rfl, hb⟩
  dsimp only
  obtain ⟨hc, hf⟩ := bcell hb
  go_wp2
  refine bodyPost_ret (v := .agg #[.int .i64 2, .int .i64 2, .int .i64 2, .int .i64 0, .int .i64 0, .int .i64 0, .int .i64 0]) (by simp [results, Tryz.results33, go_sem, hc]) rfl ⟨rfl, ?_⟩
  (iterate 7 refine Below.setCell ?_ (by simp) _); exact Grow.trans' (Grow.alloc' _ _) hb
set_option maxHeartbeats 400000 in
theorem same_3 (w : World) :
    Calls Tryz.prog 33 #[.int .i64 3] w fun e w' => e = .returned (.agg #[.int .i64 3, .int .i64 3, .int .i64 3, .int .i64 0, .int .i64 0, .int .i64 0, .int .i64 0]) ∧ Below w.heap.size w w' := by
  go_enter Tryz.func33, Tryz.ntmps33
  go_wp2_with fail
  refine (between_at _ _ (s := ⟨3, 3, 3, 0, 0, 0, 0⟩) rfl _).mono ?_
  rintro e w' ⟨rfl, hb⟩
  dsimp only
  obtain ⟨hc, hf⟩ := bcell hb
  go_wp2
  refine bodyPost_ret (v := .agg #[.int .i64 3, .int .i64 3, .int .i64 3, .int .i64 0, .int .i64 0, .int .i64 0, .int .i64 0]) (by simp [results, Tryz.results33, go_sem, hc]) rfl ⟨rfl, ?_⟩
  (iterate 7 refine Below.setCell ?_ (by simp) _); exact Grow.trans' (Grow.alloc' _ _) hb
set_option maxHeartbeats 400000 in
theorem enter_0 (w : World) :
    Calls Tryz.prog 99 #[.int .i64 0] w fun e w' => e = .returned (.agg #[.int .i64 0, .int .i64 1, .int .i64 0, .int .i64 0, .int .i64 0, .int .i64 0, .int .i64 0]) ∧ Below w.heap.size w w' := by
  go_enter Tryz.func99, Tryz.ntmps99
  go_wp2_with fail
  refine (between_at _ _ (s := ⟨0, 1, 0, 0, 0, 0, 0⟩) rfl _).mono ?_
  rintro e w' ⟨rfl, hb⟩
  dsimp only
  obtain ⟨hc, hf⟩ := bcell hb
  go_wp2
  refine bodyPost_ret (v := .agg #[.int .i64 0, .int .i64 1, .int .i64 0, .int .i64 0, .int .i64 0, .int .i64 0, .int .i64 0]) (by simp [results, Tryz.results99, go_sem, hc]) rfl ⟨rfl, ?_⟩
  (iterate 7 refine Below.setCell ?_ (by simp) _); exact Grow.trans' (Grow.alloc' _ _) hb
set_option maxHeartbeats 400000 in
theorem enter_1 (w : World) :
    Calls Tryz.prog 99 #[.int .i64 1] w fun e w' => e = .returned (.agg #[.int .i64 1, .int .i64 2, .int .i64 1, .int .i64 0, .int .i64 0, .int .i64 0, .int .i64 0]) ∧ Below w.heap.size w w' := by
  go_enter Tryz.func99, Tryz.ntmps99
  go_wp2_with fail
  refine (between_at _ _ (s := ⟨1, 2, 1, 0, 0, 0, 0⟩) rfl _).mono ?_
  rintro e w' ⟨rfl, hb⟩
  dsimp only
  obtain ⟨hc, hf⟩ := bcell hb
  go_wp2
  refine bodyPost_ret (v := .agg #[.int .i64 1, .int .i64 2, .int .i64 1, .int .i64 0, .int .i64 0, .int .i64 0, .int .i64 0]) (by simp [results, Tryz.results99, go_sem, hc]) rfl ⟨rfl, ?_⟩
  (iterate 7 refine Below.setCell ?_ (by simp) _); exact Grow.trans' (Grow.alloc' _ _) hb
set_option maxHeartbeats 400000 in
theorem enter_2 (w : World) :
    Calls Tryz.prog 99 #[.int .i64 2] w fun e w' => e = .returned (.agg #[.int .i64 2, .int .i64 3, .int .i64 2, .int .i64 0, .int .i64 0, .int .i64 0, .int .i64 0]) ∧ Below w.heap.size w w' := by
  go_enter Tryz.func99, Tryz.ntmps99
  go_wp2_with fail
  refine (between_at _ _ (s := ⟨2, 3, 2, 0, 0, 0, 0⟩) rfl _).mono ?_
  rintro e w' ⟨rfl, hb⟩
  dsimp only
  obtain ⟨hc, hf⟩ := bcell hb
  go_wp2
  refine bodyPost_ret (v := .agg #[.int .i64 2, .int .i64 3, .int .i64 2, .int .i64 0, .int .i64 0, .int .i64 0, .int .i64 0]) (by simp [results, Tryz.results99, go_sem, hc]) rfl ⟨rfl, ?_⟩
  (iterate 7 refine Below.setCell ?_ (by simp) _); exact Grow.trans' (Grow.alloc' _ _) hb
set_option maxHeartbeats 400000 in
theorem enter_3 (w : World) :
    Calls Tryz.prog 99 #[.int .i64 3] w fun e w' => e = .returned (.agg #[.int .i64 0, .int .i64 0, .int .i64 0, .int .i64 0, .int .i64 0, .int .i64 0, .int .i64 0]) ∧ Below w.heap.size w w' := by
  go_enter Tryz.func99, Tryz.ntmps99
  go_wp2_with fail
  refine (between_at _ _ (s := ⟨0, 0, 0, 0, 0, 0, 0⟩) rfl _).mono ?_
  rintro e w' ⟨rfl, hb⟩
  dsimp only
  obtain ⟨hc, hf⟩ := bcell hb
  go_wp2
  refine bodyPost_ret (v := .agg #[.int .i64 0, .int .i64 0, .int .i64 0, .int .i64 0, .int .i64 0, .int .i64 0, .int .i64 0]) (by simp [results, Tryz.results99, go_sem, hc]) rfl ⟨rfl, ?_⟩
  (iterate 7 refine Below.setCell ?_ (by simp) _); exact Grow.trans' (Grow.alloc' _ _) hb
set_option maxHeartbeats 400000 in
theorem leave_0 (w : World) :
    Calls Tryz.prog 100 #[.int .i64 0] w fun e w' => e = .returned (.agg #[.int .i64 0, .int .i64 0, .int .i64 0, .int .i64 0, .int .i64 0, .int .i64 0, .int .i64 0]) ∧ Below w.heap.size w w' := by
  go_enter Tryz.func100, Tryz.ntmps100
  go_wp2_with fail
  refine (between_at _ _ (s := ⟨0, 0, 0, 0, 0, 0, 0⟩) rfl _).mono ?_
  rintro e w' ⟨rfl, hb⟩
  dsimp only
  obtain ⟨hc, hf⟩ := bcell hb
  go_wp2
  refine bodyPost_ret (v := .agg #[.int .i64 0, .int .i64 0, .int .i64 0, .int .i64 0, .int .i64 0, .int .i64 0, .int .i64 0]) (by simp [results, Tryz.results100, go_sem, hc]) rfl ⟨rfl, ?_⟩
  (iterate 7 refine Below.setCell ?_ (by simp) _); exact Grow.trans' (Grow.alloc' _ _) hb
set_option maxHeartbeats 400000 in
theorem leave_1 (w : World) :
    Calls Tryz.prog 100 #[.int .i64 1] w fun e w' => e = .returned (.agg #[.int .i64 1, .int .i64 0, .int .i64 0, .int .i64 0, .int .i64 0, .int .i64 0, .int .i64 0]) ∧ Below w.heap.size w w' := by
  go_enter Tryz.func100, Tryz.ntmps100
  go_wp2_with fail
  refine (between_at _ _ (s := ⟨1, 0, 0, 0, 0, 0, 0⟩) rfl _).mono ?_
  rintro e w' ⟨rfl, hb⟩
  dsimp only
  obtain ⟨hc, hf⟩ := bcell hb
  go_wp2
  refine bodyPost_ret (v := .agg #[.int .i64 1, .int .i64 0, .int .i64 0, .int .i64 0, .int .i64 0, .int .i64 0, .int .i64 0]) (by simp [results, Tryz.results100, go_sem, hc]) rfl ⟨rfl, ?_⟩
  (iterate 7 refine Below.setCell ?_ (by simp) _); exact Grow.trans' (Grow.alloc' _ _) hb
set_option maxHeartbeats 400000 in
theorem leave_2 (w : World) :
    Calls Tryz.prog 100 #[.int .i64 2] w fun e w' => e = .returned (.agg #[.int .i64 2, .int .i64 1, .int .i64 1, .int .i64 0, .int .i64 0, .int .i64 0, .int .i64 0]) ∧ Below w.heap.size w w' := by
  go_enter Tryz.func100, Tryz.ntmps100
  go_wp2_with fail
  refine (between_at _ _ (s := ⟨2, 1, 1, 0, 0, 0, 0⟩) rfl _).mono ?_
  rintro e w' ⟨rfl, hb⟩
  dsimp only
  obtain ⟨hc, hf⟩ := bcell hb
  go_wp2
  refine bodyPost_ret (v := .agg #[.int .i64 2, .int .i64 1, .int .i64 1, .int .i64 0, .int .i64 0, .int .i64 0, .int .i64 0]) (by simp [results, Tryz.results100, go_sem, hc]) rfl ⟨rfl, ?_⟩
  (iterate 7 refine Below.setCell ?_ (by simp) _); exact Grow.trans' (Grow.alloc' _ _) hb
set_option maxHeartbeats 400000 in
theorem leave_3 (w : World) :
    Calls Tryz.prog 100 #[.int .i64 3] w fun e w' => e = .returned (.agg #[.int .i64 3, .int .i64 2, .int .i64 2, .int .i64 0, .int .i64 0, .int .i64 0, .int .i64 0]) ∧ Below w.heap.size w w' := by
  go_enter Tryz.func100, Tryz.ntmps100
  go_wp2_with fail
  refine (between_at _ _ (s := ⟨3, 2, 2, 0, 0, 0, 0⟩) rfl _).mono ?_
  rintro e w' ⟨rfl, hb⟩
  dsimp only
  obtain ⟨hc, hf⟩ := bcell hb
  go_wp2
  refine bodyPost_ret (v := .agg #[.int .i64 3, .int .i64 2, .int .i64 2, .int .i64 0, .int .i64 0, .int .i64 0, .int .i64 0]) (by simp [results, Tryz.results100, go_sem, hc]) rfl ⟨rfl, ?_⟩
  (iterate 7 refine Below.setCell ?_ (by simp) _); exact Grow.trans' (Grow.alloc' _ _) hb

set_option maxHeartbeats 400000 in
theorem refSame_no (d : Int) (w : World) (h : withinB d 3 = false) :
    Calls Tryz.prog 48 #[.int .i64 d] w fun e w' => e = .returned (.agg #[.int .i64 0, .int .i64 0, .int .i64 0, .int .i64 0, .int .i64 0, .int .i64 0, .int .i64 0]) ∧ Below w.heap.size w w' := by
  go_enter Tryz.func48, Tryz.ntmps48
  go_wp2_with (go_at_call 70; refine (refDepth_any _ _).mono ?_; rintro e w' ⟨rfl, rfl⟩)
  refine bodyPost_ret (v := .agg #[.int .i64 0, .int .i64 0, .int .i64 0, .int .i64 0, .int .i64 0, .int .i64 0, .int .i64 0]) (by simp [results, Tryz.results48, go_sem]) rfl ⟨rfl, ?_⟩
  (repeat (first | exact Below.refl _ _ | apply below_drewN | refine Below.alloc ?_ (by simp; try omega) _ | refine Below.setCell ?_ (by simp; try omega) _))
set_option maxHeartbeats 400000 in
theorem refEnter_no (d : Int) (w : World) (h : withinB d 3 = false) :
    Calls Tryz.prog 45 #[.int .i64 d] w fun e w' => e = .returned (.agg #[.int .i64 0, .int .i64 0, .int .i64 0, .int .i64 0, .int .i64 0, .int .i64 0, .int .i64 0]) ∧ Below w.heap.size w w' := by
  go_enter Tryz.func45, Tryz.ntmps45
  go_wp2_with (go_at_call 70; refine (refDepth_any _ _).mono ?_; rintro e w' ⟨rfl, rfl⟩)
  refine bodyPost_ret (v := .agg #[.int .i64 0, .int .i64 0, .int .i64 0, .int .i64 0, .int .i64 0, .int .i64 0, .int .i64 0]) (by simp [results, Tryz.results45, go_sem]) rfl ⟨rfl, ?_⟩
  (repeat (first | exact Below.refl _ _ | apply below_drewN | refine Below.alloc ?_ (by simp; try omega) _ | refine Below.setCell ?_ (by simp; try omega) _))
set_option maxHeartbeats 400000 in
theorem refLeave_no (d : Int) (w : World) (h : withinB d 3 = false) :
    Calls Tryz.prog 46 #[.int .i64 d] w fun e w' => e = .returned (.agg #[.int .i64 0, .int .i64 0, .int .i64 0, .int .i64 0, .int .i64 0, .int .i64 0, .int .i64 0]) ∧ Below w.heap.size w w' := by
  go_enter Tryz.func46, Tryz.ntmps46
  go_wp2_with (go_at_call 70; refine (refDepth_any _ _).mono ?_; rintro e w' ⟨rfl, rfl⟩)
  refine bodyPost_ret (v := .agg #[.int .i64 0, .int .i64 0, .int .i64 0, .int .i64 0, .int .i64 0, .int .i64 0, .int .i64 0]) (by simp [results, Tryz.results46, go_sem]) rfl ⟨rfl, ?_⟩
  (repeat (first | exact Below.refl _ _ | apply below_drewN | refine Below.alloc ?_ (by simp; try omega) _ | refine Below.setCell ?_ (by simp; try omega) _))
set_option maxHeartbeats 400000 in
theorem refSame_0 (w : World) :
    Calls Tryz.prog 48 #[.int .i64 0] w fun e w' => e = .returned (.agg #[.int .i64 0, .int .i64 0, .int .i64 0, .int .i64 0, .int .i64 0, .int .i64 0, .int .i64 0]) ∧ Below w.heap.size w w' := by
  have h : withinB 0 3 = true := by decide
  go_enter Tryz.func48, Tryz.ntmps48
  go_wp2_with (go_at_call 70; refine (refDepth_any _ _).mono ?_; rintro e w' ⟨rfl, rfl⟩)
  refine bodyPost_ret (v := .agg #[.int .i64 0, .int .i64 0, .int .i64 0, .int .i64 0, .int .i64 0, .int .i64 0, .int .i64 0]) (by simp [results, Tryz.results48, go_sem]) rfl ⟨rfl, ?_⟩
  (repeat (first | exact Below.refl _ _ | apply below_drewN | refine Below.alloc ?_ (by simp; try omega) _ | refine Below.setCell ?_ (by simp; try omega) _))
set_option maxHeartbeats 400000 in
theorem refSame_1 (w : World) :
    Calls Tryz.prog 48 #[.int .i64 1] w fun e w' => e = .returned (.agg #[.int .i64 1, .int .i64 1, .int .i64 1, .int .i64 0, .int .i64 0, .int .i64 0, .int .i64 0]) ∧ Below w.heap.size w w' := by
  have h : withinB 1 3 = true := by decide
  go_enter Tryz.func48, Tryz.ntmps48
  go_wp2_with (go_at_call 70; refine (refDepth_any _ _).mono ?_; rintro e w' ⟨rfl, rfl⟩)
  refine bodyPost_ret (v := .agg #[.int .i64 1, .int .i64 1, .int .i64 1, .int .i64 0, .int .i64 0, .int .i64 0, .int .i64 0]) (by simp [results, Tryz.results48, go_sem]) rfl ⟨rfl, ?_⟩
  (repeat (first | exact Below.refl _ _ | apply below_drewN | refine Below.alloc ?_ (by simp; try omega) _ | refine Below.setCell ?_ (by simp; try omega) _))
set_option maxHeartbeats 400000 in
theorem refSame_2 (w : World) :
    Calls Tryz.prog 48 #[.int .i64 2] w fun e w' => e = .returned (.agg #[.int .i64 2, .int .i64 2, .int .i64 2, .int .i64 0, .int .i64 0, .int .i64 0, .int .i64 0]) ∧ Below w.heap.size w w' := by
  have h : withinB 2 3 = true := by decide
  go_enter Tryz.func48, Tryz.ntmps48
  go_wp2_with (go_at_call 70; refine (refDepth_any _ _).mono ?_; rintro e w' ⟨rfl, rfl⟩)
  refine bodyPost_ret (v := .agg #[.int .i64 2, .int .i64 2, .int .i64 2, .int .i64 0, .int .i64 0, .int .i64 0, .int .i64 0]) (by simp [results, Tryz.results48, go_sem]) rfl ⟨rfl, ?_⟩
  (repeat (first | exact Below.refl _ _ | apply below_drewN | refine Below.alloc ?_ (by simp; try omega) _ | refine Below.setCell ?_ (by simp; try omega) _))
set_option maxHeartbeats 400000 in
theorem refSame_3 (w : World) :
    Calls Tryz.prog 48 #[.int .i64 3] w fun e w' => e = .returned (.agg #[.int .i64 3, .int .i64 3, .int .i64 3, .int .i64 0, .int .i64 0, .int .i64 0, .int .i64 0]) ∧ Below w.heap.size w w' := by
  have h : withinB 3 3 = true := by decide
  go_enter Tryz.func48, Tryz.ntmps48
  go_wp2_with (go_at_call 70; refine (refDepth_any _ _).mono ?_; rintro e w' ⟨rfl, rfl⟩)
  refine bodyPost_ret (v := .agg #[.int .i64 3, .int .i64 3, .int .i64 3, .int .i64 0, .int .i64 0, .int .i64 0, .int .i64 0]) (by simp [results, Tryz.results48, go_sem]) rfl ⟨rfl, ?_⟩
  (repeat (first | exact Below.refl _ _ | apply below_drewN | refine Below.alloc ?_ (by simp; try omega) _ | refine Below.setCell ?_ (by simp; try omega) _))
set_option maxHeartbeats 400000 in
theorem refEnter_0 (w : World) :
    Calls Tryz.prog 45 #[.int .i64 0] w fun e w' => e = .returned (.agg #[.int .i64 0, .int .i64 1, .int .i64 0, .int .i64 0, .int .i64 0, .int .i64 0, .int .i64 0]) ∧ Below w.heap.size w w' := by
  have h : withinB 0 3 = true := by decide
  go_enter Tryz.func45, Tryz.ntmps45
  go_wp2_with (go_at_call 70; refine (refDepth_any _ _).mono ?_; rintro e w' ⟨rfl, rfl⟩)
  refine bodyPost_ret (v := .agg #[.int .i64 0, .int .i64 1, .int .i64 0, .int .i64 0, .int .i64 0, .int .i64 0, .int .i64 0]) (by simp [results, Tryz.results45, go_sem]) rfl ⟨rfl, ?_⟩
  (repeat (first | exact Below.refl _ _ | apply below_drewN | refine Below.alloc ?_ (by simp; try omega) _ | refine Below.setCell ?_ (by simp; try omega) _))
set_option maxHeartbeats 400000 in
theorem refEnter_1 (w : World) :
    Calls Tryz.prog 45 #[.int .i64 1] w fun e w' => e = .returned (.agg #[.int .i64 1, .int .i64 2, .int .i64 1, .int .i64 0, .int .i64 0, .int .i64 0, .int .i64 0]) ∧ Below w.heap.size w w' := by
  have h : withinB 1 3 = true := by decide
  go_enter Tryz.func45, Tryz.ntmps45
  go_wp2_with (go_at_call 70; refine (refDepth_any _ _).mono ?_; rintro e w' ⟨rfl, rfl⟩)
  refine bodyPost_ret (v := .agg #[.int .i64 1, .int .i64 2, .int .i64 1, .int .i64 0, .int .i64 0, .int .i64 0, .int .i64 0]) (by simp [results, Tryz.results45, go_sem]) rfl ⟨rfl, ?_⟩
  (repeat (first | exact Below.refl _ _ | apply below_drewN | refine Below.alloc ?_ (by simp; try omega) _ | refine Below.setCell ?_ (by simp; try omega) _))
set_option maxHeartbeats 400000 in
theorem refEnter_2 (w : World) :
    Calls Tryz.prog 45 #[.int .i64 2] w fun e w' => e = .returned (.agg #[.int .i64 2, .int .i64 3, .int .i64 2, .int .i64 0, .int .i64 0, .int .i64 0, .int .i64 0]) ∧ Below w.heap.size w w' := by
  have h : withinB 2 3 = true := by decide
  go_enter Tryz.func45, Tryz.ntmps45
  go_wp2_with (go_at_call 70; refine (refDepth_any _ _).mono ?_; rintro e w' ⟨rfl, rfl⟩)
  refine bodyPost_ret (v := .agg #[.int .i64 2, .int .i64 3, .int .i64 2, .int .i64 0, .int .i64 0, .int .i64 0, .int .i64 0]) (by simp [results, Tryz.results45, go_sem]) rfl ⟨rfl, ?_⟩
  (repeat (first | exact Below.refl _ _ | apply below_drewN | refine Below.alloc ?_ (by simp; try omega) _ | refine Below.setCell ?_ (by simp; try omega) _))
set_option maxHeartbeats 400000 in
theorem refEnter_3 (w : World) :
    Calls Tryz.prog 45 #[.int .i64 3] w fun e w' => e = .returned (.agg #[.int .i64 0, .int .i64 0, .int .i64 0, .int .i64 0, .int .i64 0, .int .i64 0, .int .i64 0]) ∧ Below w.heap.size w w' := by
  have h : withinB 3 3 = true := by decide
  go_enter Tryz.func45, Tryz.ntmps45
  go_wp2_with (go_at_call 70; refine (refDepth_any _ _).mono ?_; rintro e w' ⟨rfl, rfl⟩)
  refine bodyPost_ret (v := .agg #[.int .i64 0, .int .i64 0, .int .i64 0, .int .i64 0, .int .i64 0, .int .i64 0, .int .i64 0]) (by simp [results, Tryz.results45, go_sem]) rfl ⟨rfl, ?_⟩
  (repeat (first | exact Below.refl _ _ | apply below_drewN | refine Below.alloc ?_ (by simp; try omega) _ | refine Below.setCell ?_ (by simp; try omega) _))
set_option maxHeartbeats 400000 in
theorem refLeave_0 (w : World) :
    Calls Tryz.prog 46 #[.int .i64 0] w fun e w' => e = .returned (.agg #[.int .i64 0, .int .i64 0, .int .i64 0, .int .i64 0, .int .i64 0, .int .i64 0, .int .i64 0]) ∧ Below w.heap.size w w' := by
  have h : withinB 0 3 = true := by decide
  go_enter Tryz.func46, Tryz.ntmps46
  go_wp2_with (go_at_call 70; refine (refDepth_any _ _).mono ?_; rintro e w' ⟨rfl, rfl⟩)
  refine bodyPost_ret (v := .agg #[.int .i64 0, .int .i64 0, .int .i64 0, .int .i64 0, .int .i64 0, .int .i64 0, .int .i64 0]) (by simp [results, Tryz.results46, go_sem]) rfl ⟨rfl, ?_⟩
  (repeat (first | exact Below.refl _ _ | apply below_drewN | refine Below.alloc ?_ (by simp; try omega) _ | refine Below.setCell ?_ (by simp; try omega) _))
set_option maxHeartbeats 400000 in
theorem refLeave_1 (w : World) :
    Calls Tryz.prog 46 #[.int .i64 1] w fun e w' => e = .returned (.agg #[.int .i64 1, .int .i64 0, .int .i64 0, .int .i64 0, .int .i64 0, .int .i64 0, .int .i64 0]) ∧ Below w.heap.size w w' := by
  have h : withinB 1 3 = true := by decide
  go_enter Tryz.func46, Tryz.ntmps46
  go_wp2_with (go_at_call 70; refine (refDepth_any _ _).mono ?_; rintro e w' ⟨rfl, rfl⟩)
  refine bodyPost_ret (v := .agg #[.int .i64 1, .int .i64 0, .int .i64 0, .int .i64 0, .int .i64 0, .int .i64 0, .int .i64 0]) (by simp [results, Tryz.results46, go_sem]) rfl ⟨rfl, ?_⟩
  (repeat (first | exact Below.refl _ _ | apply below_drewN | refine Below.alloc ?_ (by simp; try omega) _ | refine Below.setCell ?_ (by simp; try omega) _))
set_option maxHeartbeats 400000 in
theorem refLeave_2 (w : World) :
    Calls Tryz.prog 46 #[.int .i64 2] w fun e w' => e = .returned (.agg #[.int .i64 2, .int .i64 1, .int .i64 1, .int .i64 0, .int .i64 0, .int .i64 0, .int .i64 0]) ∧ Below w.heap.size w w' := by
  have h : withinB 2 3 = true := by decide
  go_enter Tryz.func46, Tryz.ntmps46
  go_wp2_with (go_at_call 70; refine (refDepth_any _ _).mono ?_; rintro e w' ⟨rfl, rfl⟩)
  refine bodyPost_ret (v := .agg #[.int .i64 2, .int .i64 1, .int .i64 1, .int .i64 0, .int .i64 0, .int .i64 0, .int .i64 0]) (by simp [results, Tryz.results46, go_sem]) rfl ⟨rfl, ?_⟩
  (repeat (first | exact Below.refl _ _ | apply below_drewN | refine Below.alloc ?_ (by simp; try omega) _ | refine Below.setCell ?_ (by simp; try omega) _))
set_option maxHeartbeats 400000 in
theorem refLeave_3 (w : World) :
    Calls Tryz.prog 46 #[.int .i64 3] w fun e w' => e = .returned (.agg #[.int .i64 3, .int .i64 2, .int .i64 2, .int .i64 0, .int .i64 0, .int .i64 0, .int .i64 0]) ∧ Below w.heap.size w w' := by
  have h : withinB 3 3 = true := by decide
  go_enter Tryz.func46, Tryz.ntmps46
  go_wp2_with (go_at_call 70; refine (refDepth_any _ _).mono ?_; rintro e w' ⟨rfl, rfl⟩)
  refine bodyPost_ret (v := .agg #[.int .i64 3, .int .i64 2, .int .i64 2, .int .i64 0, .int .i64 0, .int .i64 0, .int .i64 0]) (by simp [results, Tryz.results46, go_sem]) rfl ⟨rfl, ?_⟩
  (repeat (first | exact Below.refl _ _ | apply below_drewN | refine Below.alloc ?_ (by simp; try omega) _ | refine Below.setCell ?_ (by simp; try omega) _))
set_option maxHeartbeats 400000 in
theorem feed_no (d : Int) (w : World) (h : withinB d 3 = false) :
    Calls Tryz.prog 101 #[.int .i64 d] w fun e w' => e = .returned (.agg #[.int .i64 0, .int .i64 0, .int .i64 0, .int .i64 0, .int .i64 0, .int .i64 0, .int .i64 0]) ∧ Below w.heap.size w w' := by
  go_enter Tryz.func101, Tryz.ntmps101
  go_wp2_with fail
  refine (same_no d _ h).mono ?_
  rintro e w' ⟨rfl, hb⟩
  have hs : w.heap.size < w'.heap.size := by have := hb.size; simp at this; omega
  obtain ⟨hc, hf⟩ := bcell hb
  go_wp2
  refine bodyPost_ret (v := .agg #[.int .i64 0, .int .i64 0, .int .i64 0, .int .i64 0, .int .i64 0, .int .i64 0, .int .i64 0]) (by simp [results, Tryz.results101, go_sem, hc, hs]) rfl ⟨rfl, ?_⟩
  refine Below.alloc ?_ (by simp; omega) _
  iterate 7 refine Below.setCell ?_ (by simp) _
  exact Grow.trans' (Grow.alloc' _ _) hb
set_option maxHeartbeats 400000 in
theorem refFeed_no (d : Int) (w : World) (h : withinB d 3 = false) :
    Calls Tryz.prog 47 #[.int .i64 d] w fun e w' => e = .returned (.agg #[.int .i64 0, .int .i64 0, .int .i64 0, .int .i64 0, .int .i64 0, .int .i64 0, .int .i64 0]) ∧ Below w.heap.size w w' := by
  go_enter Tryz.func47, Tryz.ntmps47
  go_wp2_with fail
  refine (refSame_no d _ h).mono ?_
  rintro e w' ⟨rfl, hb⟩
  have hs : w.heap.size < w'.heap.size := by have := hb.size; simp at this; omega
  obtain ⟨hc, hf⟩ := bcell hb
  go_wp2
  refine bodyPost_ret (v := .agg #[.int .i64 0, .int .i64 0, .int .i64 0, .int .i64 0, .int .i64 0, .int .i64 0, .int .i64 0]) (by simp [results, Tryz.results47, go_sem, hc, hs]) rfl ⟨rfl, ?_⟩
  refine Below.alloc ?_ (by simp; omega) _
  iterate 7 refine Below.setCell ?_ (by simp) _
  exact Grow.trans' (Grow.alloc' _ _) hb
set_option maxHeartbeats 400000 in
theorem feed_0 (w : World) :
    Calls Tryz.prog 101 #[.int .i64 0] w fun e w' => e = .returned (.agg #[.int .i64 0, .int .i64 0, .int .i64 0, .int .i64 0, .int .i64 0, .int .i64 0, .int .i64 0]) ∧ Below w.heap.size w w' := by
  go_enter Tryz.func101, Tryz.ntmps101
  go_wp2_with fail
  refine (same_0 _).mono ?_
  rintro e w' ⟨rfl, hb⟩
  have hs : w.heap.size < w'.heap.size := by have := hb.size; simp at this; omega
  obtain ⟨hc, hf⟩ := bcell hb
  go_wp2
  refine bodyPost_ret (v := .agg #[.int .i64 0, .int .i64 0, .int .i64 0, .int .i64 0, .int .i64 0, .int .i64 0, .int .i64 0]) (by simp [results, Tryz.results101, go_sem, hc, hs]) rfl ⟨rfl, ?_⟩
  refine Below.alloc ?_ (by simp; omega) _
  iterate 7 refine Below.setCell ?_ (by simp) _
  exact Grow.trans' (Grow.alloc' _ _) hb
set_option maxHeartbeats 400000 in
theorem feed_1 (w : World) :
    Calls Tryz.prog 101 #[.int .i64 1] w fun e w' => e = .returned (.agg #[.int .i64 1, .int .i64 1, .int .i64 1, .int .i64 0, .int .i64 1, .int .i64 0, .int .i64 0]) ∧ Below w.heap.size w w' := by
  go_enter Tryz.func101, Tryz.ntmps101
  go_wp2_with fail
  refine (same_1 _).mono ?_
  rintro e w' ⟨rfl, hb⟩
  have hs : w.heap.size < w'.heap.size := by have := hb.size; simp at this; omega
  obtain ⟨hc, hf⟩ := bcell hb
  go_wp2
  refine bodyPost_ret (v := .agg #[.int .i64 1, .int .i64 1, .int .i64 1, .int .i64 0, .int .i64 1, .int .i64 0, .int .i64 0]) (by simp [results, Tryz.results101, go_sem, hc, hs]) rfl ⟨rfl, ?_⟩
  refine Below.alloc ?_ (by simp; omega) _
  iterate 7 refine Below.setCell ?_ (by simp) _
  exact Grow.trans' (Grow.alloc' _ _) hb
set_option maxHeartbeats 400000 in
theorem feed_2 (w : World) :
    Calls Tryz.prog 101 #[.int .i64 2] w fun e w' => e = .returned (.agg #[.int .i64 2, .int .i64 2, .int .i64 2, .int .i64 0, .int .i64 0, .int .i64 1, .int .i64 0]) ∧ Below w.heap.size w w' := by
  go_enter Tryz.func101, Tryz.ntmps101
  go_wp2_with fail
  refine (same_2 _).mono ?_
  rintro e w' ⟨rfl, hb⟩
  have hs : w.heap.size < w'.heap.size := by have := hb.size; simp at this; omega
  obtain ⟨hc, hf⟩ := bcell hb
  go_wp2
  refine bodyPost_ret (v := .agg #[.int .i64 2, .int .i64 2, .int .i64 2, .int .i64 0, .int .i64 0, .int .i64 1, .int .i64 0]) (by simp [results, Tryz.results101, go_sem, hc, hs]) rfl ⟨rfl, ?_⟩
  refine Below.alloc ?_ (by simp; omega) _
  iterate 7 refine Below.setCell ?_ (by simp) _
  exact Grow.trans' (Grow.alloc' _ _) hb
set_option maxHeartbeats 400000 in
theorem feed_3 (w : World) :
    Calls Tryz.prog 101 #[.int .i64 3] w fun e w' => e = .returned (.agg #[.int .i64 3, .int .i64 3, .int .i64 3, .int .i64 0, .int .i64 0, .int .i64 0, .int .i64 1]) ∧ Below w.heap.size w w' := by
  go_enter Tryz.func101, Tryz.ntmps101
  go_wp2_with fail
  refine (same_3 _).mono ?_
  rintro e w' ⟨rfl, hb⟩
  have hs : w.heap.size < w'.heap.size := by have := hb.size; simp at this; omega
  obtain ⟨hc, hf⟩ := bcell hb
  go_wp2
  refine bodyPost_ret (v := .agg #[.int .i64 3, .int .i64 3, .int .i64 3, .int .i64 0, .int .i64 0, .int .i64 0, .int .i64 1]) (by simp [results, Tryz.results101, go_sem, hc, hs]) rfl ⟨rfl, ?_⟩
  refine Below.alloc ?_ (by simp; omega) _
  iterate 7 refine Below.setCell ?_ (by simp) _
  exact Grow.trans' (Grow.alloc' _ _) hb
set_option maxHeartbeats 400000 in
theorem refFeed_0 (w : World) :
    Calls Tryz.prog 47 #[.int .i64 0] w fun e w' => e = .returned (.agg #[.int .i64 0, .int .i64 0, .int .i64 0, .int .i64 0, .int .i64 0, .int .i64 0, .int .i64 0]) ∧ Below w.heap.size w w' := by
  go_enter Tryz.func47, Tryz.ntmps47
  go_wp2_with fail
  refine (refSame_0 _).mono ?_
  rintro e w' ⟨rfl, hb⟩
  have hs : w.heap.size < w'.heap.size := by have := hb.size; simp at this; omega
  obtain ⟨hc, hf⟩ := bcell hb
  go_wp2
  refine bodyPost_ret (v := .agg #[.int .i64 0, .int .i64 0, .int .i64 0, .int .i64 0, .int .i64 0, .int .i64 0, .int .i64 0]) (by simp [results, Tryz.results47, go_sem, hc, hs]) rfl ⟨rfl, ?_⟩
  refine Below.alloc ?_ (by simp; omega) _
  iterate 7 refine Below.setCell ?_ (by simp) _
  exact Grow.trans' (Grow.alloc' _ _) hb
set_option maxHeartbeats 400000 in
theorem refFeed_1 (w : World) :
    Calls Tryz.prog 47 #[.int .i64 1] w fun e w' => e = .returned (.agg #[.int .i64 1, .int .i64 1, .int .i64 1, .int .i64 0, .int .i64 1, .int .i64 0, .int .i64 0]) ∧ Below w.heap.size w w' := by
  go_enter Tryz.func47, Tryz.ntmps47
  go_wp2_with fail
  refine (refSame_1 _).mono ?_
  rintro e w' ⟨rfl, hb⟩
  have hs : w.heap.size < w'.heap.size := by have := hb.size; simp at this; omega
  obtain ⟨hc, hf⟩ := bcell hb
  go_wp2
  refine bodyPost_ret (v := .agg #[.int .i64 1, .int .i64 1, .int .i64 1, .int .i64 0, .int .i64 1, .int .i64 0, .int .i64 0]) (by simp [results, Tryz.results47, go_sem, hc, hs]) rfl ⟨rfl, ?_⟩
  refine Below.alloc ?_ (by simp; omega) _
  iterate 7 refine Below.setCell ?_ (by simp) _
  exact Grow.trans' (Grow.alloc' _ _) hb
set_option maxHeartbeats 400000 in
theorem refFeed_2 (w : World) :
    Calls Tryz.prog 47 #[.int .i64 2] w fun e w' => e = .returned (.agg #[.int .i64 2, .int .i64 2, .int .i64 2, .int .i64 0, .int .i64 0, .int .i64 1, .int .i64 0]) ∧ Below w.heap.size w w' := by
  go_enter Tryz.func47, Tryz.ntmps47
  go_wp2_with fail
  refine (refSame_2 _).mono ?_
  rintro e w' ⟨rfl, hb⟩
  have hs : w.heap.size < w'.heap.size := by have := hb.size; simp at this; omega
  obtain ⟨hc, hf⟩ := bcell hb
  go_wp2
  refine bodyPost_ret (v := .agg #[.int .i64 2, .int .i64 2, .int .i64 2, .int .i64 0, .int .i64 0, .int .i64 1, .int .i64 0]) (by simp [results, Tryz.results47, go_sem, hc, hs]) rfl ⟨rfl, ?_⟩
  refine Below.alloc ?_ (by simp; omega) _
  iterate 7 refine Below.setCell ?_ (by simp) _
  exact Grow.trans' (Grow.alloc' _ _) hb
set_option maxHeartbeats 400000 in
theorem refFeed_3 (w : World) :
    Calls Tryz.prog 47 #[.int .i64 3] w fun e w' => e = .returned (.agg #[.int .i64 3, .int .i64 3, .int .i64 3, .int .i64 0, .int .i64 0, .int .i64 0, .int .i64 1]) ∧ Below w.heap.size w w' := by
  go_enter Tryz.func47, Tryz.ntmps47
  go_wp2_with fail
  refine (refSame_3 _).mono ?_
  rintro e w' ⟨rfl, hb⟩
  have hs : w.heap.size < w'.heap.size := by have := hb.size; simp at this; omega
  obtain ⟨hc, hf⟩ := bcell hb
  go_wp2
  refine bodyPost_ret (v := .agg #[.int .i64 3, .int .i64 3, .int .i64 3, .int .i64 0, .int .i64 0, .int .i64 0, .int .i64 1]) (by simp [results, Tryz.results47, go_sem, hc, hs]) rfl ⟨rfl, ?_⟩
  refine Below.alloc ?_ (by simp; omega) _
  iterate 7 refine Below.setCell ?_ (by simp) _
  exact Grow.trans' (Grow.alloc' _ _) hb

theorem same_any (d : Int) (w : World) :
    Calls Tryz.prog 33 #[.int .i64 d] w fun e w' => e = .returned (.agg #[.int .i64 (sameS d).f, .int .i64 (sameS d).t, .int .i64 (sameS d).k, .int .i64 (sameS d).ep, .int .i64 (sameS d).x, .int .i64 (sameS d).y, .int .i64 (sameS d).z]) ∧ Below w.heap.size w w' := by
  cases h : withinB d 3
  · have e : sameS d = ⟨0, 0, 0, 0, 0, 0, 0⟩ := by
      have : ¬ depthB d = true := by
        have h' : withinB d 3 = depthB d := rfl
        rw [← h', h]; simp
      unfold sameS
      simp [this]
    rw [e]; exact same_no d w h
  · have := (within_iff d 3).1 h
    have : d = 0 ∨ d = 1 ∨ d = 2 ∨ d = 3 := by omega
    rcases this with rfl | rfl | rfl | rfl
    · exact same_0 w
    · exact same_1 w
    · exact same_2 w
    · exact same_3 w
theorem enter_any (d : Int) (w : World) :
    Calls Tryz.prog 99 #[.int .i64 d] w fun e w' => e = .returned (.agg #[.int .i64 (enterS d).f, .int .i64 (enterS d).t, .int .i64 (enterS d).k, .int .i64 (enterS d).ep, .int .i64 (enterS d).x, .int .i64 (enterS d).y, .int .i64 (enterS d).z]) ∧ Below w.heap.size w w' := by
  cases h : withinB d 3
  · have e : enterS d = ⟨0, 0, 0, 0, 0, 0, 0⟩ := by
      have : ¬ depthB d = true := by
        have h' : withinB d 3 = depthB d := rfl
        rw [← h', h]; simp
      unfold enterS
      simp [this]
    rw [e]; exact enter_no d w h
  · have := (within_iff d 3).1 h
    have : d = 0 ∨ d = 1 ∨ d = 2 ∨ d = 3 := by omega
    rcases this with rfl | rfl | rfl | rfl
    · exact enter_0 w
    · exact enter_1 w
    · exact enter_2 w
    · exact enter_3 w
theorem leave_any (d : Int) (w : World) :
    Calls Tryz.prog 100 #[.int .i64 d] w fun e w' => e = .returned (.agg #[.int .i64 (leaveS d).f, .int .i64 (leaveS d).t, .int .i64 (leaveS d).k, .int .i64 (leaveS d).ep, .int .i64 (leaveS d).x, .int .i64 (leaveS d).y, .int .i64 (leaveS d).z]) ∧ Below w.heap.size w w' := by
  cases h : withinB d 3
  · have e : leaveS d = ⟨0, 0, 0, 0, 0, 0, 0⟩ := by
      have : ¬ depthB d = true := by
        have h' : withinB d 3 = depthB d := rfl
        rw [← h', h]; simp
      unfold leaveS
      simp [this]
    rw [e]; exact leave_no d w h
  · have := (within_iff d 3).1 h
    have : d = 0 ∨ d = 1 ∨ d = 2 ∨ d = 3 := by omega
    rcases this with rfl | rfl | rfl | rfl
    · exact leave_0 w
    · exact leave_1 w
    · exact leave_2 w
    · exact leave_3 w
theorem feed_any (d : Int) (w : World) :
    Calls Tryz.prog 101 #[.int .i64 d] w fun e w' => e = .returned (.agg #[.int .i64 (feedS d).f, .int .i64 (feedS d).t, .int .i64 (feedS d).k, .int .i64 (feedS d).ep, .int .i64 (feedS d).x, .int .i64 (feedS d).y, .int .i64 (feedS d).z]) ∧ Below w.heap.size w w' := by
  cases h : withinB d 3
  · have e : feedS d = ⟨0, 0, 0, 0, 0, 0, 0⟩ := by
      have : ¬ depthB d = true := by
        have h' : withinB d 3 = depthB d := rfl
        rw [← h', h]; simp
      unfold feedS
      simp [this]
    rw [e]; exact feed_no d w h
  · have := (within_iff d 3).1 h
    have : d = 0 ∨ d = 1 ∨ d = 2 ∨ d = 3 := by omega
    rcases this with rfl | rfl | rfl | rfl
    · exact feed_0 w
    · exact feed_1 w
    · exact feed_2 w
    · exact feed_3 w
theorem refSame_any (d : Int) (w : World) :
    Calls Tryz.prog 48 #[.int .i64 d] w fun e w' => e = .returned (.agg #[.int .i64 (sameS d).f, .int .i64 (sameS d).t, .int .i64 (sameS d).k, .int .i64 (sameS d).ep, .int .i64 (sameS d).x, .int .i64 (sameS d).y, .int .i64 (sameS d).z]) ∧ Below w.heap.size w w' := by
  cases h : withinB d 3
  · have e : sameS d = ⟨0, 0, 0, 0, 0, 0, 0⟩ := by
      have : ¬ depthB d = true := by
        have h' : withinB d 3 = depthB d := rfl
        rw [← h', h]; simp
      unfold sameS
      simp [this]
    rw [e]; exact refSame_no d w h
  · have := (within_iff d 3).1 h
    have : d = 0 ∨ d = 1 ∨ d = 2 ∨ d = 3 := by omega
    rcases this with rfl | rfl | rfl | rfl
    · exact refSame_0 w
    · exact refSame_1 w
    · exact refSame_2 w
    · exact refSame_3 w
theorem refEnter_any (d : Int) (w : World) :
    Calls Tryz.prog 45 #[.int .i64 d] w fun e w' => e = .returned (.agg #[.int .i64 (enterS d).f, .int .i64 (enterS d).t, .int .i64 (enterS d).k, .int .i64 (enterS d).ep, .int .i64 (enterS d).x, .int .i64 (enterS d).y, .int .i64 (enterS d).z]) ∧ Below w.heap.size w w' := by
  cases h : withinB d 3
  · have e : enterS d = ⟨0, 0, 0, 0, 0, 0, 0⟩ := by
      have : ¬ depthB d = true := by
        have h' : withinB d 3 = depthB d := rfl
        rw [← h', h]; simp
      unfold enterS
      simp [this]
    rw [e]; exact refEnter_no d w h
  · have := (within_iff d 3).1 h
    have : d = 0 ∨ d = 1 ∨ d = 2 ∨ d = 3 := by omega
    rcases this with rfl | rfl | rfl | rfl
    · exact refEnter_0 w
    · exact refEnter_1 w
    · exact refEnter_2 w
    · exact refEnter_3 w
theorem refLeave_any (d : Int) (w : World) :
    Calls Tryz.prog 46 #[.int .i64 d] w fun e w' => e = .returned (.agg #[.int .i64 (leaveS d).f, .int .i64 (leaveS d).t, .int .i64 (leaveS d).k, .int .i64 (leaveS d).ep, .int .i64 (leaveS d).x, .int .i64 (leaveS d).y, .int .i64 (leaveS d).z]) ∧ Below w.heap.size w w' := by
  cases h : withinB d 3
  · have e : leaveS d = ⟨0, 0, 0, 0, 0, 0, 0⟩ := by
      have : ¬ depthB d = true := by
        have h' : withinB d 3 = depthB d := rfl
        rw [← h', h]; simp
      unfold leaveS
      simp [this]
    rw [e]; exact refLeave_no d w h
  · have := (within_iff d 3).1 h
    have : d = 0 ∨ d = 1 ∨ d = 2 ∨ d = 3 := by omega
    rcases this with rfl | rfl | rfl | rfl
    · exact refLeave_0 w
    · exact refLeave_1 w
    · exact refLeave_2 w
    · exact refLeave_3 w
theorem refFeed_any (d : Int) (w : World) :
    Calls Tryz.prog 47 #[.int .i64 d] w fun e w' => e = .returned (.agg #[.int .i64 (feedS d).f, .int .i64 (feedS d).t, .int .i64 (feedS d).k, .int .i64 (feedS d).ep, .int .i64 (feedS d).x, .int .i64 (feedS d).y, .int .i64 (feedS d).z]) ∧ Below w.heap.size w w' := by
  cases h : withinB d 3
  · have e : feedS d = ⟨0, 0, 0, 0, 0, 0, 0⟩ := by
      have : ¬ depthB d = true := by
        have h' : withinB d 3 = depthB d := rfl
        rw [← h', h]; simp
      unfold feedS
      simp [this]
    rw [e]; exact refFeed_no d w h
  · have := (within_iff d 3).1 h
    have : d = 0 ∨ d = 1 ∨ d = 2 ∨ d = 3 := by omega
    rcases this with rfl | rfl | rfl | rfl
    · exact refFeed_0 w
    · exact refFeed_1 w
    · exact refFeed_2 w
    · exact refFeed_3 w

end Go.Proofs.YtehianjfpmbfpaaGreat
