/-
  What summary.added does to the world: what a summary makes of three counters, and what was there stays as it was.
-/
import Derived.Test.YtehianjfpmbfpaaGreatSMy
namespace Go.Proofs.YtehianjfpmbfpaaGreat
open Go.RowKit
set_option linter.unusedVariables false

set_option maxHeartbeats 1000000 in
theorem added_0_0 (l0 l1 l2 f ep x y z : Int) (w : World) (h0 : IntKind.i64.wrap (l0 + x) = l0 + x) (h1 : IntKind.i64.wrap (l1 + y) = l1 + y) (h2 : IntKind.i64.wrap (l2 + z) = l2 + z) :
    Calls Tryz.prog 94 #[.agg #[.int .i64 l0, .int .i64 l1, .int .i64 l2], .agg #[.int .i64 f, .int .i64 0, .int .i64 0, .int .i64 ep, .int .i64 x, .int .i64 y, .int .i64 z]] w fun e w' => e = .returned (.agg #[.int .i64 (0), .int .i64 (0), .int .i64 (0)]) ∧ Below w.heap.size w w' := by
  go_enter Tryz.func94, Tryz.ntmps94
  go_wp2
  repeat any_goals (first | (refine wp_loop_rounds 4 ?_; rw [rounds_succ]; go_wp2) | (rw [rounds_succ]; go_wp2) | (go_region; go_wp2))
  refine bodyPost_ret (v := (.agg #[.int .i64 (0), .int .i64 (0), .int .i64 (0)])) (by simp [results, Tryz.results117, go_sem]) rfl ?_
  dsimp only
  go_wp2
  refine bodyPost_ret (v := (.agg #[.int .i64 (0), .int .i64 (0), .int .i64 (0)])) (by simp [results, Tryz.results94, go_sem]) rfl ⟨rfl, ?_⟩
  (repeat (first | exact Below.refl _ _ | apply below_drewN | refine Below.alloc ?_ (by simp; try omega) _ | refine Below.setCell ?_ (by simp; try omega) _))
set_option maxHeartbeats 1000000 in
theorem added_1_0 (l0 l1 l2 f ep x y z : Int) (w : World) (h0 : IntKind.i64.wrap (l0 + x) = l0 + x) (h1 : IntKind.i64.wrap (l1 + y) = l1 + y) (h2 : IntKind.i64.wrap (l2 + z) = l2 + z) :
    Calls Tryz.prog 94 #[.agg #[.int .i64 l0, .int .i64 l1, .int .i64 l2], .agg #[.int .i64 f, .int .i64 1, .int .i64 0, .int .i64 ep, .int .i64 x, .int .i64 y, .int .i64 z]] w fun e w' => e = .returned (.agg #[.int .i64 (x), .int .i64 (0), .int .i64 (0)]) ∧ Below w.heap.size w w' := by
  go_enter Tryz.func94, Tryz.ntmps94
  go_wp2
  repeat any_goals (first | (refine wp_loop_rounds 4 ?_; rw [rounds_succ]; go_wp2) | (rw [rounds_succ]; go_wp2) | (go_region; go_wp2))
  refine bodyPost_ret (v := (.agg #[.int .i64 (x), .int .i64 (0), .int .i64 (0)])) (by simp [results, Tryz.results117, go_sem]) rfl ?_
  dsimp only
  go_wp2
  refine bodyPost_ret (v := (.agg #[.int .i64 (x), .int .i64 (0), .int .i64 (0)])) (by simp [results, Tryz.results94, go_sem]) rfl ⟨rfl, ?_⟩
  (repeat (first | exact Below.refl _ _ | apply below_drewN | refine Below.alloc ?_ (by simp; try omega) _ | refine Below.setCell ?_ (by simp; try omega) _))
set_option maxHeartbeats 1000000 in
theorem added_1_1 (l0 l1 l2 f ep x y z : Int) (w : World) (h0 : IntKind.i64.wrap (l0 + x) = l0 + x) (h1 : IntKind.i64.wrap (l1 + y) = l1 + y) (h2 : IntKind.i64.wrap (l2 + z) = l2 + z) :
    Calls Tryz.prog 94 #[.agg #[.int .i64 l0, .int .i64 l1, .int .i64 l2], .agg #[.int .i64 f, .int .i64 1, .int .i64 1, .int .i64 ep, .int .i64 x, .int .i64 y, .int .i64 z]] w fun e w' => e = .returned (.agg #[.int .i64 (l0 + x), .int .i64 (0), .int .i64 (0)]) ∧ Below w.heap.size w w' := by
  go_enter Tryz.func94, Tryz.ntmps94
  go_wp2
  repeat any_goals (first | (refine wp_loop_rounds 4 ?_; rw [rounds_succ]; go_wp2) | (rw [rounds_succ]; go_wp2) | (go_region; go_wp2))
  refine bodyPost_ret (v := (.agg #[.int .i64 (l0 + x), .int .i64 (0), .int .i64 (0)])) (by simp [results, Tryz.results117, go_sem]) rfl ?_
  dsimp only
  go_wp2
  refine bodyPost_ret (v := (.agg #[.int .i64 (l0 + x), .int .i64 (0), .int .i64 (0)])) (by simp [results, Tryz.results94, go_sem]) rfl ⟨rfl, ?_⟩
  (repeat (first | exact Below.refl _ _ | apply below_drewN | refine Below.alloc ?_ (by simp; try omega) _ | refine Below.setCell ?_ (by simp; try omega) _))
set_option maxHeartbeats 1000000 in
theorem added_2_0 (l0 l1 l2 f ep x y z : Int) (w : World) (h0 : IntKind.i64.wrap (l0 + x) = l0 + x) (h1 : IntKind.i64.wrap (l1 + y) = l1 + y) (h2 : IntKind.i64.wrap (l2 + z) = l2 + z) :
    Calls Tryz.prog 94 #[.agg #[.int .i64 l0, .int .i64 l1, .int .i64 l2], .agg #[.int .i64 f, .int .i64 2, .int .i64 0, .int .i64 ep, .int .i64 x, .int .i64 y, .int .i64 z]] w fun e w' => e = .returned (.agg #[.int .i64 (x), .int .i64 (y), .int .i64 (0)]) ∧ Below w.heap.size w w' := by
  go_enter Tryz.func94, Tryz.ntmps94
  go_wp2
  repeat any_goals (first | (refine wp_loop_rounds 4 ?_; rw [rounds_succ]; go_wp2) | (rw [rounds_succ]; go_wp2) | (go_region; go_wp2))
  refine bodyPost_ret (v := (.agg #[.int .i64 (x), .int .i64 (y), .int .i64 (0)])) (by simp [results, Tryz.results117, go_sem]) rfl ?_
  dsimp only
  go_wp2
  refine bodyPost_ret (v := (.agg #[.int .i64 (x), .int .i64 (y), .int .i64 (0)])) (by simp [results, Tryz.results94, go_sem]) rfl ⟨rfl, ?_⟩
  (repeat (first | exact Below.refl _ _ | apply below_drewN | refine Below.alloc ?_ (by simp; try omega) _ | refine Below.setCell ?_ (by simp; try omega) _))
set_option maxHeartbeats 1000000 in
theorem added_2_1 (l0 l1 l2 f ep x y z : Int) (w : World) (h0 : IntKind.i64.wrap (l0 + x) = l0 + x) (h1 : IntKind.i64.wrap (l1 + y) = l1 + y) (h2 : IntKind.i64.wrap (l2 + z) = l2 + z) :
    Calls Tryz.prog 94 #[.agg #[.int .i64 l0, .int .i64 l1, .int .i64 l2], .agg #[.int .i64 f, .int .i64 2, .int .i64 1, .int .i64 ep, .int .i64 x, .int .i64 y, .int .i64 z]] w fun e w' => e = .returned (.agg #[.int .i64 (l0 + x), .int .i64 (y), .int .i64 (0)]) ∧ Below w.heap.size w w' := by
  go_enter Tryz.func94, Tryz.ntmps94
  go_wp2
  repeat any_goals (first | (refine wp_loop_rounds 4 ?_; rw [rounds_succ]; go_wp2) | (rw [rounds_succ]; go_wp2) | (go_region; go_wp2))
  refine bodyPost_ret (v := (.agg #[.int .i64 (l0 + x), .int .i64 (y), .int .i64 (0)])) (by simp [results, Tryz.results117, go_sem]) rfl ?_
  dsimp only
  go_wp2
  refine bodyPost_ret (v := (.agg #[.int .i64 (l0 + x), .int .i64 (y), .int .i64 (0)])) (by simp [results, Tryz.results94, go_sem]) rfl ⟨rfl, ?_⟩
  (repeat (first | exact Below.refl _ _ | apply below_drewN | refine Below.alloc ?_ (by simp; try omega) _ | refine Below.setCell ?_ (by simp; try omega) _))
set_option maxHeartbeats 1000000 in
theorem added_2_2 (l0 l1 l2 f ep x y z : Int) (w : World) (h0 : IntKind.i64.wrap (l0 + x) = l0 + x) (h1 : IntKind.i64.wrap (l1 + y) = l1 + y) (h2 : IntKind.i64.wrap (l2 + z) = l2 + z) :
    Calls Tryz.prog 94 #[.agg #[.int .i64 l0, .int .i64 l1, .int .i64 l2], .agg #[.int .i64 f, .int .i64 2, .int .i64 2, .int .i64 ep, .int .i64 x, .int .i64 y, .int .i64 z]] w fun e w' => e = .returned (.agg #[.int .i64 (l0 + x), .int .i64 (l1 + y), .int .i64 (0)]) ∧ Below w.heap.size w w' := by
  go_enter Tryz.func94, Tryz.ntmps94
  go_wp2
  repeat any_goals (first | (refine wp_loop_rounds 4 ?_; rw [rounds_succ]; go_wp2) | (rw [rounds_succ]; go_wp2) | (go_region; go_wp2))
  refine bodyPost_ret (v := (.agg #[.int .i64 (l0 + x), .int .i64 (l1 + y), .int .i64 (0)])) (by simp [results, Tryz.results117, go_sem]) rfl ?_
  dsimp only
  go_wp2
  refine bodyPost_ret (v := (.agg #[.int .i64 (l0 + x), .int .i64 (l1 + y), .int .i64 (0)])) (by simp [results, Tryz.results94, go_sem]) rfl ⟨rfl, ?_⟩
  (repeat (first | exact Below.refl _ _ | apply below_drewN | refine Below.alloc ?_ (by simp; try omega) _ | refine Below.setCell ?_ (by simp; try omega) _))
set_option maxHeartbeats 1000000 in
theorem added_3_0 (l0 l1 l2 f ep x y z : Int) (w : World) (h0 : IntKind.i64.wrap (l0 + x) = l0 + x) (h1 : IntKind.i64.wrap (l1 + y) = l1 + y) (h2 : IntKind.i64.wrap (l2 + z) = l2 + z) :
    Calls Tryz.prog 94 #[.agg #[.int .i64 l0, .int .i64 l1, .int .i64 l2], .agg #[.int .i64 f, .int .i64 3, .int .i64 0, .int .i64 ep, .int .i64 x, .int .i64 y, .int .i64 z]] w fun e w' => e = .returned (.agg #[.int .i64 (x), .int .i64 (y), .int .i64 (z)]) ∧ Below w.heap.size w w' := by
  go_enter Tryz.func94, Tryz.ntmps94
  go_wp2
  repeat any_goals (first | (refine wp_loop_rounds 4 ?_; rw [rounds_succ]; go_wp2) | (rw [rounds_succ]; go_wp2) | (go_region; go_wp2))
  refine bodyPost_ret (v := (.agg #[.int .i64 (x), .int .i64 (y), .int .i64 (z)])) (by simp [results, Tryz.results117, go_sem]) rfl ?_
  dsimp only
  go_wp2
  refine bodyPost_ret (v := (.agg #[.int .i64 (x), .int .i64 (y), .int .i64 (z)])) (by simp [results, Tryz.results94, go_sem]) rfl ⟨rfl, ?_⟩
  (repeat (first | exact Below.refl _ _ | apply below_drewN | refine Below.alloc ?_ (by simp; try omega) _ | refine Below.setCell ?_ (by simp; try omega) _))
set_option maxHeartbeats 1000000 in
theorem added_3_1 (l0 l1 l2 f ep x y z : Int) (w : World) (h0 : IntKind.i64.wrap (l0 + x) = l0 + x) (h1 : IntKind.i64.wrap (l1 + y) = l1 + y) (h2 : IntKind.i64.wrap (l2 + z) = l2 + z) :
    Calls Tryz.prog 94 #[.agg #[.int .i64 l0, .int .i64 l1, .int .i64 l2], .agg #[.int .i64 f, .int .i64 3, .int .i64 1, .int .i64 ep, .int .i64 x, .int .i64 y, .int .i64 z]] w fun e w' => e = .returned (.agg #[.int .i64 (l0 + x), .int .i64 (y), .int .i64 (z)]) ∧ Below w.heap.size w w' := by
  go_enter Tryz.func94, Tryz.ntmps94
  go_wp2
  repeat any_goals (first | (refine wp_loop_rounds 4 ?_; rw [rounds_succ]; go_wp2) | (rw [rounds_succ]; go_wp2) | (go_region; go_wp2))
  refine bodyPost_ret (v := (.agg #[.int .i64 (l0 + x), .int .i64 (y), .int .i64 (z)])) (by simp [results, Tryz.results117, go_sem]) rfl ?_
  dsimp only
  go_wp2
  refine bodyPost_ret (v := (.agg #[.int .i64 (l0 + x), .int .i64 (y), .int .i64 (z)])) (by simp [results, Tryz.results94, go_sem]) rfl ⟨rfl, ?_⟩
  (repeat (first | exact Below.refl _ _ | apply below_drewN | refine Below.alloc ?_ (by simp; try omega) _ | refine Below.setCell ?_ (by simp; try omega) _))
set_option maxHeartbeats 1000000 in
theorem added_3_2 (l0 l1 l2 f ep x y z : Int) (w : World) (h0 : IntKind.i64.wrap (l0 + x) = l0 + x) (h1 : IntKind.i64.wrap (l1 + y) = l1 + y) (h2 : IntKind.i64.wrap (l2 + z) = l2 + z) :
    Calls Tryz.prog 94 #[.agg #[.int .i64 l0, .int .i64 l1, .int .i64 l2], .agg #[.int .i64 f, .int .i64 3, .int .i64 2, .int .i64 ep, .int .i64 x, .int .i64 y, .int .i64 z]] w fun e w' => e = .returned (.agg #[.int .i64 (l0 + x), .int .i64 (l1 + y), .int .i64 (z)]) ∧ Below w.heap.size w w' := by
  go_enter Tryz.func94, Tryz.ntmps94
  go_wp2
  repeat any_goals (first | (refine wp_loop_rounds 4 ?_; rw [rounds_succ]; go_wp2) | (rw [rounds_succ]; go_wp2) | (go_region; go_wp2))
  refine bodyPost_ret (v := (.agg #[.int .i64 (l0 + x), .int .i64 (l1 + y), .int .i64 (z)])) (by simp [results, Tryz.results117, go_sem]) rfl ?_
  dsimp only
  go_wp2
  refine bodyPost_ret (v := (.agg #[.int .i64 (l0 + x), .int .i64 (l1 + y), .int .i64 (z)])) (by simp [results, Tryz.results94, go_sem]) rfl ⟨rfl, ?_⟩
  (repeat (first | exact Below.refl _ _ | apply below_drewN | refine Below.alloc ?_ (by simp; try omega) _ | refine Below.setCell ?_ (by simp; try omega) _))
set_option maxHeartbeats 1000000 in
theorem added_3_3 (l0 l1 l2 f ep x y z : Int) (w : World) (h0 : IntKind.i64.wrap (l0 + x) = l0 + x) (h1 : IntKind.i64.wrap (l1 + y) = l1 + y) (h2 : IntKind.i64.wrap (l2 + z) = l2 + z) :
    Calls Tryz.prog 94 #[.agg #[.int .i64 l0, .int .i64 l1, .int .i64 l2], .agg #[.int .i64 f, .int .i64 3, .int .i64 3, .int .i64 ep, .int .i64 x, .int .i64 y, .int .i64 z]] w fun e w' => e = .returned (.agg #[.int .i64 (l0 + x), .int .i64 (l1 + y), .int .i64 (l2 + z)]) ∧ Below w.heap.size w w' := by
  go_enter Tryz.func94, Tryz.ntmps94
  go_wp2
  repeat any_goals (first | (refine wp_loop_rounds 4 ?_; rw [rounds_succ]; go_wp2) | (rw [rounds_succ]; go_wp2) | (go_region; go_wp2))
  refine bodyPost_ret (v := (.agg #[.int .i64 (l0 + x), .int .i64 (l1 + y), .int .i64 (l2 + z)])) (by simp [results, Tryz.results117, go_sem]) rfl ?_
  dsimp only
  go_wp2
  refine bodyPost_ret (v := (.agg #[.int .i64 (l0 + x), .int .i64 (l1 + y), .int .i64 (l2 + z)])) (by simp [results, Tryz.results94, go_sem]) rfl ⟨rfl, ?_⟩
  (repeat (first | exact Below.refl _ _ | apply below_drewN | refine Below.alloc ?_ (by simp; try omega) _ | refine Below.setCell ?_ (by simp; try omega) _))

/-- The three counters behind a summary. -/
theorem added_any (s : Sm) (l0 l1 l2 : Int) (w : World) (hs : mayS s = true) (h0 : IntKind.i64.wrap (l0 + s.x) = l0 + s.x) (h1 : IntKind.i64.wrap (l1 + s.y) = l1 + s.y) (h2 : IntKind.i64.wrap (l2 + s.z) = l2 + s.z) :
    Calls Tryz.prog 94 #[.agg #[.int .i64 l0, .int .i64 l1, .int .i64 l2], .agg #[.int .i64 s.f, .int .i64 s.t, .int .i64 s.k, .int .i64 s.ep, .int .i64 s.x, .int .i64 s.y, .int .i64 s.z]] w fun e w' => e = .returned (.agg #[.int .i64 (compI 0 s.t s.k s.x l0), .int .i64 (compI 1 s.t s.k s.y l1), .int .i64 (compI 2 s.t s.k s.z l2)]) ∧ Below w.heap.size w w' := by
  obtain ⟨⟨_, _, _, _⟩, ⟨_, _, _⟩, -⟩ := (mayS_iff s).1 hs
  clear hs
  obtain ⟨f, t, k, ep, x, y, z⟩ := s
  dsimp only at *
  have ht : t = 0 ∧ k = 0 ∨ t = 1 ∧ k = 0 ∨ t = 1 ∧ k = 1 ∨ t = 2 ∧ k = 0 ∨ t = 2 ∧ k = 1 ∨ t = 2 ∧ k = 2 ∨ t = 3 ∧ k = 0 ∨ t = 3 ∧ k = 1 ∨ t = 3 ∧ k = 2 ∨ t = 3 ∧ k = 3 := by omega
  rcases ht with ⟨rfl, rfl⟩ | ⟨rfl, rfl⟩ | ⟨rfl, rfl⟩ | ⟨rfl, rfl⟩ | ⟨rfl, rfl⟩ | ⟨rfl, rfl⟩ | ⟨rfl, rfl⟩ | ⟨rfl, rfl⟩ | ⟨rfl, rfl⟩ | ⟨rfl, rfl⟩
  · simpa [compI] using added_0_0 l0 l1 l2 f ep x y z w h0 h1 h2
  · simpa [compI] using added_1_0 l0 l1 l2 f ep x y z w h0 h1 h2
  · simpa [compI] using added_1_1 l0 l1 l2 f ep x y z w h0 h1 h2
  · simpa [compI] using added_2_0 l0 l1 l2 f ep x y z w h0 h1 h2
  · simpa [compI] using added_2_1 l0 l1 l2 f ep x y z w h0 h1 h2
  · simpa [compI] using added_2_2 l0 l1 l2 f ep x y z w h0 h1 h2
  · simpa [compI] using added_3_0 l0 l1 l2 f ep x y z w h0 h1 h2
  · simpa [compI] using added_3_1 l0 l1 l2 f ep x y z w h0 h1 h2
  · simpa [compI] using added_3_2 l0 l1 l2 f ep x y z w h0 h1 h2
  · simpa [compI] using added_3_3 l0 l1 l2 f ep x y z w h0 h1 h2

end Go.Proofs.YtehianjfpmbfpaaGreat
