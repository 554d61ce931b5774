/-
  What Order of summaries, and the document's own, do to the world: for every two the answer; what was there stays as it was.
-/
import Derived.Test.YtehianjfpmbfpaaGreatSBx
namespace Go.Proofs.YtehianjfpmbfpaaGreat
open Go.RowKit
set_option linter.unusedVariables false

set_option maxHeartbeats 400000 in
theorem cmpInt_any (a b : Int) (w : World) :
    Calls Tryz.prog 111 #[.int .i64 a, .int .i64 b] w fun e w' => e = .returned (.int .i64 (cmpI a b)) ∧ w' = w := by
  go_enter Tryz.func111, Tryz.ntmps111
  go_wp2
  all_goals go_ret
  all_goals exact ⟨ret_int (by unfold cmpI; repeat (first | rfl | (rw [if_pos (by omega)]) | (rw [if_neg (by omega)]))), rfl⟩

set_option maxHeartbeats 2000000 in
theorem cmpSlices (s r : Sm) (b c : Nat) (w : World) (hs : SBox w b s) (hr : SBox w c r) :
    Calls Tryz.prog 136 #[.slice (some ⟨b, 0, none⟩) 7 7, .slice (some ⟨c, 0, none⟩) 7 7] w fun e w' => e = .returned (.int .i64 (orderS s r)) ∧ Below w.heap.size w w' := by
  obtain ⟨k0, k1, k2, k3, k4, k5, k6⟩ := hs
  obtain ⟨l0, l1, l2, l3, l4, l5, l6⟩ := hr
  obtain ⟨sf, st, sk, sp, sx, sy, sz⟩ := s
  obtain ⟨rf, rt, rk, rp, rx, ry, rz⟩ := r
  dsimp only at k0 k1 k2 k3 k4 k5 k6 l0 l1 l2 l3 l4 l5 l6
  go_enter Tryz.func136, Tryz.ntmps136
  go_wp2_with (go_at_call 111; refine (cmpInt_any _ _ _).mono ?_; rintro e w' ⟨rfl, rfl⟩)
  repeat any_goals (first | (refine wp_loop_rounds 8 ?_; rw [rounds_succ]; go_wp2_with (go_at_call 111; refine (cmpInt_any _ _ _).mono ?_; rintro e w' ⟨rfl, rfl⟩)) | (rw [rounds_succ]; go_wp2_with (go_at_call 111; refine (cmpInt_any _ _ _).mono ?_; rintro e w' ⟨rfl, rfl⟩)) | (go_quiet ((go_at_call 111; refine (cmpInt_any _ _ _).mono ?_; rintro e w' ⟨rfl, rfl⟩; exact ⟨rfl, _, rfl⟩)); go_wp2_with (go_at_call 111; refine (cmpInt_any _ _ _).mono ?_; rintro e w' ⟨rfl, rfl⟩)))
  all_goals go_ret
  all_goals refine ⟨ret_int ?_, ?_⟩
  all_goals clear k0 k1 k2 k3 k4 k5 k6 l0 l1 l2 l3 l4 l5 l6
  all_goals simp at *
  all_goals first | (simp [orderS, *]; done) | (repeat (first | exact Below.refl _ _ | apply below_drewN))

set_option maxHeartbeats 1000000 in
theorem numbers_any (s : Sm) (w : World) :
    Calls Tryz.prog 135 #[.agg #[.int .i64 s.f, .int .i64 s.t, .int .i64 s.k, .int .i64 s.ep, .int .i64 s.x, .int .i64 s.y, .int .i64 s.z]] w fun e w' => e = .returned (.agg #[.int .i64 s.f, .int .i64 s.t, .int .i64 s.k, .int .i64 s.ep, .int .i64 s.x, .int .i64 s.y, .int .i64 s.z]) ∧ Below w.heap.size w w' := by
  go_enter Tryz.func135, Tryz.ntmps135
  go_wp2
  repeat any_goals (go_region; try go_wp2)
  all_goals refine bodyPost_ret (v := .agg #[.int .i64 s.f, .int .i64 s.t, .int .i64 s.k, .int .i64 s.ep, .int .i64 s.x, .int .i64 s.y, .int .i64 s.z]) (by simp [results, Tryz.results135, go_sem]) rfl ⟨rfl, ?_⟩
  all_goals (repeat (first | exact Below.refl _ _ | apply below_drewN | refine Below.alloc ?_ (by simp; try omega) _))

theorem heldO {W w' : World} {b b' : Nat} {s r : Sm} (hs : SBox W b s) (hr : SBox W b' r) (hg : Grow W w') :
    Grow W w' ∧ w'.cell? ⟨b, 0, none⟩ = some (.int .i64 s.f) ∧ w'.cell? ⟨b, 1, none⟩ = some (.int .i64 s.t) ∧ w'.cell? ⟨b, 2, none⟩ = some (.int .i64 s.k) ∧ w'.cell? ⟨b, 3, none⟩ = some (.int .i64 s.ep) ∧ w'.cell? ⟨b, 4, none⟩ = some (.int .i64 s.x) ∧ w'.cell? ⟨b, 5, none⟩ = some (.int .i64 s.y) ∧ w'.cell? ⟨b, 6, none⟩ = some (.int .i64 s.z) ∧ w'.cell? ⟨b', 0, none⟩ = some (.int .i64 r.f) ∧ w'.cell? ⟨b', 1, none⟩ = some (.int .i64 r.t) ∧ w'.cell? ⟨b', 2, none⟩ = some (.int .i64 r.k) ∧ w'.cell? ⟨b', 3, none⟩ = some (.int .i64 r.ep) ∧ w'.cell? ⟨b', 4, none⟩ = some (.int .i64 r.x) ∧ w'.cell? ⟨b', 5, none⟩ = some (.int .i64 r.y) ∧ w'.cell? ⟨b', 6, none⟩ = some (.int .i64 r.z) := by
  obtain ⟨a1, a2, a3, a4, a5, a6, a7⟩ := hs.later hg
  obtain ⟨b1, b2, b3, b4, b5, b6, b7⟩ := hr.later hg
  exact ⟨hg, a1, a2, a3, a4, a5, a6, a7, b1, b2, b3, b4, b5, b6, b7⟩
theorem growS {a w : World} (b o : Nat) (v : Value) (h : Below a.heap.size a w) (hp : a.heap.size ≤ b) : Below a.heap.size a (w.setCell ⟨b, o, none⟩ v) := h.setCell hp v

set_option maxHeartbeats 4000000 in
theorem orderS_any (s r : Sm) (w : World) :
    Calls Tryz.prog 120 #[.agg #[.int .i64 s.f, .int .i64 s.t, .int .i64 s.k, .int .i64 s.ep, .int .i64 s.x, .int .i64 s.y, .int .i64 s.z], .agg #[.int .i64 r.f, .int .i64 r.t, .int .i64 r.k, .int .i64 r.ep, .int .i64 r.x, .int .i64 r.y, .int .i64 r.z]] w fun e w' => e = .returned (.int .i64 (orderS s r)) ∧ Below w.heap.size w w' := by
  go_enter Tryz.func120, Tryz.ntmps120
  go_wp2_with fail
  generalize hw0 : (w.alloc (.cells #[.int .i64 s.f, .int .i64 s.t, .int .i64 s.k, .int .i64 s.ep, .int .i64 s.x, .int .i64 s.y, .int .i64 s.z] 68)).alloc (.cells #[.int .i64 r.f, .int .i64 r.t, .int .i64 r.k, .int .i64 r.ep, .int .i64 r.x, .int .i64 r.y, .int .i64 r.z] 68) = w0
  have KS : Hid (SBox w0 w.heap.size s) := hide (by rw [← hw0]; simp [SBox, go_sem])
  have KR : Hid (SBox w0 (w.heap.size + 1) r) := hide (by rw [← hw0]; simp [SBox, go_sem])
  have G0 : Hid (Grow w w0) := hide (by rw [← hw0]; exact Grow.trans' (Grow.alloc' _ _) (Grow.alloc' _ _))
  clear hw0
  go_region_held3 (fun w' => Grow w0 w' ∧ w'.cell? ⟨w.heap.size, 0, none⟩ = some (.int .i64 s.f) ∧ w'.cell? ⟨w.heap.size, 1, none⟩ = some (.int .i64 s.t) ∧ w'.cell? ⟨w.heap.size, 2, none⟩ = some (.int .i64 s.k) ∧ w'.cell? ⟨w.heap.size, 3, none⟩ = some (.int .i64 s.ep) ∧ w'.cell? ⟨w.heap.size, 4, none⟩ = some (.int .i64 s.x) ∧ w'.cell? ⟨w.heap.size, 5, none⟩ = some (.int .i64 s.y) ∧ w'.cell? ⟨w.heap.size, 6, none⟩ = some (.int .i64 s.z) ∧ w'.cell? ⟨w.heap.size + 1, 0, none⟩ = some (.int .i64 r.f) ∧ w'.cell? ⟨w.heap.size + 1, 1, none⟩ = some (.int .i64 r.t) ∧ w'.cell? ⟨w.heap.size + 1, 2, none⟩ = some (.int .i64 r.k) ∧ w'.cell? ⟨w.heap.size + 1, 3, none⟩ = some (.int .i64 r.ep) ∧ w'.cell? ⟨w.heap.size + 1, 4, none⟩ = some (.int .i64 r.x) ∧ w'.cell? ⟨w.heap.size + 1, 5, none⟩ = some (.int .i64 r.y) ∧ w'.cell? ⟨w.heap.size + 1, 6, none⟩ = some (.int .i64 r.z)) (first | (refine heldO KS.out KR.out ?_; simp (maxDischargeDepth := 30) [growR, growA, growD]; done) | (refine heldO KS.out KR.out ?_; simp (maxDischargeDepth := 30) [growA, g3]; done) | (refine heldO KS.out KR.out ?_; simp (maxDischargeDepth := 30) [growA, growS, z3, x3, g4]; done)) (first | (go_at_call 135; with_reducible show Calls _ _ #[.agg #[.int .i64 s.f, .int .i64 s.t, .int .i64 s.k, .int .i64 s.ep, .int .i64 s.x, .int .i64 s.y, .int .i64 s.z]] _ _; refine (numbers_any s _).mono ?_; rintro e w3 ⟨rfl, hb3⟩; have g3 : Below w0.heap.size w0 w3 := Grow.trans' (‹Grow w0 _ ∧ _›).1 hb3; have z3 := g3.size; have x3 := Nat.le_succ_of_le z3; have y3 := hb3.size; (try simp at y3); (try (refine (fun u0 : w0.heap.size < w3.heap.size => ?_) ?_; rotate_left; focus omega)); (try (refine (fun u1 : w0.heap.size + 1 < w3.heap.size => ?_) ?_; rotate_left; focus omega)); obtain ⟨hc3, hf3⟩ := bcell hb3) | (go_at_call 135; with_reducible show Calls _ _ #[.agg #[.int .i64 r.f, .int .i64 r.t, .int .i64 r.k, .int .i64 r.ep, .int .i64 r.x, .int .i64 r.y, .int .i64 r.z]] _ _; refine (numbers_any r _).mono ?_; rintro e w4 ⟨rfl, hb4⟩; have g4 : Below w0.heap.size w0 w4 := Grow.trans' (‹Grow w0 _ ∧ _›).1 hb4; have z4 := g4.size; have y4 := hb4.size; (try simp at y4); (try (refine (fun v0 : w0.heap.size < w4.heap.size => ?_) ?_; rotate_left; focus omega)); (try (refine (fun v1 : w0.heap.size + 1 < w4.heap.size => ?_) ?_; rotate_left; focus omega)); (try (refine (fun v2 : w3.heap.size < w4.heap.size => ?_) ?_; rotate_left; focus omega)); (try (refine (fun v3 : w3.heap.size + 1 < w4.heap.size => ?_) ?_; rotate_left; focus omega)); obtain ⟨hc4, hf4⟩ := bcell hb4))
  all_goals
    have hg := hide (‹Grow w0 _ ∧ _›).1
    go_wp2_with fail
    go_region_held3 (fun _ => True) (trivial) (first | (go_at_call 136; refine (cmpSlices s r _ _ _ ?_ ?_).mono ?_; (focus (simp (maxDischargeDepth := 30) [SBox, go_sem, *]; done)); (focus (simp (maxDischargeDepth := 30) [SBox, go_sem, *]; done)); rintro e w5 ⟨rfl, hb5⟩))
    go_wp2_with fail
    go_ret
    exact ⟨rfl, Grow.trans' (Grow.trans' (Grow.trans' G0.out hg.out) (Grow.drew' _)) hb5⟩

end Go.Proofs.YtehianjfpmbfpaaGreat
