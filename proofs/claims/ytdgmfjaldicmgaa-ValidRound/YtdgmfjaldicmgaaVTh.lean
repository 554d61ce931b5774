/-
  What the document's own May, Then and LessEq of summaries do to the world, as far as walks of a graph that may run ask: of summaries that may be; what was there stays as it was. For a program without times.
-/
import Derived.Test.YtdgmfjaldicmgaaSPl
import Derived.Test.YtdgmfjaldicmgaaSNd
import Derived.Test.YtdgmfjaldicmgaaHBlk
namespace Go.Proofs.Ytdgmfjaldicmgaa
open Go.RowKit
set_option linter.unusedVariables false
set_option linter.unusedSimpArgs false

theorem Grow.drew' (w : World) : Grow w w.drew := ⟨rfl, rfl, rfl, Nat.le_refl _, fun _ _ => rfl⟩
/-- Growth, step by step: for simp. -/
theorem growR (a : World) : Below a.heap.size a a := Below.refl _ _
theorem growA {a w : World} (o : Obj) (h : Below a.heap.size a w) : Below a.heap.size a (w.alloc o) := Grow.trans' h (Grow.alloc' _ _)
theorem growD {a w : World} (h : Below a.heap.size a w) : Below a.heap.size a w.drew := Grow.trans' h (Grow.drew' _)

attribute [local go_sem] growR growA growD
attribute [local go_sem ↓] run_minI
theorem wrap_small {a b m : Int} (h0 : 0 ≤ a) (h1 : a ≤ m) (h2 : 0 ≤ b) (h3 : b ≤ m) (hm : m ≤ 1048576) : IntKind.i64.wrap (a + b) = a + b := by
  rw [IntKind.wrap_i64]; omega
theorem mayS_small {s : Sm} (h : mayS s = true) : (0 ≤ s.ep ∧ s.ep ≤ 1048576) ∧ (0 ≤ s.x ∧ s.x ≤ 1048576) ∧ (0 ≤ s.y ∧ s.y ≤ 1048576) ∧ (0 ≤ s.z ∧ s.z ≤ 1048576) := by
  obtain ⟨_, _, ⟨h1, h2⟩, ⟨h3, h4, h5⟩, ⟨h6, h7, h8⟩, ⟨h9, h10, h11⟩⟩ := (mayS_iff s).1 h
  refine ⟨⟨h1, h2⟩, ⟨h3, ?_⟩, ⟨h6, ?_⟩, ⟨h9, ?_⟩⟩
  · by_cases c : 0 < s.t
    · have := h4 c; omega
    · have := h5 (by omega); omega
  · by_cases c : 1 < s.t
    · have := h7 c; omega
    · have := h8 (by omega); omega
  · by_cases c : 2 < s.t
    · have := h10 c; omega
    · have := h11 (by omega); omega

theorem leS_iff (s r : Sm) : leS s r = true ↔ mayS s = true ∧ mayS r = true ∧ s.f = r.f ∧ s.t = r.t ∧ s.ep ≤ r.ep
    ∧ (0 < s.t → ¬ (0 < s.k ∧ r.k ≤ 0) ∧ s.x ≤ r.x) ∧ (1 < s.t → ¬ (1 < s.k ∧ r.k ≤ 1) ∧ s.y ≤ r.y) ∧ (2 < s.t → ¬ (2 < s.k ∧ r.k ≤ 2) ∧ s.z ≤ r.z) := by
  have key (i a b : Int) : ((decide (s.t ≤ i) || !(decide (i < s.k) && decide (r.k ≤ i)) && decide (a ≤ b)) = true) ↔ (i < s.t → ¬ (i < s.k ∧ r.k ≤ i) ∧ a ≤ b) := by
    simp only [Bool.or_eq_true, Bool.and_eq_true, Bool.not_eq_true', decide_eq_true_eq, ← Bool.not_eq_true, Bool.and_eq_true, decide_eq_true_eq]
    omega
  unfold leS
  simp only [Bool.and_eq_true, key, decide_eq_true_eq, and_assoc]
set_option maxHeartbeats 4000000 in
theorem refMayS_t0 (f k ep x y z : Int) (w : World) (h1 : withinB f 3 = true) :
    Calls Try.prog 36 #[.agg #[.int .i64 f, .int .i64 0, .int .i64 k, .int .i64 ep, .int .i64 x, .int .i64 y, .int .i64 z]] w fun e w' => e = .returned (.bool (mayS ⟨f, 0, k, ep, x, y, z⟩)) ∧ Below w.heap.size w w' := by
  have h2 : withinB 0 3 = true := by decide
  go_enter Try.func36, Try.ntmps36
  go_wp2_with (go_at_call 32; refine (refDepth_any _ _).mono ?_; rintro e w' ⟨rfl, rfl⟩)
  repeat any_goals (first
    | (refine wp_loop_rounds 4 ?_; rw [rounds_succ]; go_wp2)
    | (rw [rounds_succ]; go_wp2)
    | (go_quiet ((go_at_call 32; refine (refDepth_any _ _).mono ?_; rintro e w' ⟨rfl, rfl⟩; exact ⟨rfl, _, rfl⟩)); go_wp2))
  all_goals go_ret
  all_goals refine ⟨ret_bool ?_, ?_⟩
  all_goals first | (rw [mayS_iff]; simp [within_iff] at *; omega) | (repeat (first | exact Below.refl _ _ | apply below_drewN | refine Below.alloc ?_ (by simp; try omega) _))
set_option maxHeartbeats 4000000 in
theorem refMayS_t1 (f k ep x y z : Int) (w : World) (h1 : withinB f 3 = true) :
    Calls Try.prog 36 #[.agg #[.int .i64 f, .int .i64 1, .int .i64 k, .int .i64 ep, .int .i64 x, .int .i64 y, .int .i64 z]] w fun e w' => e = .returned (.bool (mayS ⟨f, 1, k, ep, x, y, z⟩)) ∧ Below w.heap.size w w' := by
  have h2 : withinB 1 3 = true := by decide
  go_enter Try.func36, Try.ntmps36
  go_wp2_with (go_at_call 32; refine (refDepth_any _ _).mono ?_; rintro e w' ⟨rfl, rfl⟩)
  repeat any_goals (first
    | (refine wp_loop_rounds 4 ?_; rw [rounds_succ]; go_wp2)
    | (rw [rounds_succ]; go_wp2)
    | (go_quiet ((go_at_call 32; refine (refDepth_any _ _).mono ?_; rintro e w' ⟨rfl, rfl⟩; exact ⟨rfl, _, rfl⟩)); go_wp2))
  all_goals go_ret
  all_goals refine ⟨ret_bool ?_, ?_⟩
  all_goals first | (rw [mayS_iff]; simp [within_iff] at *; omega) | (repeat (first | exact Below.refl _ _ | apply below_drewN | refine Below.alloc ?_ (by simp; try omega) _))
set_option maxHeartbeats 4000000 in
theorem refMayS_t2 (f k ep x y z : Int) (w : World) (h1 : withinB f 3 = true) :
    Calls Try.prog 36 #[.agg #[.int .i64 f, .int .i64 2, .int .i64 k, .int .i64 ep, .int .i64 x, .int .i64 y, .int .i64 z]] w fun e w' => e = .returned (.bool (mayS ⟨f, 2, k, ep, x, y, z⟩)) ∧ Below w.heap.size w w' := by
  have h2 : withinB 2 3 = true := by decide
  go_enter Try.func36, Try.ntmps36
  go_wp2_with (go_at_call 32; refine (refDepth_any _ _).mono ?_; rintro e w' ⟨rfl, rfl⟩)
  repeat any_goals (first
    | (refine wp_loop_rounds 4 ?_; rw [rounds_succ]; go_wp2)
    | (rw [rounds_succ]; go_wp2)
    | (go_quiet ((go_at_call 32; refine (refDepth_any _ _).mono ?_; rintro e w' ⟨rfl, rfl⟩; exact ⟨rfl, _, rfl⟩)); go_wp2))
  all_goals go_ret
  all_goals refine ⟨ret_bool ?_, ?_⟩
  all_goals first | (rw [mayS_iff]; simp [within_iff] at *; omega) | (repeat (first | exact Below.refl _ _ | apply below_drewN | refine Below.alloc ?_ (by simp; try omega) _))
set_option maxHeartbeats 4000000 in
theorem refMayS_t3 (f k ep x y z : Int) (w : World) (h1 : withinB f 3 = true) :
    Calls Try.prog 36 #[.agg #[.int .i64 f, .int .i64 3, .int .i64 k, .int .i64 ep, .int .i64 x, .int .i64 y, .int .i64 z]] w fun e w' => e = .returned (.bool (mayS ⟨f, 3, k, ep, x, y, z⟩)) ∧ Below w.heap.size w w' := by
  have h2 : withinB 3 3 = true := by decide
  go_enter Try.func36, Try.ntmps36
  go_wp2_with (go_at_call 32; refine (refDepth_any _ _).mono ?_; rintro e w' ⟨rfl, rfl⟩)
  repeat any_goals (first
    | (refine wp_loop_rounds 4 ?_; rw [rounds_succ]; go_wp2)
    | (rw [rounds_succ]; go_wp2)
    | (go_quiet ((go_at_call 32; refine (refDepth_any _ _).mono ?_; rintro e w' ⟨rfl, rfl⟩; exact ⟨rfl, _, rfl⟩)); go_wp2))
  all_goals go_ret
  all_goals refine ⟨ret_bool ?_, ?_⟩
  all_goals first | (rw [mayS_iff]; simp [within_iff] at *; omega) | (repeat (first | exact Below.refl _ _ | apply below_drewN | refine Below.alloc ?_ (by simp; try omega) _))
theorem refMayS_t (s : Sm) {p : Bool} (h : mayS s = p) (hf : withinB s.f 3 = true) (ht : 0 ≤ s.t ∧ s.t ≤ 3) (w : World) :
    Calls Try.prog 36 #[.agg #[.int .i64 s.f, .int .i64 s.t, .int .i64 s.k, .int .i64 s.ep, .int .i64 s.x, .int .i64 s.y, .int .i64 s.z]] w fun e w' => e = .returned (.bool p) ∧ Below w.heap.size w w' := by
  subst h
  obtain ⟨f, t, k, ep, x, y, z⟩ := s
  dsimp only at hf ht ⊢
  have : t = 0 ∨ t = 1 ∨ t = 2 ∨ t = 3 := by omega
  rcases this with rfl | rfl | rfl | rfl
  · exact refMayS_t0 f k ep x y z w hf
  · exact refMayS_t1 f k ep x y z w hf
  · exact refMayS_t2 f k ep x y z w hf
  · exact refMayS_t3 f k ep x y z w hf
theorem refMayY (s : Sm) (h : mayS s = true) (w : World) :
    Calls Try.prog 36 #[.agg #[.int .i64 s.f, .int .i64 s.t, .int .i64 s.k, .int .i64 s.ep, .int .i64 s.x, .int .i64 s.y, .int .i64 s.z]] w fun e w' => e = .returned (.bool true) ∧ Below w.heap.size w w' := by
  have h1 := (mayS_iff s).1 h
  exact refMayS_t s h ((within_iff _ _).2 ⟨h1.1.1, h1.1.2.1⟩) ⟨h1.1.2.2.1, h1.1.2.2.2⟩ w
set_option maxHeartbeats 2000000 in
theorem refThen_0_0 (f sk sp sx sy sz rf rp rx ry rz : Int) (w : World) (h1 : Hid (mayS (Sm.mk f rf sk sp sx sy sz) = true)) (h2 : Hid (mayS (Sm.mk rf 0 0 rp rx ry rz) = true)) (h4 : Hid (mayS (Sm.mk f 0 (minI sk 0) (sp + rp) (0) (0) (0)) = true)) :
    Calls Try.prog 18 #[.agg #[.int .i64 f, .int .i64 rf, .int .i64 sk, .int .i64 sp, .int .i64 sx, .int .i64 sy, .int .i64 sz], .agg #[.int .i64 rf, .int .i64 0, .int .i64 0, .int .i64 rp, .int .i64 rx, .int .i64 ry, .int .i64 rz]] w fun e w' => e = .returned (.tuple #[.agg #[.int .i64 f, .int .i64 0, .int .i64 (minI sk 0), .int .i64 (sp + rp), .int .i64 (0), .int .i64 (0), .int .i64 (0)], .int .i64 0]) ∧ Below w.heap.size w w' := by
  obtain ⟨⟨a1, a2⟩, ⟨a3, a4⟩, ⟨a5, a6⟩, ⟨a7, a8⟩⟩ := mayS_small h1.out
  obtain ⟨⟨b1, b2⟩, ⟨b3, b4⟩, ⟨b5, b6⟩, ⟨b7, b8⟩⟩ := mayS_small h2.out
  dsimp only at a1 a2 a3 a4 a5 a6 a7 a8 b1 b2 b3 b4 b5 b6 b7 b8
  have we := wrap_small a1 a2 b1 b2 (Int.le_refl _)
  have wx := wrap_small a3 a4 b3 b4 (Int.le_refl _)
  have wy := wrap_small a5 a6 b5 b6 (Int.le_refl _)
  have wz := wrap_small a7 a8 b7 b8 (Int.le_refl _)
  clear a1 a2 a3 a4 a5 a6 a7 a8 b1 b2 b3 b4 b5 b6 b7 b8
  go_enter Try.func18, Try.ntmps18
  go_wp2_with fail
  refine (refMayY (Sm.mk f rf sk sp sx sy sz) h1.out _).mono ?_
  rintro e w1 ⟨rfl, hb⟩
  obtain ⟨hc, hf⟩ := bcell hb
  go_wp2_with fail
  refine (refMayY (Sm.mk rf 0 0 rp rx ry rz) h2.out _).mono ?_
  rintro e w2 ⟨rfl, hb2⟩
  have hb := Grow.trans' hb hb2; clear hb2 hc hf; obtain ⟨hc, hf⟩ := bcell hb
  have hz : w.heap.size + 2 < w2.heap.size := by have := hb.size; simp at this; omega
  have hz1 : w.heap.size + 1 < w2.heap.size := by omega
  have hz0 : w.heap.size < w2.heap.size := by omega
  go_wp2_with fail
  repeat any_goals (first | (refine wp_loop_rounds 4 ?_; rw [rounds_succ]; go_wp2_with fail) | (rw [rounds_succ]; go_wp2_with fail) | (go_region; go_wp2_with fail))
  all_goals
    refine (refMayY (Sm.mk f 0 (minI sk 0) (sp + rp) (0) (0) (0)) h4.out _).mono ?_
    rintro e w5 ⟨rfl, hb5⟩
    have KB : BoxS w5 w2.heap.size (Sm.mk f 0 (minI sk 0) (sp + rp) (0) (0) (0)) := BoxS.later hb5 (by simp [BoxS, go_sem])
    have hb := Grow.trans' hb (Grow.trans' (by simp (maxDischargeDepth := 9) only [go_sem]) hb5)
    clear hb5 hc hf
    obtain ⟨k0, k1, k2, k3, k4, k5, k6⟩ := KB
    obtain ⟨hc, hf⟩ := bcell hb
    go_wp2
    refine bodyPost_ret (v := .tuple #[.agg #[.int .i64 f, .int .i64 0, .int .i64 (minI sk 0), .int .i64 (sp + rp), .int .i64 (0), .int .i64 (0), .int .i64 (0)], .int .i64 0]) (by simp [results, Try.results18, go_sem, hc]) rfl ⟨rfl, ?_⟩
    iterate 7 refine Below.setCell ?_ (by simp; try omega) _
    exact Grow.trans' (Grow.trans' (Grow.trans' (Grow.alloc' _ _) (Grow.alloc' _ _)) (Grow.alloc' _ _)) hb
set_option maxHeartbeats 2000000 in
theorem refThen_1_0 (f sk sp sx sy sz rf rp rx ry rz : Int) (w : World) (h1 : Hid (mayS (Sm.mk f rf sk sp sx sy sz) = true)) (h2 : Hid (mayS (Sm.mk rf 1 0 rp rx ry rz) = true)) (h4 : Hid (mayS (Sm.mk f 1 (minI sk 0) (sp + rp) (rx) (0) (0)) = true)) :
    Calls Try.prog 18 #[.agg #[.int .i64 f, .int .i64 rf, .int .i64 sk, .int .i64 sp, .int .i64 sx, .int .i64 sy, .int .i64 sz], .agg #[.int .i64 rf, .int .i64 1, .int .i64 0, .int .i64 rp, .int .i64 rx, .int .i64 ry, .int .i64 rz]] w fun e w' => e = .returned (.tuple #[.agg #[.int .i64 f, .int .i64 1, .int .i64 (minI sk 0), .int .i64 (sp + rp), .int .i64 (rx), .int .i64 (0), .int .i64 (0)], .int .i64 0]) ∧ Below w.heap.size w w' := by
  obtain ⟨⟨a1, a2⟩, ⟨a3, a4⟩, ⟨a5, a6⟩, ⟨a7, a8⟩⟩ := mayS_small h1.out
  obtain ⟨⟨b1, b2⟩, ⟨b3, b4⟩, ⟨b5, b6⟩, ⟨b7, b8⟩⟩ := mayS_small h2.out
  dsimp only at a1 a2 a3 a4 a5 a6 a7 a8 b1 b2 b3 b4 b5 b6 b7 b8
  have we := wrap_small a1 a2 b1 b2 (Int.le_refl _)
  have wx := wrap_small a3 a4 b3 b4 (Int.le_refl _)
  have wy := wrap_small a5 a6 b5 b6 (Int.le_refl _)
  have wz := wrap_small a7 a8 b7 b8 (Int.le_refl _)
  clear a1 a2 a3 a4 a5 a6 a7 a8 b1 b2 b3 b4 b5 b6 b7 b8
  go_enter Try.func18, Try.ntmps18
  go_wp2_with fail
  refine (refMayY (Sm.mk f rf sk sp sx sy sz) h1.out _).mono ?_
  rintro e w1 ⟨rfl, hb⟩
  obtain ⟨hc, hf⟩ := bcell hb
  go_wp2_with fail
  refine (refMayY (Sm.mk rf 1 0 rp rx ry rz) h2.out _).mono ?_
  rintro e w2 ⟨rfl, hb2⟩
  have hb := Grow.trans' hb hb2; clear hb2 hc hf; obtain ⟨hc, hf⟩ := bcell hb
  have hz : w.heap.size + 2 < w2.heap.size := by have := hb.size; simp at this; omega
  have hz1 : w.heap.size + 1 < w2.heap.size := by omega
  have hz0 : w.heap.size < w2.heap.size := by omega
  go_wp2_with fail
  repeat any_goals (first | (refine wp_loop_rounds 4 ?_; rw [rounds_succ]; go_wp2_with fail) | (rw [rounds_succ]; go_wp2_with fail) | (go_region; go_wp2_with fail))
  all_goals
    refine (refMayY (Sm.mk f 1 (minI sk 0) (sp + rp) (rx) (0) (0)) h4.out _).mono ?_
    rintro e w5 ⟨rfl, hb5⟩
    have KB : BoxS w5 w2.heap.size (Sm.mk f 1 (minI sk 0) (sp + rp) (rx) (0) (0)) := BoxS.later hb5 (by simp [BoxS, go_sem])
    have hb := Grow.trans' hb (Grow.trans' (by simp (maxDischargeDepth := 9) only [go_sem]) hb5)
    clear hb5 hc hf
    obtain ⟨k0, k1, k2, k3, k4, k5, k6⟩ := KB
    obtain ⟨hc, hf⟩ := bcell hb
    go_wp2
    refine bodyPost_ret (v := .tuple #[.agg #[.int .i64 f, .int .i64 1, .int .i64 (minI sk 0), .int .i64 (sp + rp), .int .i64 (rx), .int .i64 (0), .int .i64 (0)], .int .i64 0]) (by simp [results, Try.results18, go_sem, hc]) rfl ⟨rfl, ?_⟩
    iterate 7 refine Below.setCell ?_ (by simp; try omega) _
    exact Grow.trans' (Grow.trans' (Grow.trans' (Grow.alloc' _ _) (Grow.alloc' _ _)) (Grow.alloc' _ _)) hb
set_option maxHeartbeats 2000000 in
theorem refThen_1_1 (f sk sp sx sy sz rf rp rx ry rz : Int) (w : World) (h1 : Hid (mayS (Sm.mk f rf sk sp sx sy sz) = true)) (h2 : Hid (mayS (Sm.mk rf 1 1 rp rx ry rz) = true)) (h4 : Hid (mayS (Sm.mk f 1 (minI sk 1) (sp + rp) (sx + rx) (0) (0)) = true)) :
    Calls Try.prog 18 #[.agg #[.int .i64 f, .int .i64 rf, .int .i64 sk, .int .i64 sp, .int .i64 sx, .int .i64 sy, .int .i64 sz], .agg #[.int .i64 rf, .int .i64 1, .int .i64 1, .int .i64 rp, .int .i64 rx, .int .i64 ry, .int .i64 rz]] w fun e w' => e = .returned (.tuple #[.agg #[.int .i64 f, .int .i64 1, .int .i64 (minI sk 1), .int .i64 (sp + rp), .int .i64 (sx + rx), .int .i64 (0), .int .i64 (0)], .int .i64 0]) ∧ Below w.heap.size w w' := by
  obtain ⟨⟨a1, a2⟩, ⟨a3, a4⟩, ⟨a5, a6⟩, ⟨a7, a8⟩⟩ := mayS_small h1.out
  obtain ⟨⟨b1, b2⟩, ⟨b3, b4⟩, ⟨b5, b6⟩, ⟨b7, b8⟩⟩ := mayS_small h2.out
  dsimp only at a1 a2 a3 a4 a5 a6 a7 a8 b1 b2 b3 b4 b5 b6 b7 b8
  have we := wrap_small a1 a2 b1 b2 (Int.le_refl _)
  have wx := wrap_small a3 a4 b3 b4 (Int.le_refl _)
  have wy := wrap_small a5 a6 b5 b6 (Int.le_refl _)
  have wz := wrap_small a7 a8 b7 b8 (Int.le_refl _)
  clear a1 a2 a3 a4 a5 a6 a7 a8 b1 b2 b3 b4 b5 b6 b7 b8
  go_enter Try.func18, Try.ntmps18
  go_wp2_with fail
  refine (refMayY (Sm.mk f rf sk sp sx sy sz) h1.out _).mono ?_
  rintro e w1 ⟨rfl, hb⟩
  obtain ⟨hc, hf⟩ := bcell hb
  go_wp2_with fail
  refine (refMayY (Sm.mk rf 1 1 rp rx ry rz) h2.out _).mono ?_
  rintro e w2 ⟨rfl, hb2⟩
  have hb := Grow.trans' hb hb2; clear hb2 hc hf; obtain ⟨hc, hf⟩ := bcell hb
  have hz : w.heap.size + 2 < w2.heap.size := by have := hb.size; simp at this; omega
  have hz1 : w.heap.size + 1 < w2.heap.size := by omega
  have hz0 : w.heap.size < w2.heap.size := by omega
  go_wp2_with fail
  repeat any_goals (first | (refine wp_loop_rounds 4 ?_; rw [rounds_succ]; go_wp2_with fail) | (rw [rounds_succ]; go_wp2_with fail) | (go_region; go_wp2_with fail))
  all_goals
    refine (refMayY (Sm.mk f 1 (minI sk 1) (sp + rp) (sx + rx) (0) (0)) h4.out _).mono ?_
    rintro e w5 ⟨rfl, hb5⟩
    have KB : BoxS w5 w2.heap.size (Sm.mk f 1 (minI sk 1) (sp + rp) (sx + rx) (0) (0)) := BoxS.later hb5 (by simp [BoxS, go_sem])
    have hb := Grow.trans' hb (Grow.trans' (by simp (maxDischargeDepth := 9) only [go_sem]) hb5)
    clear hb5 hc hf
    obtain ⟨k0, k1, k2, k3, k4, k5, k6⟩ := KB
    obtain ⟨hc, hf⟩ := bcell hb
    go_wp2
    refine bodyPost_ret (v := .tuple #[.agg #[.int .i64 f, .int .i64 1, .int .i64 (minI sk 1), .int .i64 (sp + rp), .int .i64 (sx + rx), .int .i64 (0), .int .i64 (0)], .int .i64 0]) (by simp [results, Try.results18, go_sem, hc]) rfl ⟨rfl, ?_⟩
    iterate 7 refine Below.setCell ?_ (by simp; try omega) _
    exact Grow.trans' (Grow.trans' (Grow.trans' (Grow.alloc' _ _) (Grow.alloc' _ _)) (Grow.alloc' _ _)) hb
set_option maxHeartbeats 2000000 in
theorem refThen_2_0 (f sk sp sx sy sz rf rp rx ry rz : Int) (w : World) (h1 : Hid (mayS (Sm.mk f rf sk sp sx sy sz) = true)) (h2 : Hid (mayS (Sm.mk rf 2 0 rp rx ry rz) = true)) (h4 : Hid (mayS (Sm.mk f 2 (minI sk 0) (sp + rp) (rx) (ry) (0)) = true)) :
    Calls Try.prog 18 #[.agg #[.int .i64 f, .int .i64 rf, .int .i64 sk, .int .i64 sp, .int .i64 sx, .int .i64 sy, .int .i64 sz], .agg #[.int .i64 rf, .int .i64 2, .int .i64 0, .int .i64 rp, .int .i64 rx, .int .i64 ry, .int .i64 rz]] w fun e w' => e = .returned (.tuple #[.agg #[.int .i64 f, .int .i64 2, .int .i64 (minI sk 0), .int .i64 (sp + rp), .int .i64 (rx), .int .i64 (ry), .int .i64 (0)], .int .i64 0]) ∧ Below w.heap.size w w' := by
  obtain ⟨⟨a1, a2⟩, ⟨a3, a4⟩, ⟨a5, a6⟩, ⟨a7, a8⟩⟩ := mayS_small h1.out
  obtain ⟨⟨b1, b2⟩, ⟨b3, b4⟩, ⟨b5, b6⟩, ⟨b7, b8⟩⟩ := mayS_small h2.out
  dsimp only at a1 a2 a3 a4 a5 a6 a7 a8 b1 b2 b3 b4 b5 b6 b7 b8
  have we := wrap_small a1 a2 b1 b2 (Int.le_refl _)
  have wx := wrap_small a3 a4 b3 b4 (Int.le_refl _)
  have wy := wrap_small a5 a6 b5 b6 (Int.le_refl _)
  have wz := wrap_small a7 a8 b7 b8 (Int.le_refl _)
  clear a1 a2 a3 a4 a5 a6 a7 a8 b1 b2 b3 b4 b5 b6 b7 b8
  go_enter Try.func18, Try.ntmps18
  go_wp2_with fail
  refine (refMayY (Sm.mk f rf sk sp sx sy sz) h1.out _).mono ?_
  rintro e w1 ⟨rfl, hb⟩
  obtain ⟨hc, hf⟩ := bcell hb
  go_wp2_with fail
  refine (refMayY (Sm.mk rf 2 0 rp rx ry rz) h2.out _).mono ?_
  rintro e w2 ⟨rfl, hb2⟩
  have hb := Grow.trans' hb hb2; clear hb2 hc hf; obtain ⟨hc, hf⟩ := bcell hb
  have hz : w.heap.size + 2 < w2.heap.size := by have := hb.size; simp at this; omega
  have hz1 : w.heap.size + 1 < w2.heap.size := by omega
  have hz0 : w.heap.size < w2.heap.size := by omega
  go_wp2_with fail
  repeat any_goals (first | (refine wp_loop_rounds 4 ?_; rw [rounds_succ]; go_wp2_with fail) | (rw [rounds_succ]; go_wp2_with fail) | (go_region; go_wp2_with fail))
  all_goals
    refine (refMayY (Sm.mk f 2 (minI sk 0) (sp + rp) (rx) (ry) (0)) h4.out _).mono ?_
    rintro e w5 ⟨rfl, hb5⟩
    have KB : BoxS w5 w2.heap.size (Sm.mk f 2 (minI sk 0) (sp + rp) (rx) (ry) (0)) := BoxS.later hb5 (by simp [BoxS, go_sem])
    have hb := Grow.trans' hb (Grow.trans' (by simp (maxDischargeDepth := 9) only [go_sem]) hb5)
    clear hb5 hc hf
    obtain ⟨k0, k1, k2, k3, k4, k5, k6⟩ := KB
    obtain ⟨hc, hf⟩ := bcell hb
    go_wp2
    refine bodyPost_ret (v := .tuple #[.agg #[.int .i64 f, .int .i64 2, .int .i64 (minI sk 0), .int .i64 (sp + rp), .int .i64 (rx), .int .i64 (ry), .int .i64 (0)], .int .i64 0]) (by simp [results, Try.results18, go_sem, hc]) rfl ⟨rfl, ?_⟩
    iterate 7 refine Below.setCell ?_ (by simp; try omega) _
    exact Grow.trans' (Grow.trans' (Grow.trans' (Grow.alloc' _ _) (Grow.alloc' _ _)) (Grow.alloc' _ _)) hb
set_option maxHeartbeats 2000000 in
theorem refThen_2_1 (f sk sp sx sy sz rf rp rx ry rz : Int) (w : World) (h1 : Hid (mayS (Sm.mk f rf sk sp sx sy sz) = true)) (h2 : Hid (mayS (Sm.mk rf 2 1 rp rx ry rz) = true)) (h4 : Hid (mayS (Sm.mk f 2 (minI sk 1) (sp + rp) (sx + rx) (ry) (0)) = true)) :
    Calls Try.prog 18 #[.agg #[.int .i64 f, .int .i64 rf, .int .i64 sk, .int .i64 sp, .int .i64 sx, .int .i64 sy, .int .i64 sz], .agg #[.int .i64 rf, .int .i64 2, .int .i64 1, .int .i64 rp, .int .i64 rx, .int .i64 ry, .int .i64 rz]] w fun e w' => e = .returned (.tuple #[.agg #[.int .i64 f, .int .i64 2, .int .i64 (minI sk 1), .int .i64 (sp + rp), .int .i64 (sx + rx), .int .i64 (ry), .int .i64 (0)], .int .i64 0]) ∧ Below w.heap.size w w' := by
  obtain ⟨⟨a1, a2⟩, ⟨a3, a4⟩, ⟨a5, a6⟩, ⟨a7, a8⟩⟩ := mayS_small h1.out
  obtain ⟨⟨b1, b2⟩, ⟨b3, b4⟩, ⟨b5, b6⟩, ⟨b7, b8⟩⟩ := mayS_small h2.out
  dsimp only at a1 a2 a3 a4 a5 a6 a7 a8 b1 b2 b3 b4 b5 b6 b7 b8
  have we := wrap_small a1 a2 b1 b2 (Int.le_refl _)
  have wx := wrap_small a3 a4 b3 b4 (Int.le_refl _)
  have wy := wrap_small a5 a6 b5 b6 (Int.le_refl _)
  have wz := wrap_small a7 a8 b7 b8 (Int.le_refl _)
  clear a1 a2 a3 a4 a5 a6 a7 a8 b1 b2 b3 b4 b5 b6 b7 b8
  go_enter Try.func18, Try.ntmps18
  go_wp2_with fail
  refine (refMayY (Sm.mk f rf sk sp sx sy sz) h1.out _).mono ?_
  rintro e w1 ⟨rfl, hb⟩
  obtain ⟨hc, hf⟩ := bcell hb
  go_wp2_with fail
  refine (refMayY (Sm.mk rf 2 1 rp rx ry rz) h2.out _).mono ?_
  rintro e w2 ⟨rfl, hb2⟩
  have hb := Grow.trans' hb hb2; clear hb2 hc hf; obtain ⟨hc, hf⟩ := bcell hb
  have hz : w.heap.size + 2 < w2.heap.size := by have := hb.size; simp at this; omega
  have hz1 : w.heap.size + 1 < w2.heap.size := by omega
  have hz0 : w.heap.size < w2.heap.size := by omega
  go_wp2_with fail
  repeat any_goals (first | (refine wp_loop_rounds 4 ?_; rw [rounds_succ]; go_wp2_with fail) | (rw [rounds_succ]; go_wp2_with fail) | (go_region; go_wp2_with fail))
  all_goals
    refine (refMayY (Sm.mk f 2 (minI sk 1) (sp + rp) (sx + rx) (ry) (0)) h4.out _).mono ?_
    rintro e w5 ⟨rfl, hb5⟩
    have KB : BoxS w5 w2.heap.size (Sm.mk f 2 (minI sk 1) (sp + rp) (sx + rx) (ry) (0)) := BoxS.later hb5 (by simp [BoxS, go_sem])
    have hb := Grow.trans' hb (Grow.trans' (by simp (maxDischargeDepth := 9) only [go_sem]) hb5)
    clear hb5 hc hf
    obtain ⟨k0, k1, k2, k3, k4, k5, k6⟩ := KB
    obtain ⟨hc, hf⟩ := bcell hb
    go_wp2
    refine bodyPost_ret (v := .tuple #[.agg #[.int .i64 f, .int .i64 2, .int .i64 (minI sk 1), .int .i64 (sp + rp), .int .i64 (sx + rx), .int .i64 (ry), .int .i64 (0)], .int .i64 0]) (by simp [results, Try.results18, go_sem, hc]) rfl ⟨rfl, ?_⟩
    iterate 7 refine Below.setCell ?_ (by simp; try omega) _
    exact Grow.trans' (Grow.trans' (Grow.trans' (Grow.alloc' _ _) (Grow.alloc' _ _)) (Grow.alloc' _ _)) hb
set_option maxHeartbeats 2000000 in
theorem refThen_2_2 (f sk sp sx sy sz rf rp rx ry rz : Int) (w : World) (h1 : Hid (mayS (Sm.mk f rf sk sp sx sy sz) = true)) (h2 : Hid (mayS (Sm.mk rf 2 2 rp rx ry rz) = true)) (h4 : Hid (mayS (Sm.mk f 2 (minI sk 2) (sp + rp) (sx + rx) (sy + ry) (0)) = true)) :
    Calls Try.prog 18 #[.agg #[.int .i64 f, .int .i64 rf, .int .i64 sk, .int .i64 sp, .int .i64 sx, .int .i64 sy, .int .i64 sz], .agg #[.int .i64 rf, .int .i64 2, .int .i64 2, .int .i64 rp, .int .i64 rx, .int .i64 ry, .int .i64 rz]] w fun e w' => e = .returned (.tuple #[.agg #[.int .i64 f, .int .i64 2, .int .i64 (minI sk 2), .int .i64 (sp + rp), .int .i64 (sx + rx), .int .i64 (sy + ry), .int .i64 (0)], .int .i64 0]) ∧ Below w.heap.size w w' := by
  obtain ⟨⟨a1, a2⟩, ⟨a3, a4⟩, ⟨a5, a6⟩, ⟨a7, a8⟩⟩ := mayS_small h1.out
  obtain ⟨⟨b1, b2⟩, ⟨b3, b4⟩, ⟨b5, b6⟩, ⟨b7, b8⟩⟩ := mayS_small h2.out
  dsimp only at a1 a2 a3 a4 a5 a6 a7 a8 b1 b2 b3 b4 b5 b6 b7 b8
  have we := wrap_small a1 a2 b1 b2 (Int.le_refl _)
  have wx := wrap_small a3 a4 b3 b4 (Int.le_refl _)
  have wy := wrap_small a5 a6 b5 b6 (Int.le_refl _)
  have wz := wrap_small a7 a8 b7 b8 (Int.le_refl _)
  clear a1 a2 a3 a4 a5 a6 a7 a8 b1 b2 b3 b4 b5 b6 b7 b8
  go_enter Try.func18, Try.ntmps18
  go_wp2_with fail
  refine (refMayY (Sm.mk f rf sk sp sx sy sz) h1.out _).mono ?_
  rintro e w1 ⟨rfl, hb⟩
  obtain ⟨hc, hf⟩ := bcell hb
  go_wp2_with fail
  refine (refMayY (Sm.mk rf 2 2 rp rx ry rz) h2.out _).mono ?_
  rintro e w2 ⟨rfl, hb2⟩
  have hb := Grow.trans' hb hb2; clear hb2 hc hf; obtain ⟨hc, hf⟩ := bcell hb
  have hz : w.heap.size + 2 < w2.heap.size := by have := hb.size; simp at this; omega
  have hz1 : w.heap.size + 1 < w2.heap.size := by omega
  have hz0 : w.heap.size < w2.heap.size := by omega
  go_wp2_with fail
  repeat any_goals (first | (refine wp_loop_rounds 4 ?_; rw [rounds_succ]; go_wp2_with fail) | (rw [rounds_succ]; go_wp2_with fail) | (go_region; go_wp2_with fail))
  all_goals
    refine (refMayY (Sm.mk f 2 (minI sk 2) (sp + rp) (sx + rx) (sy + ry) (0)) h4.out _).mono ?_
    rintro e w5 ⟨rfl, hb5⟩
    have KB : BoxS w5 w2.heap.size (Sm.mk f 2 (minI sk 2) (sp + rp) (sx + rx) (sy + ry) (0)) := BoxS.later hb5 (by simp [BoxS, go_sem])
    have hb := Grow.trans' hb (Grow.trans' (by simp (maxDischargeDepth := 9) only [go_sem]) hb5)
    clear hb5 hc hf
    obtain ⟨k0, k1, k2, k3, k4, k5, k6⟩ := KB
    obtain ⟨hc, hf⟩ := bcell hb
    go_wp2
    refine bodyPost_ret (v := .tuple #[.agg #[.int .i64 f, .int .i64 2, .int .i64 (minI sk 2), .int .i64 (sp + rp), .int .i64 (sx + rx), .int .i64 (sy + ry), .int .i64 (0)], .int .i64 0]) (by simp [results, Try.results18, go_sem, hc]) rfl ⟨rfl, ?_⟩
    iterate 7 refine Below.setCell ?_ (by simp; try omega) _
    exact Grow.trans' (Grow.trans' (Grow.trans' (Grow.alloc' _ _) (Grow.alloc' _ _)) (Grow.alloc' _ _)) hb
set_option maxHeartbeats 2000000 in
theorem refThen_3_0 (f sk sp sx sy sz rf rp rx ry rz : Int) (w : World) (h1 : Hid (mayS (Sm.mk f rf sk sp sx sy sz) = true)) (h2 : Hid (mayS (Sm.mk rf 3 0 rp rx ry rz) = true)) (h4 : Hid (mayS (Sm.mk f 3 (minI sk 0) (sp + rp) (rx) (ry) (rz)) = true)) :
    Calls Try.prog 18 #[.agg #[.int .i64 f, .int .i64 rf, .int .i64 sk, .int .i64 sp, .int .i64 sx, .int .i64 sy, .int .i64 sz], .agg #[.int .i64 rf, .int .i64 3, .int .i64 0, .int .i64 rp, .int .i64 rx, .int .i64 ry, .int .i64 rz]] w fun e w' => e = .returned (.tuple #[.agg #[.int .i64 f, .int .i64 3, .int .i64 (minI sk 0), .int .i64 (sp + rp), .int .i64 (rx), .int .i64 (ry), .int .i64 (rz)], .int .i64 0]) ∧ Below w.heap.size w w' := by
  obtain ⟨⟨a1, a2⟩, ⟨a3, a4⟩, ⟨a5, a6⟩, ⟨a7, a8⟩⟩ := mayS_small h1.out
  obtain ⟨⟨b1, b2⟩, ⟨b3, b4⟩, ⟨b5, b6⟩, ⟨b7, b8⟩⟩ := mayS_small h2.out
  dsimp only at a1 a2 a3 a4 a5 a6 a7 a8 b1 b2 b3 b4 b5 b6 b7 b8
  have we := wrap_small a1 a2 b1 b2 (Int.le_refl _)
  have wx := wrap_small a3 a4 b3 b4 (Int.le_refl _)
  have wy := wrap_small a5 a6 b5 b6 (Int.le_refl _)
  have wz := wrap_small a7 a8 b7 b8 (Int.le_refl _)
  clear a1 a2 a3 a4 a5 a6 a7 a8 b1 b2 b3 b4 b5 b6 b7 b8
  go_enter Try.func18, Try.ntmps18
  go_wp2_with fail
  refine (refMayY (Sm.mk f rf sk sp sx sy sz) h1.out _).mono ?_
  rintro e w1 ⟨rfl, hb⟩
  obtain ⟨hc, hf⟩ := bcell hb
  go_wp2_with fail
  refine (refMayY (Sm.mk rf 3 0 rp rx ry rz) h2.out _).mono ?_
  rintro e w2 ⟨rfl, hb2⟩
  have hb := Grow.trans' hb hb2; clear hb2 hc hf; obtain ⟨hc, hf⟩ := bcell hb
  have hz : w.heap.size + 2 < w2.heap.size := by have := hb.size; simp at this; omega
  have hz1 : w.heap.size + 1 < w2.heap.size := by omega
  have hz0 : w.heap.size < w2.heap.size := by omega
  go_wp2_with fail
  repeat any_goals (first | (refine wp_loop_rounds 4 ?_; rw [rounds_succ]; go_wp2_with fail) | (rw [rounds_succ]; go_wp2_with fail) | (go_region; go_wp2_with fail))
  all_goals
    refine (refMayY (Sm.mk f 3 (minI sk 0) (sp + rp) (rx) (ry) (rz)) h4.out _).mono ?_
    rintro e w5 ⟨rfl, hb5⟩
    have KB : BoxS w5 w2.heap.size (Sm.mk f 3 (minI sk 0) (sp + rp) (rx) (ry) (rz)) := BoxS.later hb5 (by simp [BoxS, go_sem])
    have hb := Grow.trans' hb (Grow.trans' (by simp (maxDischargeDepth := 9) only [go_sem]) hb5)
    clear hb5 hc hf
    obtain ⟨k0, k1, k2, k3, k4, k5, k6⟩ := KB
    obtain ⟨hc, hf⟩ := bcell hb
    go_wp2
    refine bodyPost_ret (v := .tuple #[.agg #[.int .i64 f, .int .i64 3, .int .i64 (minI sk 0), .int .i64 (sp + rp), .int .i64 (rx), .int .i64 (ry), .int .i64 (rz)], .int .i64 0]) (by simp [results, Try.results18, go_sem, hc]) rfl ⟨rfl, ?_⟩
    iterate 7 refine Below.setCell ?_ (by simp; try omega) _
    exact Grow.trans' (Grow.trans' (Grow.trans' (Grow.alloc' _ _) (Grow.alloc' _ _)) (Grow.alloc' _ _)) hb
set_option maxHeartbeats 2000000 in
theorem refThen_3_1 (f sk sp sx sy sz rf rp rx ry rz : Int) (w : World) (h1 : Hid (mayS (Sm.mk f rf sk sp sx sy sz) = true)) (h2 : Hid (mayS (Sm.mk rf 3 1 rp rx ry rz) = true)) (h4 : Hid (mayS (Sm.mk f 3 (minI sk 1) (sp + rp) (sx + rx) (ry) (rz)) = true)) :
    Calls Try.prog 18 #[.agg #[.int .i64 f, .int .i64 rf, .int .i64 sk, .int .i64 sp, .int .i64 sx, .int .i64 sy, .int .i64 sz], .agg #[.int .i64 rf, .int .i64 3, .int .i64 1, .int .i64 rp, .int .i64 rx, .int .i64 ry, .int .i64 rz]] w fun e w' => e = .returned (.tuple #[.agg #[.int .i64 f, .int .i64 3, .int .i64 (minI sk 1), .int .i64 (sp + rp), .int .i64 (sx + rx), .int .i64 (ry), .int .i64 (rz)], .int .i64 0]) ∧ Below w.heap.size w w' := by
  obtain ⟨⟨a1, a2⟩, ⟨a3, a4⟩, ⟨a5, a6⟩, ⟨a7, a8⟩⟩ := mayS_small h1.out
  obtain ⟨⟨b1, b2⟩, ⟨b3, b4⟩, ⟨b5, b6⟩, ⟨b7, b8⟩⟩ := mayS_small h2.out
  dsimp only at a1 a2 a3 a4 a5 a6 a7 a8 b1 b2 b3 b4 b5 b6 b7 b8
  have we := wrap_small a1 a2 b1 b2 (Int.le_refl _)
  have wx := wrap_small a3 a4 b3 b4 (Int.le_refl _)
  have wy := wrap_small a5 a6 b5 b6 (Int.le_refl _)
  have wz := wrap_small a7 a8 b7 b8 (Int.le_refl _)
  clear a1 a2 a3 a4 a5 a6 a7 a8 b1 b2 b3 b4 b5 b6 b7 b8
  go_enter Try.func18, Try.ntmps18
  go_wp2_with fail
  refine (refMayY (Sm.mk f rf sk sp sx sy sz) h1.out _).mono ?_
  rintro e w1 ⟨rfl, hb⟩
  obtain ⟨hc, hf⟩ := bcell hb
  go_wp2_with fail
  refine (refMayY (Sm.mk rf 3 1 rp rx ry rz) h2.out _).mono ?_
  rintro e w2 ⟨rfl, hb2⟩
  have hb := Grow.trans' hb hb2; clear hb2 hc hf; obtain ⟨hc, hf⟩ := bcell hb
  have hz : w.heap.size + 2 < w2.heap.size := by have := hb.size; simp at this; omega
  have hz1 : w.heap.size + 1 < w2.heap.size := by omega
  have hz0 : w.heap.size < w2.heap.size := by omega
  go_wp2_with fail
  repeat any_goals (first | (refine wp_loop_rounds 4 ?_; rw [rounds_succ]; go_wp2_with fail) | (rw [rounds_succ]; go_wp2_with fail) | (go_region; go_wp2_with fail))
  all_goals
    refine (refMayY (Sm.mk f 3 (minI sk 1) (sp + rp) (sx + rx) (ry) (rz)) h4.out _).mono ?_
    rintro e w5 ⟨rfl, hb5⟩
    have KB : BoxS w5 w2.heap.size (Sm.mk f 3 (minI sk 1) (sp + rp) (sx + rx) (ry) (rz)) := BoxS.later hb5 (by simp [BoxS, go_sem])
    have hb := Grow.trans' hb (Grow.trans' (by simp (maxDischargeDepth := 9) only [go_sem]) hb5)
    clear hb5 hc hf
    obtain ⟨k0, k1, k2, k3, k4, k5, k6⟩ := KB
    obtain ⟨hc, hf⟩ := bcell hb
    go_wp2
    refine bodyPost_ret (v := .tuple #[.agg #[.int .i64 f, .int .i64 3, .int .i64 (minI sk 1), .int .i64 (sp + rp), .int .i64 (sx + rx), .int .i64 (ry), .int .i64 (rz)], .int .i64 0]) (by simp [results, Try.results18, go_sem, hc]) rfl ⟨rfl, ?_⟩
    iterate 7 refine Below.setCell ?_ (by simp; try omega) _
    exact Grow.trans' (Grow.trans' (Grow.trans' (Grow.alloc' _ _) (Grow.alloc' _ _)) (Grow.alloc' _ _)) hb
set_option maxHeartbeats 2000000 in
theorem refThen_3_2 (f sk sp sx sy sz rf rp rx ry rz : Int) (w : World) (h1 : Hid (mayS (Sm.mk f rf sk sp sx sy sz) = true)) (h2 : Hid (mayS (Sm.mk rf 3 2 rp rx ry rz) = true)) (h4 : Hid (mayS (Sm.mk f 3 (minI sk 2) (sp + rp) (sx + rx) (sy + ry) (rz)) = true)) :
    Calls Try.prog 18 #[.agg #[.int .i64 f, .int .i64 rf, .int .i64 sk, .int .i64 sp, .int .i64 sx, .int .i64 sy, .int .i64 sz], .agg #[.int .i64 rf, .int .i64 3, .int .i64 2, .int .i64 rp, .int .i64 rx, .int .i64 ry, .int .i64 rz]] w fun e w' => e = .returned (.tuple #[.agg #[.int .i64 f, .int .i64 3, .int .i64 (minI sk 2), .int .i64 (sp + rp), .int .i64 (sx + rx), .int .i64 (sy + ry), .int .i64 (rz)], .int .i64 0]) ∧ Below w.heap.size w w' := by
  obtain ⟨⟨a1, a2⟩, ⟨a3, a4⟩, ⟨a5, a6⟩, ⟨a7, a8⟩⟩ := mayS_small h1.out
  obtain ⟨⟨b1, b2⟩, ⟨b3, b4⟩, ⟨b5, b6⟩, ⟨b7, b8⟩⟩ := mayS_small h2.out
  dsimp only at a1 a2 a3 a4 a5 a6 a7 a8 b1 b2 b3 b4 b5 b6 b7 b8
  have we := wrap_small a1 a2 b1 b2 (Int.le_refl _)
  have wx := wrap_small a3 a4 b3 b4 (Int.le_refl _)
  have wy := wrap_small a5 a6 b5 b6 (Int.le_refl _)
  have wz := wrap_small a7 a8 b7 b8 (Int.le_refl _)
  clear a1 a2 a3 a4 a5 a6 a7 a8 b1 b2 b3 b4 b5 b6 b7 b8
  go_enter Try.func18, Try.ntmps18
  go_wp2_with fail
  refine (refMayY (Sm.mk f rf sk sp sx sy sz) h1.out _).mono ?_
  rintro e w1 ⟨rfl, hb⟩
  obtain ⟨hc, hf⟩ := bcell hb
  go_wp2_with fail
  refine (refMayY (Sm.mk rf 3 2 rp rx ry rz) h2.out _).mono ?_
  rintro e w2 ⟨rfl, hb2⟩
  have hb := Grow.trans' hb hb2; clear hb2 hc hf; obtain ⟨hc, hf⟩ := bcell hb
  have hz : w.heap.size + 2 < w2.heap.size := by have := hb.size; simp at this; omega
  have hz1 : w.heap.size + 1 < w2.heap.size := by omega
  have hz0 : w.heap.size < w2.heap.size := by omega
  go_wp2_with fail
  repeat any_goals (first | (refine wp_loop_rounds 4 ?_; rw [rounds_succ]; go_wp2_with fail) | (rw [rounds_succ]; go_wp2_with fail) | (go_region; go_wp2_with fail))
  all_goals
    refine (refMayY (Sm.mk f 3 (minI sk 2) (sp + rp) (sx + rx) (sy + ry) (rz)) h4.out _).mono ?_
    rintro e w5 ⟨rfl, hb5⟩
    have KB : BoxS w5 w2.heap.size (Sm.mk f 3 (minI sk 2) (sp + rp) (sx + rx) (sy + ry) (rz)) := BoxS.later hb5 (by simp [BoxS, go_sem])
    have hb := Grow.trans' hb (Grow.trans' (by simp (maxDischargeDepth := 9) only [go_sem]) hb5)
    clear hb5 hc hf
    obtain ⟨k0, k1, k2, k3, k4, k5, k6⟩ := KB
    obtain ⟨hc, hf⟩ := bcell hb
    go_wp2
    refine bodyPost_ret (v := .tuple #[.agg #[.int .i64 f, .int .i64 3, .int .i64 (minI sk 2), .int .i64 (sp + rp), .int .i64 (sx + rx), .int .i64 (sy + ry), .int .i64 (rz)], .int .i64 0]) (by simp [results, Try.results18, go_sem, hc]) rfl ⟨rfl, ?_⟩
    iterate 7 refine Below.setCell ?_ (by simp; try omega) _
    exact Grow.trans' (Grow.trans' (Grow.trans' (Grow.alloc' _ _) (Grow.alloc' _ _)) (Grow.alloc' _ _)) hb
set_option maxHeartbeats 2000000 in
theorem refThen_3_3 (f sk sp sx sy sz rf rp rx ry rz : Int) (w : World) (h1 : Hid (mayS (Sm.mk f rf sk sp sx sy sz) = true)) (h2 : Hid (mayS (Sm.mk rf 3 3 rp rx ry rz) = true)) (h4 : Hid (mayS (Sm.mk f 3 (minI sk 3) (sp + rp) (sx + rx) (sy + ry) (sz + rz)) = true)) :
    Calls Try.prog 18 #[.agg #[.int .i64 f, .int .i64 rf, .int .i64 sk, .int .i64 sp, .int .i64 sx, .int .i64 sy, .int .i64 sz], .agg #[.int .i64 rf, .int .i64 3, .int .i64 3, .int .i64 rp, .int .i64 rx, .int .i64 ry, .int .i64 rz]] w fun e w' => e = .returned (.tuple #[.agg #[.int .i64 f, .int .i64 3, .int .i64 (minI sk 3), .int .i64 (sp + rp), .int .i64 (sx + rx), .int .i64 (sy + ry), .int .i64 (sz + rz)], .int .i64 0]) ∧ Below w.heap.size w w' := by
  obtain ⟨⟨a1, a2⟩, ⟨a3, a4⟩, ⟨a5, a6⟩, ⟨a7, a8⟩⟩ := mayS_small h1.out
  obtain ⟨⟨b1, b2⟩, ⟨b3, b4⟩, ⟨b5, b6⟩, ⟨b7, b8⟩⟩ := mayS_small h2.out
  dsimp only at a1 a2 a3 a4 a5 a6 a7 a8 b1 b2 b3 b4 b5 b6 b7 b8
  have we := wrap_small a1 a2 b1 b2 (Int.le_refl _)
  have wx := wrap_small a3 a4 b3 b4 (Int.le_refl _)
  have wy := wrap_small a5 a6 b5 b6 (Int.le_refl _)
  have wz := wrap_small a7 a8 b7 b8 (Int.le_refl _)
  clear a1 a2 a3 a4 a5 a6 a7 a8 b1 b2 b3 b4 b5 b6 b7 b8
  go_enter Try.func18, Try.ntmps18
  go_wp2_with fail
  refine (refMayY (Sm.mk f rf sk sp sx sy sz) h1.out _).mono ?_
  rintro e w1 ⟨rfl, hb⟩
  obtain ⟨hc, hf⟩ := bcell hb
  go_wp2_with fail
  refine (refMayY (Sm.mk rf 3 3 rp rx ry rz) h2.out _).mono ?_
  rintro e w2 ⟨rfl, hb2⟩
  have hb := Grow.trans' hb hb2; clear hb2 hc hf; obtain ⟨hc, hf⟩ := bcell hb
  have hz : w.heap.size + 2 < w2.heap.size := by have := hb.size; simp at this; omega
  have hz1 : w.heap.size + 1 < w2.heap.size := by omega
  have hz0 : w.heap.size < w2.heap.size := by omega
  go_wp2_with fail
  repeat any_goals (first | (refine wp_loop_rounds 4 ?_; rw [rounds_succ]; go_wp2_with fail) | (rw [rounds_succ]; go_wp2_with fail) | (go_region; go_wp2_with fail))
  all_goals
    refine (refMayY (Sm.mk f 3 (minI sk 3) (sp + rp) (sx + rx) (sy + ry) (sz + rz)) h4.out _).mono ?_
    rintro e w5 ⟨rfl, hb5⟩
    have KB : BoxS w5 w2.heap.size (Sm.mk f 3 (minI sk 3) (sp + rp) (sx + rx) (sy + ry) (sz + rz)) := BoxS.later hb5 (by simp [BoxS, go_sem])
    have hb := Grow.trans' hb (Grow.trans' (by simp (maxDischargeDepth := 9) only [go_sem]) hb5)
    clear hb5 hc hf
    obtain ⟨k0, k1, k2, k3, k4, k5, k6⟩ := KB
    obtain ⟨hc, hf⟩ := bcell hb
    go_wp2
    refine bodyPost_ret (v := .tuple #[.agg #[.int .i64 f, .int .i64 3, .int .i64 (minI sk 3), .int .i64 (sp + rp), .int .i64 (sx + rx), .int .i64 (sy + ry), .int .i64 (sz + rz)], .int .i64 0]) (by simp [results, Try.results18, go_sem, hc]) rfl ⟨rfl, ?_⟩
    iterate 7 refine Below.setCell ?_ (by simp; try omega) _
    exact Grow.trans' (Grow.trans' (Grow.trans' (Grow.alloc' _ _) (Grow.alloc' _ _)) (Grow.alloc' _ _)) hb
theorem refThenY (s r : Sm) (h1 : mayS s = true) (h2 : mayS r = true) (h3 : s.t = r.f) (h4 : mayS (rawS s r) = true) (w : World) :
    Calls Try.prog 18 #[.agg #[.int .i64 s.f, .int .i64 s.t, .int .i64 s.k, .int .i64 s.ep, .int .i64 s.x, .int .i64 s.y, .int .i64 s.z], .agg #[.int .i64 r.f, .int .i64 r.t, .int .i64 r.k, .int .i64 r.ep, .int .i64 r.x, .int .i64 r.y, .int .i64 r.z]] w fun e w' => e = .returned (.tuple #[.agg #[.int .i64 (rawS s r).f, .int .i64 (rawS s r).t, .int .i64 (rawS s r).k, .int .i64 (rawS s r).ep, .int .i64 (rawS s r).x, .int .i64 (rawS s r).y, .int .i64 (rawS s r).z], .int .i64 0]) ∧ Below w.heap.size w w' := by
  have hb := (mayS_iff r).1 h2
  obtain ⟨⟨_, _, _, _⟩, ⟨_, _, _⟩, -⟩ := hb
  obtain ⟨f, st, sk, sp, sx, sy, sz⟩ := s
  obtain ⟨rf, tt, k, rp, rx, ry, rz⟩ := r
  simp only at *
  subst h3
  have ht : tt = 0 ∧ k = 0 ∨ tt = 1 ∧ k = 0 ∨ tt = 1 ∧ k = 1 ∨ tt = 2 ∧ k = 0 ∨ tt = 2 ∧ k = 1 ∨ tt = 2 ∧ k = 2 ∨ tt = 3 ∧ k = 0 ∨ tt = 3 ∧ k = 1 ∨ tt = 3 ∧ k = 2 ∨ tt = 3 ∧ k = 3 := by omega
  rcases ht with ⟨rfl, rfl⟩ | ⟨rfl, rfl⟩ | ⟨rfl, rfl⟩ | ⟨rfl, rfl⟩ | ⟨rfl, rfl⟩ | ⟨rfl, rfl⟩ | ⟨rfl, rfl⟩ | ⟨rfl, rfl⟩ | ⟨rfl, rfl⟩ | ⟨rfl, rfl⟩
  · exact refThen_0_0 f sk sp sx sy sz _ rp rx ry rz w h1 h2 h4
  · exact refThen_1_0 f sk sp sx sy sz _ rp rx ry rz w h1 h2 h4
  · exact refThen_1_1 f sk sp sx sy sz _ rp rx ry rz w h1 h2 h4
  · exact refThen_2_0 f sk sp sx sy sz _ rp rx ry rz w h1 h2 h4
  · exact refThen_2_1 f sk sp sx sy sz _ rp rx ry rz w h1 h2 h4
  · exact refThen_2_2 f sk sp sx sy sz _ rp rx ry rz w h1 h2 h4
  · exact refThen_3_0 f sk sp sx sy sz _ rp rx ry rz w h1 h2 h4
  · exact refThen_3_1 f sk sp sx sy sz _ rp rx ry rz w h1 h2 h4
  · exact refThen_3_2 f sk sp sx sy sz _ rp rx ry rz w h1 h2 h4
  · exact refThen_3_3 f sk sp sx sy sz _ rp rx ry rz w h1 h2 h4
set_option maxHeartbeats 1000000 in
theorem refLeS_t_0_0_0 (f sp sx sy sz rp rx ry rz : Int) (w : World) (h1 : Hid (mayS (Sm.mk f 0 0 sp sx sy sz) = true)) (h2 : Hid (mayS (Sm.mk f 0 0 rp rx ry rz) = true)) (h5 : sp ≤ rp) :
    Calls Try.prog 20 #[.agg #[.int .i64 f, .int .i64 0, .int .i64 0, .int .i64 sp, .int .i64 sx, .int .i64 sy, .int .i64 sz], .agg #[.int .i64 f, .int .i64 0, .int .i64 0, .int .i64 rp, .int .i64 rx, .int .i64 ry, .int .i64 rz]] w fun e w' => e = .returned (.bool (leS (Sm.mk f 0 0 sp sx sy sz) (Sm.mk f 0 0 rp rx ry rz))) ∧ Below w.heap.size w w' := by
  go_enter Try.func20, Try.ntmps20
  go_wp2_with fail
  refine (refMayY (Sm.mk f 0 0 sp sx sy sz) h1.out _).mono ?_
  rintro e w1 ⟨rfl, hb⟩
  obtain ⟨hc, hf⟩ := bcell hb
  go_wp2_with fail
  refine (refMayY (Sm.mk f 0 0 rp rx ry rz) h2.out _).mono ?_
  rintro e w2 ⟨rfl, hb2⟩
  have hb := Grow.trans' hb hb2
  clear hb2 hc hf
  obtain ⟨hc, hf⟩ := bcell hb
  obtain ⟨k0, k1, k2, k3, k4, k5, k6⟩ : BoxS w2 w.heap.size (Sm.mk f 0 0 sp sx sy sz) := by simp [BoxS, hc, go_sem]
  obtain ⟨l0, l1, l2, l3, l4, l5, l6⟩ : BoxS w2 (w.heap.size + 1) (Sm.mk f 0 0 rp rx ry rz) := by simp [BoxS, hc, go_sem]
  dsimp only at k0 k1 k2 k3 k4 k5 k6 l0 l1 l2 l3 l4 l5 l6
  clear hc hf
  go_wp2
  repeat any_goals (first | (refine wp_loop_rounds 4 ?_; rw [rounds_succ]; go_wp2) | (rw [rounds_succ]; go_wp2) | (go_quiet (fail); go_wp2))
  all_goals go_ret
  all_goals refine ⟨ret_bool ?_, ?_⟩
  all_goals first | ((repeat with_reducible apply below_drewN); with_reducible exact Grow.trans' (Grow.trans' (Grow.alloc' _ _) (Grow.alloc' _ _)) hb) | (clear hb; rw [leS_iff]; simp [h1.out, h2.out]; done) | (clear hb; rw [leS_iff]; simp [h1.out, h2.out]; omega) | (clear hb; rw [leS_iff]; simp [h1.out, h2.out] at *; omega)
set_option maxHeartbeats 1000000 in
theorem refLeS_t_1_0_1 (f sp sx sy sz rp rx ry rz : Int) (w : World) (h1 : Hid (mayS (Sm.mk f 1 0 sp sx sy sz) = true)) (h2 : Hid (mayS (Sm.mk f 1 1 rp rx ry rz) = true)) (h5 : sp ≤ rp) :
    Calls Try.prog 20 #[.agg #[.int .i64 f, .int .i64 1, .int .i64 0, .int .i64 sp, .int .i64 sx, .int .i64 sy, .int .i64 sz], .agg #[.int .i64 f, .int .i64 1, .int .i64 1, .int .i64 rp, .int .i64 rx, .int .i64 ry, .int .i64 rz]] w fun e w' => e = .returned (.bool (leS (Sm.mk f 1 0 sp sx sy sz) (Sm.mk f 1 1 rp rx ry rz))) ∧ Below w.heap.size w w' := by
  go_enter Try.func20, Try.ntmps20
  go_wp2_with fail
  refine (refMayY (Sm.mk f 1 0 sp sx sy sz) h1.out _).mono ?_
  rintro e w1 ⟨rfl, hb⟩
  obtain ⟨hc, hf⟩ := bcell hb
  go_wp2_with fail
  refine (refMayY (Sm.mk f 1 1 rp rx ry rz) h2.out _).mono ?_
  rintro e w2 ⟨rfl, hb2⟩
  have hb := Grow.trans' hb hb2
  clear hb2 hc hf
  obtain ⟨hc, hf⟩ := bcell hb
  obtain ⟨k0, k1, k2, k3, k4, k5, k6⟩ : BoxS w2 w.heap.size (Sm.mk f 1 0 sp sx sy sz) := by simp [BoxS, hc, go_sem]
  obtain ⟨l0, l1, l2, l3, l4, l5, l6⟩ : BoxS w2 (w.heap.size + 1) (Sm.mk f 1 1 rp rx ry rz) := by simp [BoxS, hc, go_sem]
  dsimp only at k0 k1 k2 k3 k4 k5 k6 l0 l1 l2 l3 l4 l5 l6
  clear hc hf
  go_wp2
  repeat any_goals (first | (refine wp_loop_rounds 4 ?_; rw [rounds_succ]; go_wp2) | (rw [rounds_succ]; go_wp2) | (go_quiet (fail); go_wp2))
  all_goals go_ret
  all_goals refine ⟨ret_bool ?_, ?_⟩
  all_goals first | ((repeat with_reducible apply below_drewN); with_reducible exact Grow.trans' (Grow.trans' (Grow.alloc' _ _) (Grow.alloc' _ _)) hb) | (clear hb; rw [leS_iff]; simp [h1.out, h2.out]; done) | (clear hb; rw [leS_iff]; simp [h1.out, h2.out]; omega) | (clear hb; rw [leS_iff]; simp [h1.out, h2.out] at *; omega)
set_option maxHeartbeats 1000000 in
theorem refLeS_t_1_1_1 (f sp sx sy sz rp rx ry rz : Int) (w : World) (h1 : Hid (mayS (Sm.mk f 1 1 sp sx sy sz) = true)) (h2 : Hid (mayS (Sm.mk f 1 1 rp rx ry rz) = true)) (h5 : sp ≤ rp) :
    Calls Try.prog 20 #[.agg #[.int .i64 f, .int .i64 1, .int .i64 1, .int .i64 sp, .int .i64 sx, .int .i64 sy, .int .i64 sz], .agg #[.int .i64 f, .int .i64 1, .int .i64 1, .int .i64 rp, .int .i64 rx, .int .i64 ry, .int .i64 rz]] w fun e w' => e = .returned (.bool (leS (Sm.mk f 1 1 sp sx sy sz) (Sm.mk f 1 1 rp rx ry rz))) ∧ Below w.heap.size w w' := by
  go_enter Try.func20, Try.ntmps20
  go_wp2_with fail
  refine (refMayY (Sm.mk f 1 1 sp sx sy sz) h1.out _).mono ?_
  rintro e w1 ⟨rfl, hb⟩
  obtain ⟨hc, hf⟩ := bcell hb
  go_wp2_with fail
  refine (refMayY (Sm.mk f 1 1 rp rx ry rz) h2.out _).mono ?_
  rintro e w2 ⟨rfl, hb2⟩
  have hb := Grow.trans' hb hb2
  clear hb2 hc hf
  obtain ⟨hc, hf⟩ := bcell hb
  obtain ⟨k0, k1, k2, k3, k4, k5, k6⟩ : BoxS w2 w.heap.size (Sm.mk f 1 1 sp sx sy sz) := by simp [BoxS, hc, go_sem]
  obtain ⟨l0, l1, l2, l3, l4, l5, l6⟩ : BoxS w2 (w.heap.size + 1) (Sm.mk f 1 1 rp rx ry rz) := by simp [BoxS, hc, go_sem]
  dsimp only at k0 k1 k2 k3 k4 k5 k6 l0 l1 l2 l3 l4 l5 l6
  clear hc hf
  go_wp2
  repeat any_goals (first | (refine wp_loop_rounds 4 ?_; rw [rounds_succ]; go_wp2) | (rw [rounds_succ]; go_wp2) | (go_quiet (fail); go_wp2))
  all_goals go_ret
  all_goals refine ⟨ret_bool ?_, ?_⟩
  all_goals first | ((repeat with_reducible apply below_drewN); with_reducible exact Grow.trans' (Grow.trans' (Grow.alloc' _ _) (Grow.alloc' _ _)) hb) | (clear hb; rw [leS_iff]; simp [h1.out, h2.out]; done) | (clear hb; rw [leS_iff]; simp [h1.out, h2.out]; omega) | (clear hb; rw [leS_iff]; simp [h1.out, h2.out] at *; omega)
set_option maxHeartbeats 1000000 in
theorem refLeS_t_2_0_2 (f sp sx sy sz rp rx ry rz : Int) (w : World) (h1 : Hid (mayS (Sm.mk f 2 0 sp sx sy sz) = true)) (h2 : Hid (mayS (Sm.mk f 2 2 rp rx ry rz) = true)) (h5 : sp ≤ rp) :
    Calls Try.prog 20 #[.agg #[.int .i64 f, .int .i64 2, .int .i64 0, .int .i64 sp, .int .i64 sx, .int .i64 sy, .int .i64 sz], .agg #[.int .i64 f, .int .i64 2, .int .i64 2, .int .i64 rp, .int .i64 rx, .int .i64 ry, .int .i64 rz]] w fun e w' => e = .returned (.bool (leS (Sm.mk f 2 0 sp sx sy sz) (Sm.mk f 2 2 rp rx ry rz))) ∧ Below w.heap.size w w' := by
  go_enter Try.func20, Try.ntmps20
  go_wp2_with fail
  refine (refMayY (Sm.mk f 2 0 sp sx sy sz) h1.out _).mono ?_
  rintro e w1 ⟨rfl, hb⟩
  obtain ⟨hc, hf⟩ := bcell hb
  go_wp2_with fail
  refine (refMayY (Sm.mk f 2 2 rp rx ry rz) h2.out _).mono ?_
  rintro e w2 ⟨rfl, hb2⟩
  have hb := Grow.trans' hb hb2
  clear hb2 hc hf
  obtain ⟨hc, hf⟩ := bcell hb
  obtain ⟨k0, k1, k2, k3, k4, k5, k6⟩ : BoxS w2 w.heap.size (Sm.mk f 2 0 sp sx sy sz) := by simp [BoxS, hc, go_sem]
  obtain ⟨l0, l1, l2, l3, l4, l5, l6⟩ : BoxS w2 (w.heap.size + 1) (Sm.mk f 2 2 rp rx ry rz) := by simp [BoxS, hc, go_sem]
  dsimp only at k0 k1 k2 k3 k4 k5 k6 l0 l1 l2 l3 l4 l5 l6
  clear hc hf
  go_wp2
  repeat any_goals (first | (refine wp_loop_rounds 4 ?_; rw [rounds_succ]; go_wp2) | (rw [rounds_succ]; go_wp2) | (go_quiet (fail); go_wp2))
  all_goals go_ret
  all_goals refine ⟨ret_bool ?_, ?_⟩
  all_goals first | ((repeat with_reducible apply below_drewN); with_reducible exact Grow.trans' (Grow.trans' (Grow.alloc' _ _) (Grow.alloc' _ _)) hb) | (clear hb; rw [leS_iff]; simp [h1.out, h2.out]; done) | (clear hb; rw [leS_iff]; simp [h1.out, h2.out]; omega) | (clear hb; rw [leS_iff]; simp [h1.out, h2.out] at *; omega)
set_option maxHeartbeats 1000000 in
theorem refLeS_t_2_1_2 (f sp sx sy sz rp rx ry rz : Int) (w : World) (h1 : Hid (mayS (Sm.mk f 2 1 sp sx sy sz) = true)) (h2 : Hid (mayS (Sm.mk f 2 2 rp rx ry rz) = true)) (h5 : sp ≤ rp) :
    Calls Try.prog 20 #[.agg #[.int .i64 f, .int .i64 2, .int .i64 1, .int .i64 sp, .int .i64 sx, .int .i64 sy, .int .i64 sz], .agg #[.int .i64 f, .int .i64 2, .int .i64 2, .int .i64 rp, .int .i64 rx, .int .i64 ry, .int .i64 rz]] w fun e w' => e = .returned (.bool (leS (Sm.mk f 2 1 sp sx sy sz) (Sm.mk f 2 2 rp rx ry rz))) ∧ Below w.heap.size w w' := by
  go_enter Try.func20, Try.ntmps20
  go_wp2_with fail
  refine (refMayY (Sm.mk f 2 1 sp sx sy sz) h1.out _).mono ?_
  rintro e w1 ⟨rfl, hb⟩
  obtain ⟨hc, hf⟩ := bcell hb
  go_wp2_with fail
  refine (refMayY (Sm.mk f 2 2 rp rx ry rz) h2.out _).mono ?_
  rintro e w2 ⟨rfl, hb2⟩
  have hb := Grow.trans' hb hb2
  clear hb2 hc hf
  obtain ⟨hc, hf⟩ := bcell hb
  obtain ⟨k0, k1, k2, k3, k4, k5, k6⟩ : BoxS w2 w.heap.size (Sm.mk f 2 1 sp sx sy sz) := by simp [BoxS, hc, go_sem]
  obtain ⟨l0, l1, l2, l3, l4, l5, l6⟩ : BoxS w2 (w.heap.size + 1) (Sm.mk f 2 2 rp rx ry rz) := by simp [BoxS, hc, go_sem]
  dsimp only at k0 k1 k2 k3 k4 k5 k6 l0 l1 l2 l3 l4 l5 l6
  clear hc hf
  go_wp2
  repeat any_goals (first | (refine wp_loop_rounds 4 ?_; rw [rounds_succ]; go_wp2) | (rw [rounds_succ]; go_wp2) | (go_quiet (fail); go_wp2))
  all_goals go_ret
  all_goals refine ⟨ret_bool ?_, ?_⟩
  all_goals first | ((repeat with_reducible apply below_drewN); with_reducible exact Grow.trans' (Grow.trans' (Grow.alloc' _ _) (Grow.alloc' _ _)) hb) | (clear hb; rw [leS_iff]; simp [h1.out, h2.out]; done) | (clear hb; rw [leS_iff]; simp [h1.out, h2.out]; omega) | (clear hb; rw [leS_iff]; simp [h1.out, h2.out] at *; omega)
set_option maxHeartbeats 1000000 in
theorem refLeS_t_2_2_2 (f sp sx sy sz rp rx ry rz : Int) (w : World) (h1 : Hid (mayS (Sm.mk f 2 2 sp sx sy sz) = true)) (h2 : Hid (mayS (Sm.mk f 2 2 rp rx ry rz) = true)) (h5 : sp ≤ rp) :
    Calls Try.prog 20 #[.agg #[.int .i64 f, .int .i64 2, .int .i64 2, .int .i64 sp, .int .i64 sx, .int .i64 sy, .int .i64 sz], .agg #[.int .i64 f, .int .i64 2, .int .i64 2, .int .i64 rp, .int .i64 rx, .int .i64 ry, .int .i64 rz]] w fun e w' => e = .returned (.bool (leS (Sm.mk f 2 2 sp sx sy sz) (Sm.mk f 2 2 rp rx ry rz))) ∧ Below w.heap.size w w' := by
  go_enter Try.func20, Try.ntmps20
  go_wp2_with fail
  refine (refMayY (Sm.mk f 2 2 sp sx sy sz) h1.out _).mono ?_
  rintro e w1 ⟨rfl, hb⟩
  obtain ⟨hc, hf⟩ := bcell hb
  go_wp2_with fail
  refine (refMayY (Sm.mk f 2 2 rp rx ry rz) h2.out _).mono ?_
  rintro e w2 ⟨rfl, hb2⟩
  have hb := Grow.trans' hb hb2
  clear hb2 hc hf
  obtain ⟨hc, hf⟩ := bcell hb
  obtain ⟨k0, k1, k2, k3, k4, k5, k6⟩ : BoxS w2 w.heap.size (Sm.mk f 2 2 sp sx sy sz) := by simp [BoxS, hc, go_sem]
  obtain ⟨l0, l1, l2, l3, l4, l5, l6⟩ : BoxS w2 (w.heap.size + 1) (Sm.mk f 2 2 rp rx ry rz) := by simp [BoxS, hc, go_sem]
  dsimp only at k0 k1 k2 k3 k4 k5 k6 l0 l1 l2 l3 l4 l5 l6
  clear hc hf
  go_wp2
  repeat any_goals (first | (refine wp_loop_rounds 4 ?_; rw [rounds_succ]; go_wp2) | (rw [rounds_succ]; go_wp2) | (go_quiet (fail); go_wp2))
  all_goals go_ret
  all_goals refine ⟨ret_bool ?_, ?_⟩
  all_goals first | ((repeat with_reducible apply below_drewN); with_reducible exact Grow.trans' (Grow.trans' (Grow.alloc' _ _) (Grow.alloc' _ _)) hb) | (clear hb; rw [leS_iff]; simp [h1.out, h2.out]; done) | (clear hb; rw [leS_iff]; simp [h1.out, h2.out]; omega) | (clear hb; rw [leS_iff]; simp [h1.out, h2.out] at *; omega)
set_option maxHeartbeats 1000000 in
theorem refLeS_t_3_0_3 (f sp sx sy sz rp rx ry rz : Int) (w : World) (h1 : Hid (mayS (Sm.mk f 3 0 sp sx sy sz) = true)) (h2 : Hid (mayS (Sm.mk f 3 3 rp rx ry rz) = true)) (h5 : sp ≤ rp) :
    Calls Try.prog 20 #[.agg #[.int .i64 f, .int .i64 3, .int .i64 0, .int .i64 sp, .int .i64 sx, .int .i64 sy, .int .i64 sz], .agg #[.int .i64 f, .int .i64 3, .int .i64 3, .int .i64 rp, .int .i64 rx, .int .i64 ry, .int .i64 rz]] w fun e w' => e = .returned (.bool (leS (Sm.mk f 3 0 sp sx sy sz) (Sm.mk f 3 3 rp rx ry rz))) ∧ Below w.heap.size w w' := by
  go_enter Try.func20, Try.ntmps20
  go_wp2_with fail
  refine (refMayY (Sm.mk f 3 0 sp sx sy sz) h1.out _).mono ?_
  rintro e w1 ⟨rfl, hb⟩
  obtain ⟨hc, hf⟩ := bcell hb
  go_wp2_with fail
  refine (refMayY (Sm.mk f 3 3 rp rx ry rz) h2.out _).mono ?_
  rintro e w2 ⟨rfl, hb2⟩
  have hb := Grow.trans' hb hb2
  clear hb2 hc hf
  obtain ⟨hc, hf⟩ := bcell hb
  obtain ⟨k0, k1, k2, k3, k4, k5, k6⟩ : BoxS w2 w.heap.size (Sm.mk f 3 0 sp sx sy sz) := by simp [BoxS, hc, go_sem]
  obtain ⟨l0, l1, l2, l3, l4, l5, l6⟩ : BoxS w2 (w.heap.size + 1) (Sm.mk f 3 3 rp rx ry rz) := by simp [BoxS, hc, go_sem]
  dsimp only at k0 k1 k2 k3 k4 k5 k6 l0 l1 l2 l3 l4 l5 l6
  clear hc hf
  go_wp2
  repeat any_goals (first | (refine wp_loop_rounds 4 ?_; rw [rounds_succ]; go_wp2) | (rw [rounds_succ]; go_wp2) | (go_quiet (fail); go_wp2))
  all_goals go_ret
  all_goals refine ⟨ret_bool ?_, ?_⟩
  all_goals first | ((repeat with_reducible apply below_drewN); with_reducible exact Grow.trans' (Grow.trans' (Grow.alloc' _ _) (Grow.alloc' _ _)) hb) | (clear hb; rw [leS_iff]; simp [h1.out, h2.out]; done) | (clear hb; rw [leS_iff]; simp [h1.out, h2.out]; omega) | (clear hb; rw [leS_iff]; simp [h1.out, h2.out] at *; omega)
set_option maxHeartbeats 1000000 in
theorem refLeS_t_3_1_3 (f sp sx sy sz rp rx ry rz : Int) (w : World) (h1 : Hid (mayS (Sm.mk f 3 1 sp sx sy sz) = true)) (h2 : Hid (mayS (Sm.mk f 3 3 rp rx ry rz) = true)) (h5 : sp ≤ rp) :
    Calls Try.prog 20 #[.agg #[.int .i64 f, .int .i64 3, .int .i64 1, .int .i64 sp, .int .i64 sx, .int .i64 sy, .int .i64 sz], .agg #[.int .i64 f, .int .i64 3, .int .i64 3, .int .i64 rp, .int .i64 rx, .int .i64 ry, .int .i64 rz]] w fun e w' => e = .returned (.bool (leS (Sm.mk f 3 1 sp sx sy sz) (Sm.mk f 3 3 rp rx ry rz))) ∧ Below w.heap.size w w' := by
  go_enter Try.func20, Try.ntmps20
  go_wp2_with fail
  refine (refMayY (Sm.mk f 3 1 sp sx sy sz) h1.out _).mono ?_
  rintro e w1 ⟨rfl, hb⟩
  obtain ⟨hc, hf⟩ := bcell hb
  go_wp2_with fail
  refine (refMayY (Sm.mk f 3 3 rp rx ry rz) h2.out _).mono ?_
  rintro e w2 ⟨rfl, hb2⟩
  have hb := Grow.trans' hb hb2
  clear hb2 hc hf
  obtain ⟨hc, hf⟩ := bcell hb
  obtain ⟨k0, k1, k2, k3, k4, k5, k6⟩ : BoxS w2 w.heap.size (Sm.mk f 3 1 sp sx sy sz) := by simp [BoxS, hc, go_sem]
  obtain ⟨l0, l1, l2, l3, l4, l5, l6⟩ : BoxS w2 (w.heap.size + 1) (Sm.mk f 3 3 rp rx ry rz) := by simp [BoxS, hc, go_sem]
  dsimp only at k0 k1 k2 k3 k4 k5 k6 l0 l1 l2 l3 l4 l5 l6
  clear hc hf
  go_wp2
  repeat any_goals (first | (refine wp_loop_rounds 4 ?_; rw [rounds_succ]; go_wp2) | (rw [rounds_succ]; go_wp2) | (go_quiet (fail); go_wp2))
  all_goals go_ret
  all_goals refine ⟨ret_bool ?_, ?_⟩
  all_goals first | ((repeat with_reducible apply below_drewN); with_reducible exact Grow.trans' (Grow.trans' (Grow.alloc' _ _) (Grow.alloc' _ _)) hb) | (clear hb; rw [leS_iff]; simp [h1.out, h2.out]; done) | (clear hb; rw [leS_iff]; simp [h1.out, h2.out]; omega) | (clear hb; rw [leS_iff]; simp [h1.out, h2.out] at *; omega)
set_option maxHeartbeats 1000000 in
theorem refLeS_t_3_2_3 (f sp sx sy sz rp rx ry rz : Int) (w : World) (h1 : Hid (mayS (Sm.mk f 3 2 sp sx sy sz) = true)) (h2 : Hid (mayS (Sm.mk f 3 3 rp rx ry rz) = true)) (h5 : sp ≤ rp) :
    Calls Try.prog 20 #[.agg #[.int .i64 f, .int .i64 3, .int .i64 2, .int .i64 sp, .int .i64 sx, .int .i64 sy, .int .i64 sz], .agg #[.int .i64 f, .int .i64 3, .int .i64 3, .int .i64 rp, .int .i64 rx, .int .i64 ry, .int .i64 rz]] w fun e w' => e = .returned (.bool (leS (Sm.mk f 3 2 sp sx sy sz) (Sm.mk f 3 3 rp rx ry rz))) ∧ Below w.heap.size w w' := by
  go_enter Try.func20, Try.ntmps20
  go_wp2_with fail
  refine (refMayY (Sm.mk f 3 2 sp sx sy sz) h1.out _).mono ?_
  rintro e w1 ⟨rfl, hb⟩
  obtain ⟨hc, hf⟩ := bcell hb
  go_wp2_with fail
  refine (refMayY (Sm.mk f 3 3 rp rx ry rz) h2.out _).mono ?_
  rintro e w2 ⟨rfl, hb2⟩
  have hb := Grow.trans' hb hb2
  clear hb2 hc hf
  obtain ⟨hc, hf⟩ := bcell hb
  obtain ⟨k0, k1, k2, k3, k4, k5, k6⟩ : BoxS w2 w.heap.size (Sm.mk f 3 2 sp sx sy sz) := by simp [BoxS, hc, go_sem]
  obtain ⟨l0, l1, l2, l3, l4, l5, l6⟩ : BoxS w2 (w.heap.size + 1) (Sm.mk f 3 3 rp rx ry rz) := by simp [BoxS, hc, go_sem]
  dsimp only at k0 k1 k2 k3 k4 k5 k6 l0 l1 l2 l3 l4 l5 l6
  clear hc hf
  go_wp2
  repeat any_goals (first | (refine wp_loop_rounds 4 ?_; rw [rounds_succ]; go_wp2) | (rw [rounds_succ]; go_wp2) | (go_quiet (fail); go_wp2))
  all_goals go_ret
  all_goals refine ⟨ret_bool ?_, ?_⟩
  all_goals first | ((repeat with_reducible apply below_drewN); with_reducible exact Grow.trans' (Grow.trans' (Grow.alloc' _ _) (Grow.alloc' _ _)) hb) | (clear hb; rw [leS_iff]; simp [h1.out, h2.out]; done) | (clear hb; rw [leS_iff]; simp [h1.out, h2.out]; omega) | (clear hb; rw [leS_iff]; simp [h1.out, h2.out] at *; omega)
set_option maxHeartbeats 1000000 in
theorem refLeS_t_3_3_3 (f sp sx sy sz rp rx ry rz : Int) (w : World) (h1 : Hid (mayS (Sm.mk f 3 3 sp sx sy sz) = true)) (h2 : Hid (mayS (Sm.mk f 3 3 rp rx ry rz) = true)) (h5 : sp ≤ rp) :
    Calls Try.prog 20 #[.agg #[.int .i64 f, .int .i64 3, .int .i64 3, .int .i64 sp, .int .i64 sx, .int .i64 sy, .int .i64 sz], .agg #[.int .i64 f, .int .i64 3, .int .i64 3, .int .i64 rp, .int .i64 rx, .int .i64 ry, .int .i64 rz]] w fun e w' => e = .returned (.bool (leS (Sm.mk f 3 3 sp sx sy sz) (Sm.mk f 3 3 rp rx ry rz))) ∧ Below w.heap.size w w' := by
  go_enter Try.func20, Try.ntmps20
  go_wp2_with fail
  refine (refMayY (Sm.mk f 3 3 sp sx sy sz) h1.out _).mono ?_
  rintro e w1 ⟨rfl, hb⟩
  obtain ⟨hc, hf⟩ := bcell hb
  go_wp2_with fail
  refine (refMayY (Sm.mk f 3 3 rp rx ry rz) h2.out _).mono ?_
  rintro e w2 ⟨rfl, hb2⟩
  have hb := Grow.trans' hb hb2
  clear hb2 hc hf
  obtain ⟨hc, hf⟩ := bcell hb
  obtain ⟨k0, k1, k2, k3, k4, k5, k6⟩ : BoxS w2 w.heap.size (Sm.mk f 3 3 sp sx sy sz) := by simp [BoxS, hc, go_sem]
  obtain ⟨l0, l1, l2, l3, l4, l5, l6⟩ : BoxS w2 (w.heap.size + 1) (Sm.mk f 3 3 rp rx ry rz) := by simp [BoxS, hc, go_sem]
  dsimp only at k0 k1 k2 k3 k4 k5 k6 l0 l1 l2 l3 l4 l5 l6
  clear hc hf
  go_wp2
  repeat any_goals (first | (refine wp_loop_rounds 4 ?_; rw [rounds_succ]; go_wp2) | (rw [rounds_succ]; go_wp2) | (go_quiet (fail); go_wp2))
  all_goals go_ret
  all_goals refine ⟨ret_bool ?_, ?_⟩
  all_goals first | ((repeat with_reducible apply below_drewN); with_reducible exact Grow.trans' (Grow.trans' (Grow.alloc' _ _) (Grow.alloc' _ _)) hb) | (clear hb; rw [leS_iff]; simp [h1.out, h2.out]; done) | (clear hb; rw [leS_iff]; simp [h1.out, h2.out]; omega) | (clear hb; rw [leS_iff]; simp [h1.out, h2.out] at *; omega)

theorem refLeSY (s r : Sm) (h1 : mayS s = true) (h2 : mayS r = true) (h3 : s.f = r.f) (h4 : s.t = r.t) (h5 : s.ep ≤ r.ep) (h6 : r.k = r.t) (w : World) :
    Calls Try.prog 20 #[.agg #[.int .i64 s.f, .int .i64 s.t, .int .i64 s.k, .int .i64 s.ep, .int .i64 s.x, .int .i64 s.y, .int .i64 s.z], .agg #[.int .i64 r.f, .int .i64 r.t, .int .i64 r.k, .int .i64 r.ep, .int .i64 r.x, .int .i64 r.y, .int .i64 r.z]] w fun e w' => e = .returned (.bool (leS s r)) ∧ Below w.heap.size w w' := by
  have b1 := (mayS_iff s).1 h1
  obtain ⟨⟨-, -, t0, t3⟩, ⟨k0, -, k1⟩, -⟩ := b1
  obtain ⟨f, t, sk, sp, sx, sy, sz⟩ := s
  obtain ⟨f', t', rk, rp, rx, ry, rz⟩ := r
  simp only at h3 h4 h5 h6 t0 t3 k0 k1
  subst h3 h4
  have h7 := h6.symm
  clear h6
  subst h7
  have ht : t = 0 ∧ sk = 0 ∨ t = 1 ∧ sk = 0 ∨ t = 1 ∧ sk = 1 ∨ t = 2 ∧ sk = 0 ∨ t = 2 ∧ sk = 1 ∨ t = 2 ∧ sk = 2 ∨ t = 3 ∧ sk = 0 ∨ t = 3 ∧ sk = 1 ∨ t = 3 ∧ sk = 2 ∨ t = 3 ∧ sk = 3 := by omega
  rcases ht with ⟨rfl, rfl⟩ | ⟨rfl, rfl⟩ | ⟨rfl, rfl⟩ | ⟨rfl, rfl⟩ | ⟨rfl, rfl⟩ | ⟨rfl, rfl⟩ | ⟨rfl, rfl⟩ | ⟨rfl, rfl⟩ | ⟨rfl, rfl⟩ | ⟨rfl, rfl⟩
  · exact refLeS_t_0_0_0 f sp sx sy sz rp rx ry rz w h1 h2 h5
  · exact refLeS_t_1_0_1 f sp sx sy sz rp rx ry rz w h1 h2 h5
  · exact refLeS_t_1_1_1 f sp sx sy sz rp rx ry rz w h1 h2 h5
  · exact refLeS_t_2_0_2 f sp sx sy sz rp rx ry rz w h1 h2 h5
  · exact refLeS_t_2_1_2 f sp sx sy sz rp rx ry rz w h1 h2 h5
  · exact refLeS_t_2_2_2 f sp sx sy sz rp rx ry rz w h1 h2 h5
  · exact refLeS_t_3_0_3 f sp sx sy sz rp rx ry rz w h1 h2 h5
  · exact refLeS_t_3_1_3 f sp sx sy sz rp rx ry rz w h1 h2 h5
  · exact refLeS_t_3_2_3 f sp sx sy sz rp rx ry rz w h1 h2 h5
  · exact refLeS_t_3_3_3 f sp sx sy sz rp rx ry rz w h1 h2 h5

end Go.Proofs.Ytdgmfjaldicmgaa
