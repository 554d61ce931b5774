/-
  What LessEq of summaries, and the document's own, do to the world: for every two the answer; what was there stays as it was.
-/
import Derived.Test.YtehianjfpmbfpaaGreatSBx
import Derived.Test.YtehianjfpmbfpaaGreatSRMy
namespace Go.Proofs.YtehianjfpmbfpaaGreat
open Go.RowKit
set_option linter.unusedVariables false

theorem refMaySP (a : Sm) {p : Bool} (h : mayS a = p) (w : World) : Calls Tryz.prog 44 #[.agg #[.int .i64 a.f, .int .i64 a.t, .int .i64 a.k, .int .i64 a.ep, .int .i64 a.x, .int .i64 a.y, .int .i64 a.z]] w fun e w' => e = .returned (.bool p) ∧ Below w.heap.size w w' := by rw [← h]; exact refMayS_any a w
set_option maxHeartbeats 400000 in
theorem sLe_0 (s r : Sm) (w : World) (h1 : Hid (mayS s = false)) :
    Calls Tryz.prog 119 #[.agg #[.int .i64 s.f, .int .i64 s.t, .int .i64 s.k, .int .i64 s.ep, .int .i64 s.x, .int .i64 s.y, .int .i64 s.z], .agg #[.int .i64 r.f, .int .i64 r.t, .int .i64 r.k, .int .i64 r.ep, .int .i64 r.x, .int .i64 r.y, .int .i64 r.z]] w fun e w' => e = .returned (.bool false) ∧ Below w.heap.size w w' := by
  go_enter Tryz.func119, Tryz.ntmps119
  go_wp2_with fail
  refine (sMayP s h1.out _).mono ?_
  rintro e w1 ⟨rfl, hb⟩
  obtain ⟨hc, hf⟩ := bcell hb
  go_wp2_with fail
  all_goals go_ret
  all_goals refine ⟨rfl, ?_⟩
  all_goals exact Grow.trans' (Grow.trans' (Grow.alloc' _ _) (Grow.alloc' _ _)) hb
set_option maxHeartbeats 400000 in
theorem refLeS_0false (s r : Sm) (w : World) (h1 : Hid (mayS s = false)) (h2 : Hid (mayS r = false)) :
    Calls Tryz.prog 105 #[.agg #[.int .i64 s.f, .int .i64 s.t, .int .i64 s.k, .int .i64 s.ep, .int .i64 s.x, .int .i64 s.y, .int .i64 s.z], .agg #[.int .i64 r.f, .int .i64 r.t, .int .i64 r.k, .int .i64 r.ep, .int .i64 r.x, .int .i64 r.y, .int .i64 r.z]] w fun e w' => e = .returned (.bool false) ∧ Below w.heap.size w w' := by
  go_enter Tryz.func105, Tryz.ntmps105
  go_wp2_with fail
  refine (refMaySP s h1.out _).mono ?_
  rintro e w1 ⟨rfl, hb⟩
  obtain ⟨hc, hf⟩ := bcell hb
  go_wp2_with fail
  refine (refMaySP r h2.out _).mono ?_
  rintro e w2 ⟨rfl, hb2⟩
  have hb := Grow.trans' hb hb2
  clear hb2 hc hf
  obtain ⟨hc, hf⟩ := bcell hb
  go_wp2_with fail
  all_goals go_ret
  all_goals refine ⟨rfl, ?_⟩
  all_goals exact Grow.trans' (Grow.trans' (Grow.alloc' _ _) (Grow.alloc' _ _)) hb
set_option maxHeartbeats 400000 in
theorem refLeS_0true (s r : Sm) (w : World) (h1 : Hid (mayS s = false)) (h2 : Hid (mayS r = true)) :
    Calls Tryz.prog 105 #[.agg #[.int .i64 s.f, .int .i64 s.t, .int .i64 s.k, .int .i64 s.ep, .int .i64 s.x, .int .i64 s.y, .int .i64 s.z], .agg #[.int .i64 r.f, .int .i64 r.t, .int .i64 r.k, .int .i64 r.ep, .int .i64 r.x, .int .i64 r.y, .int .i64 r.z]] w fun e w' => e = .returned (.bool false) ∧ Below w.heap.size w w' := by
  go_enter Tryz.func105, Tryz.ntmps105
  go_wp2_with fail
  refine (refMaySP s h1.out _).mono ?_
  rintro e w1 ⟨rfl, hb⟩
  obtain ⟨hc, hf⟩ := bcell hb
  go_wp2_with fail
  refine (refMaySP r h2.out _).mono ?_
  rintro e w2 ⟨rfl, hb2⟩
  have hb := Grow.trans' hb hb2
  clear hb2 hc hf
  obtain ⟨hc, hf⟩ := bcell hb
  go_wp2_with fail
  all_goals go_ret
  all_goals refine ⟨rfl, ?_⟩
  all_goals exact Grow.trans' (Grow.trans' (Grow.alloc' _ _) (Grow.alloc' _ _)) hb
set_option maxHeartbeats 400000 in
theorem sLe_1 (s r : Sm) (w : World) (h1 : Hid (mayS s = true)) (h2 : Hid (mayS r = false)) :
    Calls Tryz.prog 119 #[.agg #[.int .i64 s.f, .int .i64 s.t, .int .i64 s.k, .int .i64 s.ep, .int .i64 s.x, .int .i64 s.y, .int .i64 s.z], .agg #[.int .i64 r.f, .int .i64 r.t, .int .i64 r.k, .int .i64 r.ep, .int .i64 r.x, .int .i64 r.y, .int .i64 r.z]] w fun e w' => e = .returned (.bool false) ∧ Below w.heap.size w w' := by
  go_enter Tryz.func119, Tryz.ntmps119
  go_wp2_with fail
  refine (sMayP s h1.out _).mono ?_
  rintro e w1 ⟨rfl, hb⟩
  obtain ⟨hc, hf⟩ := bcell hb
  go_wp2_with fail
  refine (sMayP r h2.out _).mono ?_
  rintro e w2 ⟨rfl, hb2⟩
  have hb := Grow.trans' hb hb2
  clear hb2 hc hf
  obtain ⟨hc, hf⟩ := bcell hb
  
  
  go_wp2_with fail
  all_goals go_ret
  all_goals refine ⟨rfl, ?_⟩
  all_goals exact Grow.trans' (Grow.trans' (Grow.alloc' _ _) (Grow.alloc' _ _)) hb
set_option maxHeartbeats 400000 in
theorem sLe_2 (s r : Sm) (w : World) (h1 : Hid (mayS s = true)) (h2 : Hid (mayS r = true)) (h3 : ¬ s.f = r.f) :
    Calls Tryz.prog 119 #[.agg #[.int .i64 s.f, .int .i64 s.t, .int .i64 s.k, .int .i64 s.ep, .int .i64 s.x, .int .i64 s.y, .int .i64 s.z], .agg #[.int .i64 r.f, .int .i64 r.t, .int .i64 r.k, .int .i64 r.ep, .int .i64 r.x, .int .i64 r.y, .int .i64 r.z]] w fun e w' => e = .returned (.bool false) ∧ Below w.heap.size w w' := by
  go_enter Tryz.func119, Tryz.ntmps119
  go_wp2_with fail
  refine (sMayP s h1.out _).mono ?_
  rintro e w1 ⟨rfl, hb⟩
  obtain ⟨hc, hf⟩ := bcell hb
  go_wp2_with fail
  refine (sMayP r h2.out _).mono ?_
  rintro e w2 ⟨rfl, hb2⟩
  have hb := Grow.trans' hb hb2
  clear hb2 hc hf
  obtain ⟨hc, hf⟩ := bcell hb
  
  
  go_wp2_with fail
  all_goals go_ret
  all_goals refine ⟨rfl, ?_⟩
  all_goals exact Grow.trans' (Grow.trans' (Grow.alloc' _ _) (Grow.alloc' _ _)) hb
set_option maxHeartbeats 400000 in
theorem sLe_3 (s r : Sm) (w : World) (h1 : Hid (mayS s = true)) (h2 : Hid (mayS r = true)) (g3 : Hid (s.f = r.f)) (h4 : ¬ s.t = r.t) :
    Calls Tryz.prog 119 #[.agg #[.int .i64 s.f, .int .i64 s.t, .int .i64 s.k, .int .i64 s.ep, .int .i64 s.x, .int .i64 s.y, .int .i64 s.z], .agg #[.int .i64 r.f, .int .i64 r.t, .int .i64 r.k, .int .i64 r.ep, .int .i64 r.x, .int .i64 r.y, .int .i64 r.z]] w fun e w' => e = .returned (.bool false) ∧ Below w.heap.size w w' := by
  go_enter Tryz.func119, Tryz.ntmps119
  go_wp2_with fail
  refine (sMayP s h1.out _).mono ?_
  rintro e w1 ⟨rfl, hb⟩
  obtain ⟨hc, hf⟩ := bcell hb
  go_wp2_with fail
  refine (sMayP r h2.out _).mono ?_
  rintro e w2 ⟨rfl, hb2⟩
  have hb := Grow.trans' hb hb2
  clear hb2 hc hf
  obtain ⟨hc, hf⟩ := bcell hb
  have h3 := g3.out
  
  go_wp2_with fail
  all_goals go_ret
  all_goals refine ⟨rfl, ?_⟩
  all_goals exact Grow.trans' (Grow.trans' (Grow.alloc' _ _) (Grow.alloc' _ _)) hb
set_option maxHeartbeats 400000 in
theorem sLe_4 (s r : Sm) (w : World) (h1 : Hid (mayS s = true)) (h2 : Hid (mayS r = true)) (g3 : Hid (s.f = r.f)) (g4 : Hid (s.t = r.t)) (h5 : r.ep < s.ep) :
    Calls Tryz.prog 119 #[.agg #[.int .i64 s.f, .int .i64 s.t, .int .i64 s.k, .int .i64 s.ep, .int .i64 s.x, .int .i64 s.y, .int .i64 s.z], .agg #[.int .i64 r.f, .int .i64 r.t, .int .i64 r.k, .int .i64 r.ep, .int .i64 r.x, .int .i64 r.y, .int .i64 r.z]] w fun e w' => e = .returned (.bool false) ∧ Below w.heap.size w w' := by
  go_enter Tryz.func119, Tryz.ntmps119
  go_wp2_with fail
  refine (sMayP s h1.out _).mono ?_
  rintro e w1 ⟨rfl, hb⟩
  obtain ⟨hc, hf⟩ := bcell hb
  go_wp2_with fail
  refine (sMayP r h2.out _).mono ?_
  rintro e w2 ⟨rfl, hb2⟩
  have hb := Grow.trans' hb hb2
  clear hb2 hc hf
  obtain ⟨hc, hf⟩ := bcell hb
  have h3 := g3.out
  have h4 := g4.out
  go_wp2_with fail
  all_goals go_ret
  all_goals refine ⟨rfl, ?_⟩
  all_goals exact Grow.trans' (Grow.trans' (Grow.alloc' _ _) (Grow.alloc' _ _)) hb
set_option maxHeartbeats 400000 in
theorem refLeS_1 (s r : Sm) (w : World) (h1 : Hid (mayS s = true)) (h2 : Hid (mayS r = false)) :
    Calls Tryz.prog 105 #[.agg #[.int .i64 s.f, .int .i64 s.t, .int .i64 s.k, .int .i64 s.ep, .int .i64 s.x, .int .i64 s.y, .int .i64 s.z], .agg #[.int .i64 r.f, .int .i64 r.t, .int .i64 r.k, .int .i64 r.ep, .int .i64 r.x, .int .i64 r.y, .int .i64 r.z]] w fun e w' => e = .returned (.bool false) ∧ Below w.heap.size w w' := by
  go_enter Tryz.func105, Tryz.ntmps105
  go_wp2_with fail
  refine (refMaySP s h1.out _).mono ?_
  rintro e w1 ⟨rfl, hb⟩
  obtain ⟨hc, hf⟩ := bcell hb
  go_wp2_with fail
  refine (refMaySP r h2.out _).mono ?_
  rintro e w2 ⟨rfl, hb2⟩
  have hb := Grow.trans' hb hb2
  clear hb2 hc hf
  obtain ⟨hc, hf⟩ := bcell hb
  
  
  go_wp2_with fail
  all_goals go_ret
  all_goals refine ⟨rfl, ?_⟩
  all_goals exact Grow.trans' (Grow.trans' (Grow.alloc' _ _) (Grow.alloc' _ _)) hb
set_option maxHeartbeats 400000 in
theorem refLeS_2 (s r : Sm) (w : World) (h1 : Hid (mayS s = true)) (h2 : Hid (mayS r = true)) (h3 : ¬ s.f = r.f) :
    Calls Tryz.prog 105 #[.agg #[.int .i64 s.f, .int .i64 s.t, .int .i64 s.k, .int .i64 s.ep, .int .i64 s.x, .int .i64 s.y, .int .i64 s.z], .agg #[.int .i64 r.f, .int .i64 r.t, .int .i64 r.k, .int .i64 r.ep, .int .i64 r.x, .int .i64 r.y, .int .i64 r.z]] w fun e w' => e = .returned (.bool false) ∧ Below w.heap.size w w' := by
  go_enter Tryz.func105, Tryz.ntmps105
  go_wp2_with fail
  refine (refMaySP s h1.out _).mono ?_
  rintro e w1 ⟨rfl, hb⟩
  obtain ⟨hc, hf⟩ := bcell hb
  go_wp2_with fail
  refine (refMaySP r h2.out _).mono ?_
  rintro e w2 ⟨rfl, hb2⟩
  have hb := Grow.trans' hb hb2
  clear hb2 hc hf
  obtain ⟨hc, hf⟩ := bcell hb
  
  
  go_wp2_with fail
  all_goals go_ret
  all_goals refine ⟨rfl, ?_⟩
  all_goals exact Grow.trans' (Grow.trans' (Grow.alloc' _ _) (Grow.alloc' _ _)) hb
set_option maxHeartbeats 400000 in
theorem refLeS_3 (s r : Sm) (w : World) (h1 : Hid (mayS s = true)) (h2 : Hid (mayS r = true)) (g3 : Hid (s.f = r.f)) (h4 : ¬ s.t = r.t) :
    Calls Tryz.prog 105 #[.agg #[.int .i64 s.f, .int .i64 s.t, .int .i64 s.k, .int .i64 s.ep, .int .i64 s.x, .int .i64 s.y, .int .i64 s.z], .agg #[.int .i64 r.f, .int .i64 r.t, .int .i64 r.k, .int .i64 r.ep, .int .i64 r.x, .int .i64 r.y, .int .i64 r.z]] w fun e w' => e = .returned (.bool false) ∧ Below w.heap.size w w' := by
  go_enter Tryz.func105, Tryz.ntmps105
  go_wp2_with fail
  refine (refMaySP s h1.out _).mono ?_
  rintro e w1 ⟨rfl, hb⟩
  obtain ⟨hc, hf⟩ := bcell hb
  go_wp2_with fail
  refine (refMaySP r h2.out _).mono ?_
  rintro e w2 ⟨rfl, hb2⟩
  have hb := Grow.trans' hb hb2
  clear hb2 hc hf
  obtain ⟨hc, hf⟩ := bcell hb
  have h3 := g3.out
  
  go_wp2_with fail
  all_goals go_ret
  all_goals refine ⟨rfl, ?_⟩
  all_goals exact Grow.trans' (Grow.trans' (Grow.alloc' _ _) (Grow.alloc' _ _)) hb
set_option maxHeartbeats 400000 in
theorem refLeS_4 (s r : Sm) (w : World) (h1 : Hid (mayS s = true)) (h2 : Hid (mayS r = true)) (g3 : Hid (s.f = r.f)) (g4 : Hid (s.t = r.t)) (h5 : r.ep < s.ep) :
    Calls Tryz.prog 105 #[.agg #[.int .i64 s.f, .int .i64 s.t, .int .i64 s.k, .int .i64 s.ep, .int .i64 s.x, .int .i64 s.y, .int .i64 s.z], .agg #[.int .i64 r.f, .int .i64 r.t, .int .i64 r.k, .int .i64 r.ep, .int .i64 r.x, .int .i64 r.y, .int .i64 r.z]] w fun e w' => e = .returned (.bool false) ∧ Below w.heap.size w w' := by
  go_enter Tryz.func105, Tryz.ntmps105
  go_wp2_with fail
  refine (refMaySP s h1.out _).mono ?_
  rintro e w1 ⟨rfl, hb⟩
  obtain ⟨hc, hf⟩ := bcell hb
  go_wp2_with fail
  refine (refMaySP r h2.out _).mono ?_
  rintro e w2 ⟨rfl, hb2⟩
  have hb := Grow.trans' hb hb2
  clear hb2 hc hf
  obtain ⟨hc, hf⟩ := bcell hb
  have h3 := g3.out
  have h4 := g4.out
  go_wp2_with fail
  all_goals go_ret
  all_goals refine ⟨rfl, ?_⟩
  all_goals exact Grow.trans' (Grow.trans' (Grow.alloc' _ _) (Grow.alloc' _ _)) hb
set_option maxHeartbeats 1000000 in
theorem sLe_t_0_0_0 (f sp sx sy sz rp rx ry rz : Int) (w : World) (h1 : Hid (mayS (Sm.mk f 0 0 sp sx sy sz) = true)) (h2 : Hid (mayS (Sm.mk f 0 0 rp rx ry rz) = true)) (h5 : sp ≤ rp) :
    Calls Tryz.prog 119 #[.agg #[.int .i64 f, .int .i64 0, .int .i64 0, .int .i64 sp, .int .i64 sx, .int .i64 sy, .int .i64 sz], .agg #[.int .i64 f, .int .i64 0, .int .i64 0, .int .i64 rp, .int .i64 rx, .int .i64 ry, .int .i64 rz]] w fun e w' => e = .returned (.bool (leS (Sm.mk f 0 0 sp sx sy sz) (Sm.mk f 0 0 rp rx ry rz))) ∧ Below w.heap.size w w' := by
  go_enter Tryz.func119, Tryz.ntmps119
  go_wp2_with fail
  refine (sMayP (Sm.mk f 0 0 sp sx sy sz) h1.out _).mono ?_
  rintro e w1 ⟨rfl, hb⟩
  obtain ⟨hc, hf⟩ := bcell hb
  go_wp2_with fail
  refine (sMayP (Sm.mk f 0 0 rp rx ry rz) h2.out _).mono ?_
  rintro e w2 ⟨rfl, hb2⟩
  have hb := Grow.trans' hb hb2
  clear hb2 hc hf
  obtain ⟨hc, hf⟩ := bcell hb
  obtain ⟨k0, k1, k2, k3, k4, k5, k6⟩ : SBox w2 w.heap.size (Sm.mk f 0 0 sp sx sy sz) := by simp [SBox, hc, go_sem]
  obtain ⟨l0, l1, l2, l3, l4, l5, l6⟩ : SBox w2 (w.heap.size + 1) (Sm.mk f 0 0 rp rx ry rz) := by simp [SBox, hc, go_sem]
  dsimp only at k0 k1 k2 k3 k4 k5 k6 l0 l1 l2 l3 l4 l5 l6
  clear hc hf
  go_wp2
  repeat any_goals (first | (refine wp_loop_rounds 4 ?_; rw [rounds_succ]; go_wp2) | (rw [rounds_succ]; go_wp2) | (go_quiet (fail); go_wp2))
  all_goals go_ret
  all_goals refine ⟨ret_bool ?_, ?_⟩
  all_goals first | ((repeat with_reducible apply below_drewN); with_reducible exact Grow.trans' (Grow.trans' (Grow.alloc' _ _) (Grow.alloc' _ _)) hb) | (clear hb; rw [leS_iff]; simp [h1.out, h2.out]; done) | (clear hb; rw [leS_iff]; simp [h1.out, h2.out]; omega) | (clear hb; rw [leS_iff]; simp [h1.out, h2.out] at *; omega)
set_option maxHeartbeats 1000000 in
theorem sLe_t_1_0_0 (f sp sx sy sz rp rx ry rz : Int) (w : World) (h1 : Hid (mayS (Sm.mk f 1 0 sp sx sy sz) = true)) (h2 : Hid (mayS (Sm.mk f 1 0 rp rx ry rz) = true)) (h5 : sp ≤ rp) :
    Calls Tryz.prog 119 #[.agg #[.int .i64 f, .int .i64 1, .int .i64 0, .int .i64 sp, .int .i64 sx, .int .i64 sy, .int .i64 sz], .agg #[.int .i64 f, .int .i64 1, .int .i64 0, .int .i64 rp, .int .i64 rx, .int .i64 ry, .int .i64 rz]] w fun e w' => e = .returned (.bool (leS (Sm.mk f 1 0 sp sx sy sz) (Sm.mk f 1 0 rp rx ry rz))) ∧ Below w.heap.size w w' := by
  go_enter Tryz.func119, Tryz.ntmps119
  go_wp2_with fail
  refine (sMayP (Sm.mk f 1 0 sp sx sy sz) h1.out _).mono ?_
  rintro e w1 ⟨rfl, hb⟩
  obtain ⟨hc, hf⟩ := bcell hb
  go_wp2_with fail
  refine (sMayP (Sm.mk f 1 0 rp rx ry rz) h2.out _).mono ?_
  rintro e w2 ⟨rfl, hb2⟩
  have hb := Grow.trans' hb hb2
  clear hb2 hc hf
  obtain ⟨hc, hf⟩ := bcell hb
  obtain ⟨k0, k1, k2, k3, k4, k5, k6⟩ : SBox w2 w.heap.size (Sm.mk f 1 0 sp sx sy sz) := by simp [SBox, hc, go_sem]
  obtain ⟨l0, l1, l2, l3, l4, l5, l6⟩ : SBox w2 (w.heap.size + 1) (Sm.mk f 1 0 rp rx ry rz) := by simp [SBox, hc, go_sem]
  dsimp only at k0 k1 k2 k3 k4 k5 k6 l0 l1 l2 l3 l4 l5 l6
  clear hc hf
  go_wp2
  repeat any_goals (first | (refine wp_loop_rounds 4 ?_; rw [rounds_succ]; go_wp2) | (rw [rounds_succ]; go_wp2) | (go_quiet (fail); go_wp2))
  all_goals go_ret
  all_goals refine ⟨ret_bool ?_, ?_⟩
  all_goals first | ((repeat with_reducible apply below_drewN); with_reducible exact Grow.trans' (Grow.trans' (Grow.alloc' _ _) (Grow.alloc' _ _)) hb) | (clear hb; rw [leS_iff]; simp [h1.out, h2.out]; done) | (clear hb; rw [leS_iff]; simp [h1.out, h2.out]; omega) | (clear hb; rw [leS_iff]; simp [h1.out, h2.out] at *; omega)
set_option maxHeartbeats 1000000 in
theorem sLe_t_1_0_1 (f sp sx sy sz rp rx ry rz : Int) (w : World) (h1 : Hid (mayS (Sm.mk f 1 0 sp sx sy sz) = true)) (h2 : Hid (mayS (Sm.mk f 1 1 rp rx ry rz) = true)) (h5 : sp ≤ rp) :
    Calls Tryz.prog 119 #[.agg #[.int .i64 f, .int .i64 1, .int .i64 0, .int .i64 sp, .int .i64 sx, .int .i64 sy, .int .i64 sz], .agg #[.int .i64 f, .int .i64 1, .int .i64 1, .int .i64 rp, .int .i64 rx, .int .i64 ry, .int .i64 rz]] w fun e w' => e = .returned (.bool (leS (Sm.mk f 1 0 sp sx sy sz) (Sm.mk f 1 1 rp rx ry rz))) ∧ Below w.heap.size w w' := by
  go_enter Tryz.func119, Tryz.ntmps119
  go_wp2_with fail
  refine (sMayP (Sm.mk f 1 0 sp sx sy sz) h1.out _).mono ?_
  rintro e w1 ⟨rfl, hb⟩
  obtain ⟨hc, hf⟩ := bcell hb
  go_wp2_with fail
  refine (sMayP (Sm.mk f 1 1 rp rx ry rz) h2.out _).mono ?_
  rintro e w2 ⟨rfl, hb2⟩
  have hb := Grow.trans' hb hb2
  clear hb2 hc hf
  obtain ⟨hc, hf⟩ := bcell hb
  obtain ⟨k0, k1, k2, k3, k4, k5, k6⟩ : SBox w2 w.heap.size (Sm.mk f 1 0 sp sx sy sz) := by simp [SBox, hc, go_sem]
  obtain ⟨l0, l1, l2, l3, l4, l5, l6⟩ : SBox w2 (w.heap.size + 1) (Sm.mk f 1 1 rp rx ry rz) := by simp [SBox, hc, go_sem]
  dsimp only at k0 k1 k2 k3 k4 k5 k6 l0 l1 l2 l3 l4 l5 l6
  clear hc hf
  go_wp2
  repeat any_goals (first | (refine wp_loop_rounds 4 ?_; rw [rounds_succ]; go_wp2) | (rw [rounds_succ]; go_wp2) | (go_quiet (fail); go_wp2))
  all_goals go_ret
  all_goals refine ⟨ret_bool ?_, ?_⟩
  all_goals first | ((repeat with_reducible apply below_drewN); with_reducible exact Grow.trans' (Grow.trans' (Grow.alloc' _ _) (Grow.alloc' _ _)) hb) | (clear hb; rw [leS_iff]; simp [h1.out, h2.out]; done) | (clear hb; rw [leS_iff]; simp [h1.out, h2.out]; omega) | (clear hb; rw [leS_iff]; simp [h1.out, h2.out] at *; omega)
set_option maxHeartbeats 1000000 in
theorem sLe_t_1_1_0 (f sp sx sy sz rp rx ry rz : Int) (w : World) (h1 : Hid (mayS (Sm.mk f 1 1 sp sx sy sz) = true)) (h2 : Hid (mayS (Sm.mk f 1 0 rp rx ry rz) = true)) (h5 : sp ≤ rp) :
    Calls Tryz.prog 119 #[.agg #[.int .i64 f, .int .i64 1, .int .i64 1, .int .i64 sp, .int .i64 sx, .int .i64 sy, .int .i64 sz], .agg #[.int .i64 f, .int .i64 1, .int .i64 0, .int .i64 rp, .int .i64 rx, .int .i64 ry, .int .i64 rz]] w fun e w' => e = .returned (.bool (leS (Sm.mk f 1 1 sp sx sy sz) (Sm.mk f 1 0 rp rx ry rz))) ∧ Below w.heap.size w w' := by
  go_enter Tryz.func119, Tryz.ntmps119
  go_wp2_with fail
  refine (sMayP (Sm.mk f 1 1 sp sx sy sz) h1.out _).mono ?_
  rintro e w1 ⟨rfl, hb⟩
  obtain ⟨hc, hf⟩ := bcell hb
  go_wp2_with fail
  refine (sMayP (Sm.mk f 1 0 rp rx ry rz) h2.out _).mono ?_
  rintro e w2 ⟨rfl, hb2⟩
  have hb := Grow.trans' hb hb2
  clear hb2 hc hf
  obtain ⟨hc, hf⟩ := bcell hb
  obtain ⟨k0, k1, k2, k3, k4, k5, k6⟩ : SBox w2 w.heap.size (Sm.mk f 1 1 sp sx sy sz) := by simp [SBox, hc, go_sem]
  obtain ⟨l0, l1, l2, l3, l4, l5, l6⟩ : SBox w2 (w.heap.size + 1) (Sm.mk f 1 0 rp rx ry rz) := by simp [SBox, hc, go_sem]
  dsimp only at k0 k1 k2 k3 k4 k5 k6 l0 l1 l2 l3 l4 l5 l6
  clear hc hf
  go_wp2
  repeat any_goals (first | (refine wp_loop_rounds 4 ?_; rw [rounds_succ]; go_wp2) | (rw [rounds_succ]; go_wp2) | (go_quiet (fail); go_wp2))
  all_goals go_ret
  all_goals refine ⟨ret_bool ?_, ?_⟩
  all_goals first | ((repeat with_reducible apply below_drewN); with_reducible exact Grow.trans' (Grow.trans' (Grow.alloc' _ _) (Grow.alloc' _ _)) hb) | (clear hb; rw [leS_iff]; simp [h1.out, h2.out]; done) | (clear hb; rw [leS_iff]; simp [h1.out, h2.out]; omega) | (clear hb; rw [leS_iff]; simp [h1.out, h2.out] at *; omega)
set_option maxHeartbeats 1000000 in
theorem sLe_t_1_1_1 (f sp sx sy sz rp rx ry rz : Int) (w : World) (h1 : Hid (mayS (Sm.mk f 1 1 sp sx sy sz) = true)) (h2 : Hid (mayS (Sm.mk f 1 1 rp rx ry rz) = true)) (h5 : sp ≤ rp) :
    Calls Tryz.prog 119 #[.agg #[.int .i64 f, .int .i64 1, .int .i64 1, .int .i64 sp, .int .i64 sx, .int .i64 sy, .int .i64 sz], .agg #[.int .i64 f, .int .i64 1, .int .i64 1, .int .i64 rp, .int .i64 rx, .int .i64 ry, .int .i64 rz]] w fun e w' => e = .returned (.bool (leS (Sm.mk f 1 1 sp sx sy sz) (Sm.mk f 1 1 rp rx ry rz))) ∧ Below w.heap.size w w' := by
  go_enter Tryz.func119, Tryz.ntmps119
  go_wp2_with fail
  refine (sMayP (Sm.mk f 1 1 sp sx sy sz) h1.out _).mono ?_
  rintro e w1 ⟨rfl, hb⟩
  obtain ⟨hc, hf⟩ := bcell hb
  go_wp2_with fail
  refine (sMayP (Sm.mk f 1 1 rp rx ry rz) h2.out _).mono ?_
  rintro e w2 ⟨rfl, hb2⟩
  have hb := Grow.trans' hb hb2
  clear hb2 hc hf
  obtain ⟨hc, hf⟩ := bcell hb
  obtain ⟨k0, k1, k2, k3, k4, k5, k6⟩ : SBox w2 w.heap.size (Sm.mk f 1 1 sp sx sy sz) := by simp [SBox, hc, go_sem]
  obtain ⟨l0, l1, l2, l3, l4, l5, l6⟩ : SBox w2 (w.heap.size + 1) (Sm.mk f 1 1 rp rx ry rz) := by simp [SBox, hc, go_sem]
  dsimp only at k0 k1 k2 k3 k4 k5 k6 l0 l1 l2 l3 l4 l5 l6
  clear hc hf
  go_wp2
  repeat any_goals (first | (refine wp_loop_rounds 4 ?_; rw [rounds_succ]; go_wp2) | (rw [rounds_succ]; go_wp2) | (go_quiet (fail); go_wp2))
  all_goals go_ret
  all_goals refine ⟨ret_bool ?_, ?_⟩
  all_goals first | ((repeat with_reducible apply below_drewN); with_reducible exact Grow.trans' (Grow.trans' (Grow.alloc' _ _) (Grow.alloc' _ _)) hb) | (clear hb; rw [leS_iff]; simp [h1.out, h2.out]; done) | (clear hb; rw [leS_iff]; simp [h1.out, h2.out]; omega) | (clear hb; rw [leS_iff]; simp [h1.out, h2.out] at *; omega)
set_option maxHeartbeats 1000000 in
theorem sLe_t_2_0_0 (f sp sx sy sz rp rx ry rz : Int) (w : World) (h1 : Hid (mayS (Sm.mk f 2 0 sp sx sy sz) = true)) (h2 : Hid (mayS (Sm.mk f 2 0 rp rx ry rz) = true)) (h5 : sp ≤ rp) :
    Calls Tryz.prog 119 #[.agg #[.int .i64 f, .int .i64 2, .int .i64 0, .int .i64 sp, .int .i64 sx, .int .i64 sy, .int .i64 sz], .agg #[.int .i64 f, .int .i64 2, .int .i64 0, .int .i64 rp, .int .i64 rx, .int .i64 ry, .int .i64 rz]] w fun e w' => e = .returned (.bool (leS (Sm.mk f 2 0 sp sx sy sz) (Sm.mk f 2 0 rp rx ry rz))) ∧ Below w.heap.size w w' := by
  go_enter Tryz.func119, Tryz.ntmps119
  go_wp2_with fail
  refine (sMayP (Sm.mk f 2 0 sp sx sy sz) h1.out _).mono ?_
  rintro e w1 ⟨rfl, hb⟩
  obtain ⟨hc, hf⟩ := bcell hb
  go_wp2_with fail
  refine (sMayP (Sm.mk f 2 0 rp rx ry rz) h2.out _).mono ?_
  rintro e w2 ⟨rfl, hb2⟩
  have hb := Grow.trans' hb hb2
  clear hb2 hc hf
  obtain ⟨hc, hf⟩ := bcell hb
  obtain ⟨k0, k1, k2, k3, k4, k5, k6⟩ : SBox w2 w.heap.size (Sm.mk f 2 0 sp sx sy sz) := by simp [SBox, hc, go_sem]
  obtain ⟨l0, l1, l2, l3, l4, l5, l6⟩ : SBox w2 (w.heap.size + 1) (Sm.mk f 2 0 rp rx ry rz) := by simp [SBox, hc, go_sem]
  dsimp only at k0 k1 k2 k3 k4 k5 k6 l0 l1 l2 l3 l4 l5 l6
  clear hc hf
  go_wp2
  repeat any_goals (first | (refine wp_loop_rounds 4 ?_; rw [rounds_succ]; go_wp2) | (rw [rounds_succ]; go_wp2) | (go_quiet (fail); go_wp2))
  all_goals go_ret
  all_goals refine ⟨ret_bool ?_, ?_⟩
  all_goals first | ((repeat with_reducible apply below_drewN); with_reducible exact Grow.trans' (Grow.trans' (Grow.alloc' _ _) (Grow.alloc' _ _)) hb) | (clear hb; rw [leS_iff]; simp [h1.out, h2.out]; done) | (clear hb; rw [leS_iff]; simp [h1.out, h2.out]; omega) | (clear hb; rw [leS_iff]; simp [h1.out, h2.out] at *; omega)
set_option maxHeartbeats 1000000 in
theorem sLe_t_2_0_1 (f sp sx sy sz rp rx ry rz : Int) (w : World) (h1 : Hid (mayS (Sm.mk f 2 0 sp sx sy sz) = true)) (h2 : Hid (mayS (Sm.mk f 2 1 rp rx ry rz) = true)) (h5 : sp ≤ rp) :
    Calls Tryz.prog 119 #[.agg #[.int .i64 f, .int .i64 2, .int .i64 0, .int .i64 sp, .int .i64 sx, .int .i64 sy, .int .i64 sz], .agg #[.int .i64 f, .int .i64 2, .int .i64 1, .int .i64 rp, .int .i64 rx, .int .i64 ry, .int .i64 rz]] w fun e w' => e = .returned (.bool (leS (Sm.mk f 2 0 sp sx sy sz) (Sm.mk f 2 1 rp rx ry rz))) ∧ Below w.heap.size w w' := by
  go_enter Tryz.func119, Tryz.ntmps119
  go_wp2_with fail
  refine (sMayP (Sm.mk f 2 0 sp sx sy sz) h1.out _).mono ?_
  rintro e w1 ⟨rfl, hb⟩
  obtain ⟨hc, hf⟩ := bcell hb
  go_wp2_with fail
  refine (sMayP (Sm.mk f 2 1 rp rx ry rz) h2.out _).mono ?_
  rintro e w2 ⟨rfl, hb2⟩
  have hb := Grow.trans' hb hb2
  clear hb2 hc hf
  obtain ⟨hc, hf⟩ := bcell hb
  obtain ⟨k0, k1, k2, k3, k4, k5, k6⟩ : SBox w2 w.heap.size (Sm.mk f 2 0 sp sx sy sz) := by simp [SBox, hc, go_sem]
  obtain ⟨l0, l1, l2, l3, l4, l5, l6⟩ : SBox w2 (w.heap.size + 1) (Sm.mk f 2 1 rp rx ry rz) := by simp [SBox, hc, go_sem]
  dsimp only at k0 k1 k2 k3 k4 k5 k6 l0 l1 l2 l3 l4 l5 l6
  clear hc hf
  go_wp2
  repeat any_goals (first | (refine wp_loop_rounds 4 ?_; rw [rounds_succ]; go_wp2) | (rw [rounds_succ]; go_wp2) | (go_quiet (fail); go_wp2))
  all_goals go_ret
  all_goals refine ⟨ret_bool ?_, ?_⟩
  all_goals first | ((repeat with_reducible apply below_drewN); with_reducible exact Grow.trans' (Grow.trans' (Grow.alloc' _ _) (Grow.alloc' _ _)) hb) | (clear hb; rw [leS_iff]; simp [h1.out, h2.out]; done) | (clear hb; rw [leS_iff]; simp [h1.out, h2.out]; omega) | (clear hb; rw [leS_iff]; simp [h1.out, h2.out] at *; omega)
set_option maxHeartbeats 1000000 in
theorem sLe_t_2_0_2 (f sp sx sy sz rp rx ry rz : Int) (w : World) (h1 : Hid (mayS (Sm.mk f 2 0 sp sx sy sz) = true)) (h2 : Hid (mayS (Sm.mk f 2 2 rp rx ry rz) = true)) (h5 : sp ≤ rp) :
    Calls Tryz.prog 119 #[.agg #[.int .i64 f, .int .i64 2, .int .i64 0, .int .i64 sp, .int .i64 sx, .int .i64 sy, .int .i64 sz], .agg #[.int .i64 f, .int .i64 2, .int .i64 2, .int .i64 rp, .int .i64 rx, .int .i64 ry, .int .i64 rz]] w fun e w' => e = .returned (.bool (leS (Sm.mk f 2 0 sp sx sy sz) (Sm.mk f 2 2 rp rx ry rz))) ∧ Below w.heap.size w w' := by
  go_enter Tryz.func119, Tryz.ntmps119
  go_wp2_with fail
  refine (sMayP (Sm.mk f 2 0 sp sx sy sz) h1.out _).mono ?_
  rintro e w1 ⟨rfl, hb⟩
  obtain ⟨hc, hf⟩ := bcell hb
  go_wp2_with fail
  refine (sMayP (Sm.mk f 2 2 rp rx ry rz) h2.out _).mono ?_
  rintro e w2 ⟨rfl, hb2⟩
  have hb := Grow.trans' hb hb2
  clear hb2 hc hf
  obtain ⟨hc, hf⟩ := bcell hb
  obtain ⟨k0, k1, k2, k3, k4, k5, k6⟩ : SBox w2 w.heap.size (Sm.mk f 2 0 sp sx sy sz) := by simp [SBox, hc, go_sem]
  obtain ⟨l0, l1, l2, l3, l4, l5, l6⟩ : SBox w2 (w.heap.size + 1) (Sm.mk f 2 2 rp rx ry rz) := by simp [SBox, hc, go_sem]
  dsimp only at k0 k1 k2 k3 k4 k5 k6 l0 l1 l2 l3 l4 l5 l6
  clear hc hf
  go_wp2
  repeat any_goals (first | (refine wp_loop_rounds 4 ?_; rw [rounds_succ]; go_wp2) | (rw [rounds_succ]; go_wp2) | (go_quiet (fail); go_wp2))
  all_goals go_ret
  all_goals refine ⟨ret_bool ?_, ?_⟩
  all_goals first | ((repeat with_reducible apply below_drewN); with_reducible exact Grow.trans' (Grow.trans' (Grow.alloc' _ _) (Grow.alloc' _ _)) hb) | (clear hb; rw [leS_iff]; simp [h1.out, h2.out]; done) | (clear hb; rw [leS_iff]; simp [h1.out, h2.out]; omega) | (clear hb; rw [leS_iff]; simp [h1.out, h2.out] at *; omega)
set_option maxHeartbeats 1000000 in
theorem sLe_t_2_1_0 (f sp sx sy sz rp rx ry rz : Int) (w : World) (h1 : Hid (mayS (Sm.mk f 2 1 sp sx sy sz) = true)) (h2 : Hid (mayS (Sm.mk f 2 0 rp rx ry rz) = true)) (h5 : sp ≤ rp) :
    Calls Tryz.prog 119 #[.agg #[.int .i64 f, .int .i64 2, .int .i64 1, .int .i64 sp, .int .i64 sx, .int .i64 sy, .int .i64 sz], .agg #[.int .i64 f, .int .i64 2, .int .i64 0, .int .i64 rp, .int .i64 rx, .int .i64 ry, .int .i64 rz]] w fun e w' => e = .returned (.bool (leS (Sm.mk f 2 1 sp sx sy sz) (Sm.mk f 2 0 rp rx ry rz))) ∧ Below w.heap.size w w' := by
  go_enter Tryz.func119, Tryz.ntmps119
  go_wp2_with fail
  refine (sMayP (Sm.mk f 2 1 sp sx sy sz) h1.out _).mono ?_
  rintro e w1 ⟨rfl, hb⟩
  obtain ⟨hc, hf⟩ := bcell hb
  go_wp2_with fail
  refine (sMayP (Sm.mk f 2 0 rp rx ry rz) h2.out _).mono ?_
  rintro e w2 ⟨rfl, hb2⟩
  have hb := Grow.trans' hb hb2
  clear hb2 hc hf
  obtain ⟨hc, hf⟩ := bcell hb
  obtain ⟨k0, k1, k2, k3, k4, k5, k6⟩ : SBox w2 w.heap.size (Sm.mk f 2 1 sp sx sy sz) := by simp [SBox, hc, go_sem]
  obtain ⟨l0, l1, l2, l3, l4, l5, l6⟩ : SBox w2 (w.heap.size + 1) (Sm.mk f 2 0 rp rx ry rz) := by simp [SBox, hc, go_sem]
  dsimp only at k0 k1 k2 k3 k4 k5 k6 l0 l1 l2 l3 l4 l5 l6
  clear hc hf
  go_wp2
  repeat any_goals (first | (refine wp_loop_rounds 4 ?_; rw [rounds_succ]; go_wp2) | (rw [rounds_succ]; go_wp2) | (go_quiet (fail); go_wp2))
  all_goals go_ret
  all_goals refine ⟨ret_bool ?_, ?_⟩
  all_goals first | ((repeat with_reducible apply below_drewN); with_reducible exact Grow.trans' (Grow.trans' (Grow.alloc' _ _) (Grow.alloc' _ _)) hb) | (clear hb; rw [leS_iff]; simp [h1.out, h2.out]; done) | (clear hb; rw [leS_iff]; simp [h1.out, h2.out]; omega) | (clear hb; rw [leS_iff]; simp [h1.out, h2.out] at *; omega)
set_option maxHeartbeats 1000000 in
theorem sLe_t_2_1_1 (f sp sx sy sz rp rx ry rz : Int) (w : World) (h1 : Hid (mayS (Sm.mk f 2 1 sp sx sy sz) = true)) (h2 : Hid (mayS (Sm.mk f 2 1 rp rx ry rz) = true)) (h5 : sp ≤ rp) :
    Calls Tryz.prog 119 #[.agg #[.int .i64 f, .int .i64 2, .int .i64 1, .int .i64 sp, .int .i64 sx, .int .i64 sy, .int .i64 sz], .agg #[.int .i64 f, .int .i64 2, .int .i64 1, .int .i64 rp, .int .i64 rx, .int .i64 ry, .int .i64 rz]] w fun e w' => e = .returned (.bool (leS (Sm.mk f 2 1 sp sx sy sz) (Sm.mk f 2 1 rp rx ry rz))) ∧ Below w.heap.size w w' := by
  go_enter Tryz.func119, Tryz.ntmps119
  go_wp2_with fail
  refine (sMayP (Sm.mk f 2 1 sp sx sy sz) h1.out _).mono ?_
  rintro e w1 ⟨rfl, hb⟩
  obtain ⟨hc, hf⟩ := bcell hb
  go_wp2_with fail
  refine (sMayP (Sm.mk f 2 1 rp rx ry rz) h2.out _).mono ?_
  rintro e w2 ⟨rfl, hb2⟩
  have hb := Grow.trans' hb hb2
  clear hb2 hc hf
  obtain ⟨hc, hf⟩ := bcell hb
  obtain ⟨k0, k1, k2, k3, k4, k5, k6⟩ : SBox w2 w.heap.size (Sm.mk f 2 1 sp sx sy sz) := by simp [SBox, hc, go_sem]
  obtain ⟨l0, l1, l2, l3, l4, l5, l6⟩ : SBox w2 (w.heap.size + 1) (Sm.mk f 2 1 rp rx ry rz) := by simp [SBox, hc, go_sem]
  dsimp only at k0 k1 k2 k3 k4 k5 k6 l0 l1 l2 l3 l4 l5 l6
  clear hc hf
  go_wp2
  repeat any_goals (first | (refine wp_loop_rounds 4 ?_; rw [rounds_succ]; go_wp2) | (rw [rounds_succ]; go_wp2) | (go_quiet (fail); go_wp2))
  all_goals go_ret
  all_goals refine ⟨ret_bool ?_, ?_⟩
  all_goals first | ((repeat with_reducible apply below_drewN); with_reducible exact Grow.trans' (Grow.trans' (Grow.alloc' _ _) (Grow.alloc' _ _)) hb) | (clear hb; rw [leS_iff]; simp [h1.out, h2.out]; done) | (clear hb; rw [leS_iff]; simp [h1.out, h2.out]; omega) | (clear hb; rw [leS_iff]; simp [h1.out, h2.out] at *; omega)
set_option maxHeartbeats 1000000 in
theorem sLe_t_2_1_2 (f sp sx sy sz rp rx ry rz : Int) (w : World) (h1 : Hid (mayS (Sm.mk f 2 1 sp sx sy sz) = true)) (h2 : Hid (mayS (Sm.mk f 2 2 rp rx ry rz) = true)) (h5 : sp ≤ rp) :
    Calls Tryz.prog 119 #[.agg #[.int .i64 f, .int .i64 2, .int .i64 1, .int .i64 sp, .int .i64 sx, .int .i64 sy, .int .i64 sz], .agg #[.int .i64 f, .int .i64 2, .int .i64 2, .int .i64 rp, .int .i64 rx, .int .i64 ry, .int .i64 rz]] w fun e w' => e = .returned (.bool (leS (Sm.mk f 2 1 sp sx sy sz) (Sm.mk f 2 2 rp rx ry rz))) ∧ Below w.heap.size w w' := by
  go_enter Tryz.func119, Tryz.ntmps119
  go_wp2_with fail
  refine (sMayP (Sm.mk f 2 1 sp sx sy sz) h1.out _).mono ?_
  rintro e w1 ⟨rfl, hb⟩
  obtain ⟨hc, hf⟩ := bcell hb
  go_wp2_with fail
  refine (sMayP (Sm.mk f 2 2 rp rx ry rz) h2.out _).mono ?_
  rintro e w2 ⟨rfl, hb2⟩
  have hb := Grow.trans' hb hb2
  clear hb2 hc hf
  obtain ⟨hc, hf⟩ := bcell hb
  obtain ⟨k0, k1, k2, k3, k4, k5, k6⟩ : SBox w2 w.heap.size (Sm.mk f 2 1 sp sx sy sz) := by simp [SBox, hc, go_sem]
  obtain ⟨l0, l1, l2, l3, l4, l5, l6⟩ : SBox w2 (w.heap.size + 1) (Sm.mk f 2 2 rp rx ry rz) := by simp [SBox, hc, go_sem]
  dsimp only at k0 k1 k2 k3 k4 k5 k6 l0 l1 l2 l3 l4 l5 l6
  clear hc hf
  go_wp2
  repeat any_goals (first | (refine wp_loop_rounds 4 ?_; rw [rounds_succ]; go_wp2) | (rw [rounds_succ]; go_wp2) | (go_quiet (fail); go_wp2))
  all_goals go_ret
  all_goals refine ⟨ret_bool ?_, ?_⟩
  all_goals first | ((repeat with_reducible apply below_drewN); with_reducible exact Grow.trans' (Grow.trans' (Grow.alloc' _ _) (Grow.alloc' _ _)) hb) | (clear hb; rw [leS_iff]; simp [h1.out, h2.out]; done) | (clear hb; rw [leS_iff]; simp [h1.out, h2.out]; omega) | (clear hb; rw [leS_iff]; simp [h1.out, h2.out] at *; omega)
set_option maxHeartbeats 1000000 in
theorem sLe_t_2_2_0 (f sp sx sy sz rp rx ry rz : Int) (w : World) (h1 : Hid (mayS (Sm.mk f 2 2 sp sx sy sz) = true)) (h2 : Hid (mayS (Sm.mk f 2 0 rp rx ry rz) = true)) (h5 : sp ≤ rp) :
    Calls Tryz.prog 119 #[.agg #[.int .i64 f, .int .i64 2, .int .i64 2, .int .i64 sp, .int .i64 sx, .int .i64 sy, .int .i64 sz], .agg #[.int .i64 f, .int .i64 2, .int .i64 0, .int .i64 rp, .int .i64 rx, .int .i64 ry, .int .i64 rz]] w fun e w' => e = .returned (.bool (leS (Sm.mk f 2 2 sp sx sy sz) (Sm.mk f 2 0 rp rx ry rz))) ∧ Below w.heap.size w w' := by
  go_enter Tryz.func119, Tryz.ntmps119
  go_wp2_with fail
  refine (sMayP (Sm.mk f 2 2 sp sx sy sz) h1.out _).mono ?_
  rintro e w1 ⟨rfl, hb⟩
  obtain ⟨hc, hf⟩ := bcell hb
  go_wp2_with fail
  refine (sMayP (Sm.mk f 2 0 rp rx ry rz) h2.out _).mono ?_
  rintro e w2 ⟨rfl, hb2⟩
  have hb := Grow.trans' hb hb2
  clear hb2 hc hf
  obtain ⟨hc, hf⟩ := bcell hb
  obtain ⟨k0, k1, k2, k3, k4, k5, k6⟩ : SBox w2 w.heap.size (Sm.mk f 2 2 sp sx sy sz) := by simp [SBox, hc, go_sem]
  obtain ⟨l0, l1, l2, l3, l4, l5, l6⟩ : SBox w2 (w.heap.size + 1) (Sm.mk f 2 0 rp rx ry rz) := by simp [SBox, hc, go_sem]
  dsimp only at k0 k1 k2 k3 k4 k5 k6 l0 l1 l2 l3 l4 l5 l6
  clear hc hf
  go_wp2
  repeat any_goals (first | (refine wp_loop_rounds 4 ?_; rw [rounds_succ]; go_wp2) | (rw [rounds_succ]; go_wp2) | (go_quiet (fail); go_wp2))
  all_goals go_ret
  all_goals refine ⟨ret_bool ?_, ?_⟩
  all_goals first | ((repeat with_reducible apply below_drewN); with_reducible exact Grow.trans' (Grow.trans' (Grow.alloc' _ _) (Grow.alloc' _ _)) hb) | (clear hb; rw [leS_iff]; simp [h1.out, h2.out]; done) | (clear hb; rw [leS_iff]; simp [h1.out, h2.out]; omega) | (clear hb; rw [leS_iff]; simp [h1.out, h2.out] at *; omega)
set_option maxHeartbeats 1000000 in
theorem sLe_t_2_2_1 (f sp sx sy sz rp rx ry rz : Int) (w : World) (h1 : Hid (mayS (Sm.mk f 2 2 sp sx sy sz) = true)) (h2 : Hid (mayS (Sm.mk f 2 1 rp rx ry rz) = true)) (h5 : sp ≤ rp) :
    Calls Tryz.prog 119 #[.agg #[.int .i64 f, .int .i64 2, .int .i64 2, .int .i64 sp, .int .i64 sx, .int .i64 sy, .int .i64 sz], .agg #[.int .i64 f, .int .i64 2, .int .i64 1, .int .i64 rp, .int .i64 rx, .int .i64 ry, .int .i64 rz]] w fun e w' => e = .returned (.bool (leS (Sm.mk f 2 2 sp sx sy sz) (Sm.mk f 2 1 rp rx ry rz))) ∧ Below w.heap.size w w' := by
  go_enter Tryz.func119, Tryz.ntmps119
  go_wp2_with fail
  refine (sMayP (Sm.mk f 2 2 sp sx sy sz) h1.out _).mono ?_
  rintro e w1 ⟨rfl, hb⟩
  obtain ⟨hc, hf⟩ := bcell hb
  go_wp2_with fail
  refine (sMayP (Sm.mk f 2 1 rp rx ry rz) h2.out _).mono ?_
  rintro e w2 ⟨rfl, hb2⟩
  have hb := Grow.trans' hb hb2
  clear hb2 hc hf
  obtain ⟨hc, hf⟩ := bcell hb
  obtain ⟨k0, k1, k2, k3, k4, k5, k6⟩ : SBox w2 w.heap.size (Sm.mk f 2 2 sp sx sy sz) := by simp [SBox, hc, go_sem]
  obtain ⟨l0, l1, l2, l3, l4, l5, l6⟩ : SBox w2 (w.heap.size + 1) (Sm.mk f 2 1 rp rx ry rz) := by simp [SBox, hc, go_sem]
  dsimp only at k0 k1 k2 k3 k4 k5 k6 l0 l1 l2 l3 l4 l5 l6
  clear hc hf
  go_wp2
  repeat any_goals (first | (refine wp_loop_rounds 4 ?_; rw [rounds_succ]; go_wp2) | (rw [rounds_succ]; go_wp2) | (go_quiet (fail); go_wp2))
  all_goals go_ret
  all_goals refine ⟨ret_bool ?_, ?_⟩
  all_goals first | ((repeat with_reducible apply below_drewN); with_reducible exact Grow.trans' (Grow.trans' (Grow.alloc' _ _) (Grow.alloc' _ _)) hb) | (clear hb; rw [leS_iff]; simp [h1.out, h2.out]; done) | (clear hb; rw [leS_iff]; simp [h1.out, h2.out]; omega) | (clear hb; rw [leS_iff]; simp [h1.out, h2.out] at *; omega)
set_option maxHeartbeats 1000000 in
theorem sLe_t_2_2_2 (f sp sx sy sz rp rx ry rz : Int) (w : World) (h1 : Hid (mayS (Sm.mk f 2 2 sp sx sy sz) = true)) (h2 : Hid (mayS (Sm.mk f 2 2 rp rx ry rz) = true)) (h5 : sp ≤ rp) :
    Calls Tryz.prog 119 #[.agg #[.int .i64 f, .int .i64 2, .int .i64 2, .int .i64 sp, .int .i64 sx, .int .i64 sy, .int .i64 sz], .agg #[.int .i64 f, .int .i64 2, .int .i64 2, .int .i64 rp, .int .i64 rx, .int .i64 ry, .int .i64 rz]] w fun e w' => e = .returned (.bool (leS (Sm.mk f 2 2 sp sx sy sz) (Sm.mk f 2 2 rp rx ry rz))) ∧ Below w.heap.size w w' := by
  go_enter Tryz.func119, Tryz.ntmps119
  go_wp2_with fail
  refine (sMayP (Sm.mk f 2 2 sp sx sy sz) h1.out _).mono ?_
  rintro e w1 ⟨rfl, hb⟩
  obtain ⟨hc, hf⟩ := bcell hb
  go_wp2_with fail
  refine (sMayP (Sm.mk f 2 2 rp rx ry rz) h2.out _).mono ?_
  rintro e w2 ⟨rfl, hb2⟩
  have hb := Grow.trans' hb hb2
  clear hb2 hc hf
  obtain ⟨hc, hf⟩ := bcell hb
  obtain ⟨k0, k1, k2, k3, k4, k5, k6⟩ : SBox w2 w.heap.size (Sm.mk f 2 2 sp sx sy sz) := by simp [SBox, hc, go_sem]
  obtain ⟨l0, l1, l2, l3, l4, l5, l6⟩ : SBox w2 (w.heap.size + 1) (Sm.mk f 2 2 rp rx ry rz) := by simp [SBox, hc, go_sem]
  dsimp only at k0 k1 k2 k3 k4 k5 k6 l0 l1 l2 l3 l4 l5 l6
  clear hc hf
  go_wp2
  repeat any_goals (first | (refine wp_loop_rounds 4 ?_; rw [rounds_succ]; go_wp2) | (rw [rounds_succ]; go_wp2) | (go_quiet (fail); go_wp2))
  all_goals go_ret
  all_goals refine ⟨ret_bool ?_, ?_⟩
  all_goals first | ((repeat with_reducible apply below_drewN); with_reducible exact Grow.trans' (Grow.trans' (Grow.alloc' _ _) (Grow.alloc' _ _)) hb) | (clear hb; rw [leS_iff]; simp [h1.out, h2.out]; done) | (clear hb; rw [leS_iff]; simp [h1.out, h2.out]; omega) | (clear hb; rw [leS_iff]; simp [h1.out, h2.out] at *; omega)
set_option maxHeartbeats 1000000 in
theorem sLe_t_3_0_0 (f sp sx sy sz rp rx ry rz : Int) (w : World) (h1 : Hid (mayS (Sm.mk f 3 0 sp sx sy sz) = true)) (h2 : Hid (mayS (Sm.mk f 3 0 rp rx ry rz) = true)) (h5 : sp ≤ rp) :
    Calls Tryz.prog 119 #[.agg #[.int .i64 f, .int .i64 3, .int .i64 0, .int .i64 sp, .int .i64 sx, .int .i64 sy, .int .i64 sz], .agg #[.int .i64 f, .int .i64 3, .int .i64 0, .int .i64 rp, .int .i64 rx, .int .i64 ry, .int .i64 rz]] w fun e w' => e = .returned (.bool (leS (Sm.mk f 3 0 sp sx sy sz) (Sm.mk f 3 0 rp rx ry rz))) ∧ Below w.heap.size w w' := by
  go_enter Tryz.func119, Tryz.ntmps119
  go_wp2_with fail
  refine (sMayP (Sm.mk f 3 0 sp sx sy sz) h1.out _).mono ?_
  rintro e w1 ⟨rfl, hb⟩
  obtain ⟨hc, hf⟩ := bcell hb
  go_wp2_with fail
  refine (sMayP (Sm.mk f 3 0 rp rx ry rz) h2.out _).mono ?_
  rintro e w2 ⟨rfl, hb2⟩
  have hb := Grow.trans' hb hb2
  clear hb2 hc hf
  obtain ⟨hc, hf⟩ := bcell hb
  obtain ⟨k0, k1, k2, k3, k4, k5, k6⟩ : SBox w2 w.heap.size (Sm.mk f 3 0 sp sx sy sz) := by simp [SBox, hc, go_sem]
  obtain ⟨l0, l1, l2, l3, l4, l5, l6⟩ : SBox w2 (w.heap.size + 1) (Sm.mk f 3 0 rp rx ry rz) := by simp [SBox, hc, go_sem]
  dsimp only at k0 k1 k2 k3 k4 k5 k6 l0 l1 l2 l3 l4 l5 l6
  clear hc hf
  go_wp2
  repeat any_goals (first | (refine wp_loop_rounds 4 ?_; rw [rounds_succ]; go_wp2) | (rw [rounds_succ]; go_wp2) | (go_quiet (fail); go_wp2))
  all_goals go_ret
  all_goals refine ⟨ret_bool ?_, ?_⟩
  all_goals first | ((repeat with_reducible apply below_drewN); with_reducible exact Grow.trans' (Grow.trans' (Grow.alloc' _ _) (Grow.alloc' _ _)) hb) | (clear hb; rw [leS_iff]; simp [h1.out, h2.out]; done) | (clear hb; rw [leS_iff]; simp [h1.out, h2.out]; omega) | (clear hb; rw [leS_iff]; simp [h1.out, h2.out] at *; omega)
set_option maxHeartbeats 1000000 in
theorem sLe_t_3_0_1 (f sp sx sy sz rp rx ry rz : Int) (w : World) (h1 : Hid (mayS (Sm.mk f 3 0 sp sx sy sz) = true)) (h2 : Hid (mayS (Sm.mk f 3 1 rp rx ry rz) = true)) (h5 : sp ≤ rp) :
    Calls Tryz.prog 119 #[.agg #[.int .i64 f, .int .i64 3, .int .i64 0, .int .i64 sp, .int .i64 sx, .int .i64 sy, .int .i64 sz], .agg #[.int .i64 f, .int .i64 3, .int .i64 1, .int .i64 rp, .int .i64 rx, .int .i64 ry, .int .i64 rz]] w fun e w' => e = .returned (.bool (leS (Sm.mk f 3 0 sp sx sy sz) (Sm.mk f 3 1 rp rx ry rz))) ∧ Below w.heap.size w w' := by
  go_enter Tryz.func119, Tryz.ntmps119
  go_wp2_with fail
  refine (sMayP (Sm.mk f 3 0 sp sx sy sz) h1.out _).mono ?_
  rintro e w1 ⟨rfl, hb⟩
  obtain ⟨hc, hf⟩ := bcell hb
  go_wp2_with fail
  refine (sMayP (Sm.mk f 3 1 rp rx ry rz) h2.out _).mono ?_
  rintro e w2 ⟨rfl, hb2⟩
  have hb := Grow.trans' hb hb2
  clear hb2 hc hf
  obtain ⟨hc, hf⟩ := bcell hb
  obtain ⟨k0, k1, k2, k3, k4, k5, k6⟩ : SBox w2 w.heap.size (Sm.mk f 3 0 sp sx sy sz) := by simp [SBox, hc, go_sem]
  obtain ⟨l0, l1, l2, l3, l4, l5, l6⟩ : SBox w2 (w.heap.size + 1) (Sm.mk f 3 1 rp rx ry rz) := by simp [SBox, hc, go_sem]
  dsimp only at k0 k1 k2 k3 k4 k5 k6 l0 l1 l2 l3 l4 l5 l6
  clear hc hf
  go_wp2
  repeat any_goals (first | (refine wp_loop_rounds 4 ?_; rw [rounds_succ]; go_wp2) | (rw [rounds_succ]; go_wp2) | (go_quiet (fail); go_wp2))
  all_goals go_ret
  all_goals refine ⟨ret_bool ?_, ?_⟩
  all_goals first | ((repeat with_reducible apply below_drewN); with_reducible exact Grow.trans' (Grow.trans' (Grow.alloc' _ _) (Grow.alloc' _ _)) hb) | (clear hb; rw [leS_iff]; simp [h1.out, h2.out]; done) | (clear hb; rw [leS_iff]; simp [h1.out, h2.out]; omega) | (clear hb; rw [leS_iff]; simp [h1.out, h2.out] at *; omega)
set_option maxHeartbeats 1000000 in
theorem sLe_t_3_0_2 (f sp sx sy sz rp rx ry rz : Int) (w : World) (h1 : Hid (mayS (Sm.mk f 3 0 sp sx sy sz) = true)) (h2 : Hid (mayS (Sm.mk f 3 2 rp rx ry rz) = true)) (h5 : sp ≤ rp) :
    Calls Tryz.prog 119 #[.agg #[.int .i64 f, .int .i64 3, .int .i64 0, .int .i64 sp, .int .i64 sx, .int .i64 sy, .int .i64 sz], .agg #[.int .i64 f, .int .i64 3, .int .i64 2, .int .i64 rp, .int .i64 rx, .int .i64 ry, .int .i64 rz]] w fun e w' => e = .returned (.bool (leS (Sm.mk f 3 0 sp sx sy sz) (Sm.mk f 3 2 rp rx ry rz))) ∧ Below w.heap.size w w' := by
  go_enter Tryz.func119, Tryz.ntmps119
  go_wp2_with fail
  refine (sMayP (Sm.mk f 3 0 sp sx sy sz) h1.out _).mono ?_
  rintro e w1 ⟨rfl, hb⟩
  obtain ⟨hc, hf⟩ := bcell hb
  go_wp2_with fail
  refine (sMayP (Sm.mk f 3 2 rp rx ry rz) h2.out _).mono ?_
  rintro e w2 ⟨rfl, hb2⟩
  have hb := Grow.trans' hb hb2
  clear hb2 hc hf
  obtain ⟨hc, hf⟩ := bcell hb
  obtain ⟨k0, k1, k2, k3, k4, k5, k6⟩ : SBox w2 w.heap.size (Sm.mk f 3 0 sp sx sy sz) := by simp [SBox, hc, go_sem]
  obtain ⟨l0, l1, l2, l3, l4, l5, l6⟩ : SBox w2 (w.heap.size + 1) (Sm.mk f 3 2 rp rx ry rz) := by simp [SBox, hc, go_sem]
  dsimp only at k0 k1 k2 k3 k4 k5 k6 l0 l1 l2 l3 l4 l5 l6
  clear hc hf
  go_wp2
  repeat any_goals (first | (refine wp_loop_rounds 4 ?_; rw [rounds_succ]; go_wp2) | (rw [rounds_succ]; go_wp2) | (go_quiet (fail); go_wp2))
  all_goals go_ret
  all_goals refine ⟨ret_bool ?_, ?_⟩
  all_goals first | ((repeat with_reducible apply below_drewN); with_reducible exact Grow.trans' (Grow.trans' (Grow.alloc' _ _) (Grow.alloc' _ _)) hb) | (clear hb; rw [leS_iff]; simp [h1.out, h2.out]; done) | (clear hb; rw [leS_iff]; simp [h1.out, h2.out]; omega) | (clear hb; rw [leS_iff]; simp [h1.out, h2.out] at *; omega)
set_option maxHeartbeats 1000000 in
theorem sLe_t_3_0_3 (f sp sx sy sz rp rx ry rz : Int) (w : World) (h1 : Hid (mayS (Sm.mk f 3 0 sp sx sy sz) = true)) (h2 : Hid (mayS (Sm.mk f 3 3 rp rx ry rz) = true)) (h5 : sp ≤ rp) :
    Calls Tryz.prog 119 #[.agg #[.int .i64 f, .int .i64 3, .int .i64 0, .int .i64 sp, .int .i64 sx, .int .i64 sy, .int .i64 sz], .agg #[.int .i64 f, .int .i64 3, .int .i64 3, .int .i64 rp, .int .i64 rx, .int .i64 ry, .int .i64 rz]] w fun e w' => e = .returned (.bool (leS (Sm.mk f 3 0 sp sx sy sz) (Sm.mk f 3 3 rp rx ry rz))) ∧ Below w.heap.size w w' := by
  go_enter Tryz.func119, Tryz.ntmps119
  go_wp2_with fail
  refine (sMayP (Sm.mk f 3 0 sp sx sy sz) h1.out _).mono ?_
  rintro e w1 ⟨rfl, hb⟩
  obtain ⟨hc, hf⟩ := bcell hb
  go_wp2_with fail
  refine (sMayP (Sm.mk f 3 3 rp rx ry rz) h2.out _).mono ?_
  rintro e w2 ⟨rfl, hb2⟩
  have hb := Grow.trans' hb hb2
  clear hb2 hc hf
  obtain ⟨hc, hf⟩ := bcell hb
  obtain ⟨k0, k1, k2, k3, k4, k5, k6⟩ : SBox w2 w.heap.size (Sm.mk f 3 0 sp sx sy sz) := by simp [SBox, hc, go_sem]
  obtain ⟨l0, l1, l2, l3, l4, l5, l6⟩ : SBox w2 (w.heap.size + 1) (Sm.mk f 3 3 rp rx ry rz) := by simp [SBox, hc, go_sem]
  dsimp only at k0 k1 k2 k3 k4 k5 k6 l0 l1 l2 l3 l4 l5 l6
  clear hc hf
  go_wp2
  repeat any_goals (first | (refine wp_loop_rounds 4 ?_; rw [rounds_succ]; go_wp2) | (rw [rounds_succ]; go_wp2) | (go_quiet (fail); go_wp2))
  all_goals go_ret
  all_goals refine ⟨ret_bool ?_, ?_⟩
  all_goals first | ((repeat with_reducible apply below_drewN); with_reducible exact Grow.trans' (Grow.trans' (Grow.alloc' _ _) (Grow.alloc' _ _)) hb) | (clear hb; rw [leS_iff]; simp [h1.out, h2.out]; done) | (clear hb; rw [leS_iff]; simp [h1.out, h2.out]; omega) | (clear hb; rw [leS_iff]; simp [h1.out, h2.out] at *; omega)
set_option maxHeartbeats 1000000 in
theorem sLe_t_3_1_0 (f sp sx sy sz rp rx ry rz : Int) (w : World) (h1 : Hid (mayS (Sm.mk f 3 1 sp sx sy sz) = true)) (h2 : Hid (mayS (Sm.mk f 3 0 rp rx ry rz) = true)) (h5 : sp ≤ rp) :
    Calls Tryz.prog 119 #[.agg #[.int .i64 f, .int .i64 3, .int .i64 1, .int .i64 sp, .int .i64 sx, .int .i64 sy, .int .i64 sz], .agg #[.int .i64 f, .int .i64 3, .int .i64 0, .int .i64 rp, .int .i64 rx, .int .i64 ry, .int .i64 rz]] w fun e w' => e = .returned (.bool (leS (Sm.mk f 3 1 sp sx sy sz) (Sm.mk f 3 0 rp rx ry rz))) ∧ Below w.heap.size w w' := by
  go_enter Tryz.func119, Tryz.ntmps119
  go_wp2_with fail
  refine (sMayP (Sm.mk f 3 1 sp sx sy sz) h1.out _).mono ?_
  rintro e w1 ⟨rfl, hb⟩
  obtain ⟨hc, hf⟩ := bcell hb
  go_wp2_with fail
  refine (sMayP (Sm.mk f 3 0 rp rx ry rz) h2.out _).mono ?_
  rintro e w2 ⟨rfl, hb2⟩
  have hb := Grow.trans' hb hb2
  clear hb2 hc hf
  obtain ⟨hc, hf⟩ := bcell hb
  obtain ⟨k0, k1, k2, k3, k4, k5, k6⟩ : SBox w2 w.heap.size (Sm.mk f 3 1 sp sx sy sz) := by simp [SBox, hc, go_sem]
  obtain ⟨l0, l1, l2, l3, l4, l5, l6⟩ : SBox w2 (w.heap.size + 1) (Sm.mk f 3 0 rp rx ry rz) := by simp [SBox, hc, go_sem]
  dsimp only at k0 k1 k2 k3 k4 k5 k6 l0 l1 l2 l3 l4 l5 l6
  clear hc hf
  go_wp2
  repeat any_goals (first | (refine wp_loop_rounds 4 ?_; rw [rounds_succ]; go_wp2) | (rw [rounds_succ]; go_wp2) | (go_quiet (fail); go_wp2))
  all_goals go_ret
  all_goals refine ⟨ret_bool ?_, ?_⟩
  all_goals first | ((repeat with_reducible apply below_drewN); with_reducible exact Grow.trans' (Grow.trans' (Grow.alloc' _ _) (Grow.alloc' _ _)) hb) | (clear hb; rw [leS_iff]; simp [h1.out, h2.out]; done) | (clear hb; rw [leS_iff]; simp [h1.out, h2.out]; omega) | (clear hb; rw [leS_iff]; simp [h1.out, h2.out] at *; omega)
set_option maxHeartbeats 1000000 in
theorem sLe_t_3_1_1 (f sp sx sy sz rp rx ry rz : Int) (w : World) (h1 : Hid (mayS (Sm.mk f 3 1 sp sx sy sz) = true)) (h2 : Hid (mayS (Sm.mk f 3 1 rp rx ry rz) = true)) (h5 : sp ≤ rp) :
    Calls Tryz.prog 119 #[.agg #[.int .i64 f, .int .i64 3, .int .i64 1, .int .i64 sp, .int .i64 sx, .int .i64 sy, .int .i64 sz], .agg #[.int .i64 f, .int .i64 3, .int .i64 1, .int .i64 rp, .int .i64 rx, .int .i64 ry, .int .i64 rz]] w fun e w' => e = .returned (.bool (leS (Sm.mk f 3 1 sp sx sy sz) (Sm.mk f 3 1 rp rx ry rz))) ∧ Below w.heap.size w w' := by
  go_enter Tryz.func119, Tryz.ntmps119
  go_wp2_with fail
  refine (sMayP (Sm.mk f 3 1 sp sx sy sz) h1.out _).mono ?_
  rintro e w1 ⟨rfl, hb⟩
  obtain ⟨hc, hf⟩ := bcell hb
  go_wp2_with fail
  refine (sMayP (Sm.mk f 3 1 rp rx ry rz) h2.out _).mono ?_
  rintro e w2 ⟨rfl, hb2⟩
  have hb := Grow.trans' hb hb2
  clear hb2 hc hf
  obtain ⟨hc, hf⟩ := bcell hb
  obtain ⟨k0, k1, k2, k3, k4, k5, k6⟩ : SBox w2 w.heap.size (Sm.mk f 3 1 sp sx sy sz) := by simp [SBox, hc, go_sem]
  obtain ⟨l0, l1, l2, l3, l4, l5, l6⟩ : SBox w2 (w.heap.size + 1) (Sm.mk f 3 1 rp rx ry rz) := by simp [SBox, hc, go_sem]
  dsimp only at k0 k1 k2 k3 k4 k5 k6 l0 l1 l2 l3 l4 l5 l6
  clear hc hf
  go_wp2
  repeat any_goals (first | (refine wp_loop_rounds 4 ?_; rw [rounds_succ]; go_wp2) | (rw [rounds_succ]; go_wp2) | (go_quiet (fail); go_wp2))
  all_goals go_ret
  all_goals refine ⟨ret_bool ?_, ?_⟩
  all_goals first | ((repeat with_reducible apply below_drewN); with_reducible exact Grow.trans' (Grow.trans' (Grow.alloc' _ _) (Grow.alloc' _ _)) hb) | (clear hb; rw [leS_iff]; simp [h1.out, h2.out]; done) | (clear hb; rw [leS_iff]; simp [h1.out, h2.out]; omega) | (clear hb; rw [leS_iff]; simp [h1.out, h2.out] at *; omega)
set_option maxHeartbeats 1000000 in
theorem sLe_t_3_1_2 (f sp sx sy sz rp rx ry rz : Int) (w : World) (h1 : Hid (mayS (Sm.mk f 3 1 sp sx sy sz) = true)) (h2 : Hid (mayS (Sm.mk f 3 2 rp rx ry rz) = true)) (h5 : sp ≤ rp) :
    Calls Tryz.prog 119 #[.agg #[.int .i64 f, .int .i64 3, .int .i64 1, .int .i64 sp, .int .i64 sx, .int .i64 sy, .int .i64 sz], .agg #[.int .i64 f, .int .i64 3, .int .i64 2, .int .i64 rp, .int .i64 rx, .int .i64 ry, .int .i64 rz]] w fun e w' => e = .returned (.bool (leS (Sm.mk f 3 1 sp sx sy sz) (Sm.mk f 3 2 rp rx ry rz))) ∧ Below w.heap.size w w' := by
  go_enter Tryz.func119, Tryz.ntmps119
  go_wp2_with fail
  refine (sMayP (Sm.mk f 3 1 sp sx sy sz) h1.out _).mono ?_
  rintro e w1 ⟨rfl, hb⟩
  obtain ⟨hc, hf⟩ := bcell hb
  go_wp2_with fail
  refine (sMayP (Sm.mk f 3 2 rp rx ry rz) h2.out _).mono ?_
  rintro e w2 ⟨rfl, hb2⟩
  have hb := Grow.trans' hb hb2
  clear hb2 hc hf
  obtain ⟨hc, hf⟩ := bcell hb
  obtain ⟨k0, k1, k2, k3, k4, k5, k6⟩ : SBox w2 w.heap.size (Sm.mk f 3 1 sp sx sy sz) := by simp [SBox, hc, go_sem]
  obtain ⟨l0, l1, l2, l3, l4, l5, l6⟩ : SBox w2 (w.heap.size + 1) (Sm.mk f 3 2 rp rx ry rz) := by simp [SBox, hc, go_sem]
  dsimp only at k0 k1 k2 k3 k4 k5 k6 l0 l1 l2 l3 l4 l5 l6
  clear hc hf
  go_wp2
  repeat any_goals (first | (refine wp_loop_rounds 4 ?_; rw [rounds_succ]; go_wp2) | (rw [rounds_succ]; go_wp2) | (go_quiet (fail); go_wp2))
  all_goals go_ret
  all_goals refine ⟨ret_bool ?_, ?_⟩
  all_goals first | ((repeat with_reducible apply below_drewN); with_reducible exact Grow.trans' (Grow.trans' (Grow.alloc' _ _) (Grow.alloc' _ _)) hb) | (clear hb; rw [leS_iff]; simp [h1.out, h2.out]; done) | (clear hb; rw [leS_iff]; simp [h1.out, h2.out]; omega) | (clear hb; rw [leS_iff]; simp [h1.out, h2.out] at *; omega)
set_option maxHeartbeats 1000000 in
theorem sLe_t_3_1_3 (f sp sx sy sz rp rx ry rz : Int) (w : World) (h1 : Hid (mayS (Sm.mk f 3 1 sp sx sy sz) = true)) (h2 : Hid (mayS (Sm.mk f 3 3 rp rx ry rz) = true)) (h5 : sp ≤ rp) :
    Calls Tryz.prog 119 #[.agg #[.int .i64 f, .int .i64 3, .int .i64 1, .int .i64 sp, .int .i64 sx, .int .i64 sy, .int .i64 sz], .agg #[.int .i64 f, .int .i64 3, .int .i64 3, .int .i64 rp, .int .i64 rx, .int .i64 ry, .int .i64 rz]] w fun e w' => e = .returned (.bool (leS (Sm.mk f 3 1 sp sx sy sz) (Sm.mk f 3 3 rp rx ry rz))) ∧ Below w.heap.size w w' := by
  go_enter Tryz.func119, Tryz.ntmps119
  go_wp2_with fail
  refine (sMayP (Sm.mk f 3 1 sp sx sy sz) h1.out _).mono ?_
  rintro e w1 ⟨rfl, hb⟩
  obtain ⟨hc, hf⟩ := bcell hb
  go_wp2_with fail
  refine (sMayP (Sm.mk f 3 3 rp rx ry rz) h2.out _).mono ?_
  rintro e w2 ⟨rfl, hb2⟩
  have hb := Grow.trans' hb hb2
  clear hb2 hc hf
  obtain ⟨hc, hf⟩ := bcell hb
  obtain ⟨k0, k1, k2, k3, k4, k5, k6⟩ : SBox w2 w.heap.size (Sm.mk f 3 1 sp sx sy sz) := by simp [SBox, hc, go_sem]
  obtain ⟨l0, l1, l2, l3, l4, l5, l6⟩ : SBox w2 (w.heap.size + 1) (Sm.mk f 3 3 rp rx ry rz) := by simp [SBox, hc, go_sem]
  dsimp only at k0 k1 k2 k3 k4 k5 k6 l0 l1 l2 l3 l4 l5 l6
  clear hc hf
  go_wp2
  repeat any_goals (first | (refine wp_loop_rounds 4 ?_; rw [rounds_succ]; go_wp2) | (rw [rounds_succ]; go_wp2) | (go_quiet (fail); go_wp2))
  all_goals go_ret
  all_goals refine ⟨ret_bool ?_, ?_⟩
  all_goals first | ((repeat with_reducible apply below_drewN); with_reducible exact Grow.trans' (Grow.trans' (Grow.alloc' _ _) (Grow.alloc' _ _)) hb) | (clear hb; rw [leS_iff]; simp [h1.out, h2.out]; done) | (clear hb; rw [leS_iff]; simp [h1.out, h2.out]; omega) | (clear hb; rw [leS_iff]; simp [h1.out, h2.out] at *; omega)
set_option maxHeartbeats 1000000 in
theorem sLe_t_3_2_0 (f sp sx sy sz rp rx ry rz : Int) (w : World) (h1 : Hid (mayS (Sm.mk f 3 2 sp sx sy sz) = true)) (h2 : Hid (mayS (Sm.mk f 3 0 rp rx ry rz) = true)) (h5 : sp ≤ rp) :
    Calls Tryz.prog 119 #[.agg #[.int .i64 f, .int .i64 3, .int .i64 2, .int .i64 sp, .int .i64 sx, .int .i64 sy, .int .i64 sz], .agg #[.int .i64 f, .int .i64 3, .int .i64 0, .int .i64 rp, .int .i64 rx, .int .i64 ry, .int .i64 rz]] w fun e w' => e = .returned (.bool (leS (Sm.mk f 3 2 sp sx sy sz) (Sm.mk f 3 0 rp rx ry rz))) ∧ Below w.heap.size w w' := by
  go_enter Tryz.func119, Tryz.ntmps119
  go_wp2_with fail
  refine (sMayP (Sm.mk f 3 2 sp sx sy sz) h1.out _).mono ?_
  rintro e w1 ⟨rfl, hb⟩
  obtain ⟨hc, hf⟩ := bcell hb
  go_wp2_with fail
  refine (sMayP (Sm.mk f 3 0 rp rx ry rz) h2.out _).mono ?_
  rintro e w2 ⟨rfl, hb2⟩
  have hb := Grow.trans' hb hb2
  clear hb2 hc hf
  obtain ⟨hc, hf⟩ := bcell hb
  obtain ⟨k0, k1, k2, k3, k4, k5, k6⟩ : SBox w2 w.heap.size (Sm.mk f 3 2 sp sx sy sz) := by simp [SBox, hc, go_sem]
  obtain ⟨l0, l1, l2, l3, l4, l5, l6⟩ : SBox w2 (w.heap.size + 1) (Sm.mk f 3 0 rp rx ry rz) := by simp [SBox, hc, go_sem]
  dsimp only at k0 k1 k2 k3 k4 k5 k6 l0 l1 l2 l3 l4 l5 l6
  clear hc hf
  go_wp2
  repeat any_goals (first | (refine wp_loop_rounds 4 ?_; rw [rounds_succ]; go_wp2) | (rw [rounds_succ]; go_wp2) | (go_quiet (fail); go_wp2))
  all_goals go_ret
  all_goals refine ⟨ret_bool ?_, ?_⟩
  all_goals first | ((repeat with_reducible apply below_drewN); with_reducible exact Grow.trans' (Grow.trans' (Grow.alloc' _ _) (Grow.alloc' _ _)) hb) | (clear hb; rw [leS_iff]; simp [h1.out, h2.out]; done) | (clear hb; rw [leS_iff]; simp [h1.out, h2.out]; omega) | (clear hb; rw [leS_iff]; simp [h1.out, h2.out] at *; omega)
set_option maxHeartbeats 1000000 in
theorem sLe_t_3_2_1 (f sp sx sy sz rp rx ry rz : Int) (w : World) (h1 : Hid (mayS (Sm.mk f 3 2 sp sx sy sz) = true)) (h2 : Hid (mayS (Sm.mk f 3 1 rp rx ry rz) = true)) (h5 : sp ≤ rp) :
    Calls Tryz.prog 119 #[.agg #[.int .i64 f, .int .i64 3, .int .i64 2, .int .i64 sp, .int .i64 sx, .int .i64 sy, .int .i64 sz], .agg #[.int .i64 f, .int .i64 3, .int .i64 1, .int .i64 rp, .int .i64 rx, .int .i64 ry, .int .i64 rz]] w fun e w' => e = .returned (.bool (leS (Sm.mk f 3 2 sp sx sy sz) (Sm.mk f 3 1 rp rx ry rz))) ∧ Below w.heap.size w w' := by
  go_enter Tryz.func119, Tryz.ntmps119
  go_wp2_with fail
  refine (sMayP (Sm.mk f 3 2 sp sx sy sz) h1.out _).mono ?_
  rintro e w1 ⟨rfl, hb⟩
  obtain ⟨hc, hf⟩ := bcell hb
  go_wp2_with fail
  refine (sMayP (Sm.mk f 3 1 rp rx ry rz) h2.out _).mono ?_
  rintro e w2 ⟨rfl, hb2⟩
  have hb := Grow.trans' hb hb2
  clear hb2 hc hf
  obtain ⟨hc, hf⟩ := bcell hb
  obtain ⟨k0, k1, k2, k3, k4, k5, k6⟩ : SBox w2 w.heap.size (Sm.mk f 3 2 sp sx sy sz) := by simp [SBox, hc, go_sem]
  obtain ⟨l0, l1, l2, l3, l4, l5, l6⟩ : SBox w2 (w.heap.size + 1) (Sm.mk f 3 1 rp rx ry rz) := by simp [SBox, hc, go_sem]
  dsimp only at k0 k1 k2 k3 k4 k5 k6 l0 l1 l2 l3 l4 l5 l6
  clear hc hf
  go_wp2
  repeat any_goals (first | (refine wp_loop_rounds 4 ?_; rw [rounds_succ]; go_wp2) | (rw [rounds_succ]; go_wp2) | (go_quiet (fail); go_wp2))
  all_goals go_ret
  all_goals refine ⟨ret_bool ?_, ?_⟩
  all_goals first | ((repeat with_reducible apply below_drewN); with_reducible exact Grow.trans' (Grow.trans' (Grow.alloc' _ _) (Grow.alloc' _ _)) hb) | (clear hb; rw [leS_iff]; simp [h1.out, h2.out]; done) | (clear hb; rw [leS_iff]; simp [h1.out, h2.out]; omega) | (clear hb; rw [leS_iff]; simp [h1.out, h2.out] at *; omega)
set_option maxHeartbeats 1000000 in
theorem sLe_t_3_2_2 (f sp sx sy sz rp rx ry rz : Int) (w : World) (h1 : Hid (mayS (Sm.mk f 3 2 sp sx sy sz) = true)) (h2 : Hid (mayS (Sm.mk f 3 2 rp rx ry rz) = true)) (h5 : sp ≤ rp) :
    Calls Tryz.prog 119 #[.agg #[.int .i64 f, .int .i64 3, .int .i64 2, .int .i64 sp, .int .i64 sx, .int .i64 sy, .int .i64 sz], .agg #[.int .i64 f, .int .i64 3, .int .i64 2, .int .i64 rp, .int .i64 rx, .int .i64 ry, .int .i64 rz]] w fun e w' => e = .returned (.bool (leS (Sm.mk f 3 2 sp sx sy sz) (Sm.mk f 3 2 rp rx ry rz))) ∧ Below w.heap.size w w' := by
  go_enter Tryz.func119, Tryz.ntmps119
  go_wp2_with fail
  refine (sMayP (Sm.mk f 3 2 sp sx sy sz) h1.out _).mono ?_
  rintro e w1 ⟨rfl, hb⟩
  obtain ⟨hc, hf⟩ := bcell hb
  go_wp2_with fail
  refine (sMayP (Sm.mk f 3 2 rp rx ry rz) h2.out _).mono ?_
  rintro e w2 ⟨rfl, hb2⟩
  have hb := Grow.trans' hb hb2
  clear hb2 hc hf
  obtain ⟨hc, hf⟩ := bcell hb
  obtain ⟨k0, k1, k2, k3, k4, k5, k6⟩ : SBox w2 w.heap.size (Sm.mk f 3 2 sp sx sy sz) := by simp [SBox, hc, go_sem]
  obtain ⟨l0, l1, l2, l3, l4, l5, l6⟩ : SBox w2 (w.heap.size + 1) (Sm.mk f 3 2 rp rx ry rz) := by simp [SBox, hc, go_sem]
  dsimp only at k0 k1 k2 k3 k4 k5 k6 l0 l1 l2 l3 l4 l5 l6
  clear hc hf
  go_wp2
  repeat any_goals (first | (refine wp_loop_rounds 4 ?_; rw [rounds_succ]; go_wp2) | (rw [rounds_succ]; go_wp2) | (go_quiet (fail); go_wp2))
  all_goals go_ret
  all_goals refine ⟨ret_bool ?_, ?_⟩
  all_goals first | ((repeat with_reducible apply below_drewN); with_reducible exact Grow.trans' (Grow.trans' (Grow.alloc' _ _) (Grow.alloc' _ _)) hb) | (clear hb; rw [leS_iff]; simp [h1.out, h2.out]; done) | (clear hb; rw [leS_iff]; simp [h1.out, h2.out]; omega) | (clear hb; rw [leS_iff]; simp [h1.out, h2.out] at *; omega)
set_option maxHeartbeats 1000000 in
theorem sLe_t_3_2_3 (f sp sx sy sz rp rx ry rz : Int) (w : World) (h1 : Hid (mayS (Sm.mk f 3 2 sp sx sy sz) = true)) (h2 : Hid (mayS (Sm.mk f 3 3 rp rx ry rz) = true)) (h5 : sp ≤ rp) :
    Calls Tryz.prog 119 #[.agg #[.int .i64 f, .int .i64 3, .int .i64 2, .int .i64 sp, .int .i64 sx, .int .i64 sy, .int .i64 sz], .agg #[.int .i64 f, .int .i64 3, .int .i64 3, .int .i64 rp, .int .i64 rx, .int .i64 ry, .int .i64 rz]] w fun e w' => e = .returned (.bool (leS (Sm.mk f 3 2 sp sx sy sz) (Sm.mk f 3 3 rp rx ry rz))) ∧ Below w.heap.size w w' := by
  go_enter Tryz.func119, Tryz.ntmps119
  go_wp2_with fail
  refine (sMayP (Sm.mk f 3 2 sp sx sy sz) h1.out _).mono ?_
  rintro e w1 ⟨rfl, hb⟩
  obtain ⟨hc, hf⟩ := bcell hb
  go_wp2_with fail
  refine (sMayP (Sm.mk f 3 3 rp rx ry rz) h2.out _).mono ?_
  rintro e w2 ⟨rfl, hb2⟩
  have hb := Grow.trans' hb hb2
  clear hb2 hc hf
  obtain ⟨hc, hf⟩ := bcell hb
  obtain ⟨k0, k1, k2, k3, k4, k5, k6⟩ : SBox w2 w.heap.size (Sm.mk f 3 2 sp sx sy sz) := by simp [SBox, hc, go_sem]
  obtain ⟨l0, l1, l2, l3, l4, l5, l6⟩ : SBox w2 (w.heap.size + 1) (Sm.mk f 3 3 rp rx ry rz) := by simp [SBox, hc, go_sem]
  dsimp only at k0 k1 k2 k3 k4 k5 k6 l0 l1 l2 l3 l4 l5 l6
  clear hc hf
  go_wp2
  repeat any_goals (first | (refine wp_loop_rounds 4 ?_; rw [rounds_succ]; go_wp2) | (rw [rounds_succ]; go_wp2) | (go_quiet (fail); go_wp2))
  all_goals go_ret
  all_goals refine ⟨ret_bool ?_, ?_⟩
  all_goals first | ((repeat with_reducible apply below_drewN); with_reducible exact Grow.trans' (Grow.trans' (Grow.alloc' _ _) (Grow.alloc' _ _)) hb) | (clear hb; rw [leS_iff]; simp [h1.out, h2.out]; done) | (clear hb; rw [leS_iff]; simp [h1.out, h2.out]; omega) | (clear hb; rw [leS_iff]; simp [h1.out, h2.out] at *; omega)
set_option maxHeartbeats 1000000 in
theorem sLe_t_3_3_0 (f sp sx sy sz rp rx ry rz : Int) (w : World) (h1 : Hid (mayS (Sm.mk f 3 3 sp sx sy sz) = true)) (h2 : Hid (mayS (Sm.mk f 3 0 rp rx ry rz) = true)) (h5 : sp ≤ rp) :
    Calls Tryz.prog 119 #[.agg #[.int .i64 f, .int .i64 3, .int .i64 3, .int .i64 sp, .int .i64 sx, .int .i64 sy, .int .i64 sz], .agg #[.int .i64 f, .int .i64 3, .int .i64 0, .int .i64 rp, .int .i64 rx, .int .i64 ry, .int .i64 rz]] w fun e w' => e = .returned (.bool (leS (Sm.mk f 3 3 sp sx sy sz) (Sm.mk f 3 0 rp rx ry rz))) ∧ Below w.heap.size w w' := by
  go_enter Tryz.func119, Tryz.ntmps119
  go_wp2_with fail
  refine (sMayP (Sm.mk f 3 3 sp sx sy sz) h1.out _).mono ?_
  rintro e w1 ⟨rfl, hb⟩
  obtain ⟨hc, hf⟩ := bcell hb
  go_wp2_with fail
  refine (sMayP (Sm.mk f 3 0 rp rx ry rz) h2.out _).mono ?_
  rintro e w2 ⟨rfl, hb2⟩
  have hb := Grow.trans' hb hb2
  clear hb2 hc hf
  obtain ⟨hc, hf⟩ := bcell hb
  obtain ⟨k0, k1, k2, k3, k4, k5, k6⟩ : SBox w2 w.heap.size (Sm.mk f 3 3 sp sx sy sz) := by simp [SBox, hc, go_sem]
  obtain ⟨l0, l1, l2, l3, l4, l5, l6⟩ : SBox w2 (w.heap.size + 1) (Sm.mk f 3 0 rp rx ry rz) := by simp [SBox, hc, go_sem]
  dsimp only at k0 k1 k2 k3 k4 k5 k6 l0 l1 l2 l3 l4 l5 l6
  clear hc hf
  go_wp2
  repeat any_goals (first | (refine wp_loop_rounds 4 ?_; rw [rounds_succ]; go_wp2) | (rw [rounds_succ]; go_wp2) | (go_quiet (fail); go_wp2))
  all_goals go_ret
  all_goals refine ⟨ret_bool ?_, ?_⟩
  all_goals first | ((repeat with_reducible apply below_drewN); with_reducible exact Grow.trans' (Grow.trans' (Grow.alloc' _ _) (Grow.alloc' _ _)) hb) | (clear hb; rw [leS_iff]; simp [h1.out, h2.out]; done) | (clear hb; rw [leS_iff]; simp [h1.out, h2.out]; omega) | (clear hb; rw [leS_iff]; simp [h1.out, h2.out] at *; omega)
set_option maxHeartbeats 1000000 in
theorem sLe_t_3_3_1 (f sp sx sy sz rp rx ry rz : Int) (w : World) (h1 : Hid (mayS (Sm.mk f 3 3 sp sx sy sz) = true)) (h2 : Hid (mayS (Sm.mk f 3 1 rp rx ry rz) = true)) (h5 : sp ≤ rp) :
    Calls Tryz.prog 119 #[.agg #[.int .i64 f, .int .i64 3, .int .i64 3, .int .i64 sp, .int .i64 sx, .int .i64 sy, .int .i64 sz], .agg #[.int .i64 f, .int .i64 3, .int .i64 1, .int .i64 rp, .int .i64 rx, .int .i64 ry, .int .i64 rz]] w fun e w' => e = .returned (.bool (leS (Sm.mk f 3 3 sp sx sy sz) (Sm.mk f 3 1 rp rx ry rz))) ∧ Below w.heap.size w w' := by
  go_enter Tryz.func119, Tryz.ntmps119
  go_wp2_with fail
  refine (sMayP (Sm.mk f 3 3 sp sx sy sz) h1.out _).mono ?_
  rintro e w1 ⟨rfl, hb⟩
  obtain ⟨hc, hf⟩ := bcell hb
  go_wp2_with fail
  refine (sMayP (Sm.mk f 3 1 rp rx ry rz) h2.out _).mono ?_
  rintro e w2 ⟨rfl, hb2⟩
  have hb := Grow.trans' hb hb2
  clear hb2 hc hf
  obtain ⟨hc, hf⟩ := bcell hb
  obtain ⟨k0, k1, k2, k3, k4, k5, k6⟩ : SBox w2 w.heap.size (Sm.mk f 3 3 sp sx sy sz) := by simp [SBox, hc, go_sem]
  obtain ⟨l0, l1, l2, l3, l4, l5, l6⟩ : SBox w2 (w.heap.size + 1) (Sm.mk f 3 1 rp rx ry rz) := by simp [SBox, hc, go_sem]
  dsimp only at k0 k1 k2 k3 k4 k5 k6 l0 l1 l2 l3 l4 l5 l6
  clear hc hf
  go_wp2
  repeat any_goals (first | (refine wp_loop_rounds 4 ?_; rw [rounds_succ]; go_wp2) | (rw [rounds_succ]; go_wp2) | (go_quiet (fail); go_wp2))
  all_goals go_ret
  all_goals refine ⟨ret_bool ?_, ?_⟩
  all_goals first | ((repeat with_reducible apply below_drewN); with_reducible exact Grow.trans' (Grow.trans' (Grow.alloc' _ _) (Grow.alloc' _ _)) hb) | (clear hb; rw [leS_iff]; simp [h1.out, h2.out]; done) | (clear hb; rw [leS_iff]; simp [h1.out, h2.out]; omega) | (clear hb; rw [leS_iff]; simp [h1.out, h2.out] at *; omega)
set_option maxHeartbeats 1000000 in
theorem sLe_t_3_3_2 (f sp sx sy sz rp rx ry rz : Int) (w : World) (h1 : Hid (mayS (Sm.mk f 3 3 sp sx sy sz) = true)) (h2 : Hid (mayS (Sm.mk f 3 2 rp rx ry rz) = true)) (h5 : sp ≤ rp) :
    Calls Tryz.prog 119 #[.agg #[.int .i64 f, .int .i64 3, .int .i64 3, .int .i64 sp, .int .i64 sx, .int .i64 sy, .int .i64 sz], .agg #[.int .i64 f, .int .i64 3, .int .i64 2, .int .i64 rp, .int .i64 rx, .int .i64 ry, .int .i64 rz]] w fun e w' => e = .returned (.bool (leS (Sm.mk f 3 3 sp sx sy sz) (Sm.mk f 3 2 rp rx ry rz))) ∧ Below w.heap.size w w' := by
  go_enter Tryz.func119, Tryz.ntmps119
  go_wp2_with fail
  refine (sMayP (Sm.mk f 3 3 sp sx sy sz) h1.out _).mono ?_
  rintro e w1 ⟨rfl, hb⟩
  obtain ⟨hc, hf⟩ := bcell hb
  go_wp2_with fail
  refine (sMayP (Sm.mk f 3 2 rp rx ry rz) h2.out _).mono ?_
  rintro e w2 ⟨rfl, hb2⟩
  have hb := Grow.trans' hb hb2
  clear hb2 hc hf
  obtain ⟨hc, hf⟩ := bcell hb
  obtain ⟨k0, k1, k2, k3, k4, k5, k6⟩ : SBox w2 w.heap.size (Sm.mk f 3 3 sp sx sy sz) := by simp [SBox, hc, go_sem]
  obtain ⟨l0, l1, l2, l3, l4, l5, l6⟩ : SBox w2 (w.heap.size + 1) (Sm.mk f 3 2 rp rx ry rz) := by simp [SBox, hc, go_sem]
  dsimp only at k0 k1 k2 k3 k4 k5 k6 l0 l1 l2 l3 l4 l5 l6
  clear hc hf
  go_wp2
  repeat any_goals (first | (refine wp_loop_rounds 4 ?_; rw [rounds_succ]; go_wp2) | (rw [rounds_succ]; go_wp2) | (go_quiet (fail); go_wp2))
  all_goals go_ret
  all_goals refine ⟨ret_bool ?_, ?_⟩
  all_goals first | ((repeat with_reducible apply below_drewN); with_reducible exact Grow.trans' (Grow.trans' (Grow.alloc' _ _) (Grow.alloc' _ _)) hb) | (clear hb; rw [leS_iff]; simp [h1.out, h2.out]; done) | (clear hb; rw [leS_iff]; simp [h1.out, h2.out]; omega) | (clear hb; rw [leS_iff]; simp [h1.out, h2.out] at *; omega)
set_option maxHeartbeats 1000000 in
theorem sLe_t_3_3_3 (f sp sx sy sz rp rx ry rz : Int) (w : World) (h1 : Hid (mayS (Sm.mk f 3 3 sp sx sy sz) = true)) (h2 : Hid (mayS (Sm.mk f 3 3 rp rx ry rz) = true)) (h5 : sp ≤ rp) :
    Calls Tryz.prog 119 #[.agg #[.int .i64 f, .int .i64 3, .int .i64 3, .int .i64 sp, .int .i64 sx, .int .i64 sy, .int .i64 sz], .agg #[.int .i64 f, .int .i64 3, .int .i64 3, .int .i64 rp, .int .i64 rx, .int .i64 ry, .int .i64 rz]] w fun e w' => e = .returned (.bool (leS (Sm.mk f 3 3 sp sx sy sz) (Sm.mk f 3 3 rp rx ry rz))) ∧ Below w.heap.size w w' := by
  go_enter Tryz.func119, Tryz.ntmps119
  go_wp2_with fail
  refine (sMayP (Sm.mk f 3 3 sp sx sy sz) h1.out _).mono ?_
  rintro e w1 ⟨rfl, hb⟩
  obtain ⟨hc, hf⟩ := bcell hb
  go_wp2_with fail
  refine (sMayP (Sm.mk f 3 3 rp rx ry rz) h2.out _).mono ?_
  rintro e w2 ⟨rfl, hb2⟩
  have hb := Grow.trans' hb hb2
  clear hb2 hc hf
  obtain ⟨hc, hf⟩ := bcell hb
  obtain ⟨k0, k1, k2, k3, k4, k5, k6⟩ : SBox w2 w.heap.size (Sm.mk f 3 3 sp sx sy sz) := by simp [SBox, hc, go_sem]
  obtain ⟨l0, l1, l2, l3, l4, l5, l6⟩ : SBox w2 (w.heap.size + 1) (Sm.mk f 3 3 rp rx ry rz) := by simp [SBox, hc, go_sem]
  dsimp only at k0 k1 k2 k3 k4 k5 k6 l0 l1 l2 l3 l4 l5 l6
  clear hc hf
  go_wp2
  repeat any_goals (first | (refine wp_loop_rounds 4 ?_; rw [rounds_succ]; go_wp2) | (rw [rounds_succ]; go_wp2) | (go_quiet (fail); go_wp2))
  all_goals go_ret
  all_goals refine ⟨ret_bool ?_, ?_⟩
  all_goals first | ((repeat with_reducible apply below_drewN); with_reducible exact Grow.trans' (Grow.trans' (Grow.alloc' _ _) (Grow.alloc' _ _)) hb) | (clear hb; rw [leS_iff]; simp [h1.out, h2.out]; done) | (clear hb; rw [leS_iff]; simp [h1.out, h2.out]; omega) | (clear hb; rw [leS_iff]; simp [h1.out, h2.out] at *; omega)
set_option maxHeartbeats 1000000 in
theorem refLeS_t_0_0_0 (f sp sx sy sz rp rx ry rz : Int) (w : World) (h1 : Hid (mayS (Sm.mk f 0 0 sp sx sy sz) = true)) (h2 : Hid (mayS (Sm.mk f 0 0 rp rx ry rz) = true)) (h5 : sp ≤ rp) :
    Calls Tryz.prog 105 #[.agg #[.int .i64 f, .int .i64 0, .int .i64 0, .int .i64 sp, .int .i64 sx, .int .i64 sy, .int .i64 sz], .agg #[.int .i64 f, .int .i64 0, .int .i64 0, .int .i64 rp, .int .i64 rx, .int .i64 ry, .int .i64 rz]] w fun e w' => e = .returned (.bool (leS (Sm.mk f 0 0 sp sx sy sz) (Sm.mk f 0 0 rp rx ry rz))) ∧ Below w.heap.size w w' := by
  go_enter Tryz.func105, Tryz.ntmps105
  go_wp2_with fail
  refine (refMaySP (Sm.mk f 0 0 sp sx sy sz) h1.out _).mono ?_
  rintro e w1 ⟨rfl, hb⟩
  obtain ⟨hc, hf⟩ := bcell hb
  go_wp2_with fail
  refine (refMaySP (Sm.mk f 0 0 rp rx ry rz) h2.out _).mono ?_
  rintro e w2 ⟨rfl, hb2⟩
  have hb := Grow.trans' hb hb2
  clear hb2 hc hf
  obtain ⟨hc, hf⟩ := bcell hb
  obtain ⟨k0, k1, k2, k3, k4, k5, k6⟩ : SBox w2 w.heap.size (Sm.mk f 0 0 sp sx sy sz) := by simp [SBox, hc, go_sem]
  obtain ⟨l0, l1, l2, l3, l4, l5, l6⟩ : SBox w2 (w.heap.size + 1) (Sm.mk f 0 0 rp rx ry rz) := by simp [SBox, hc, go_sem]
  dsimp only at k0 k1 k2 k3 k4 k5 k6 l0 l1 l2 l3 l4 l5 l6
  clear hc hf
  go_wp2
  repeat any_goals (first | (refine wp_loop_rounds 4 ?_; rw [rounds_succ]; go_wp2) | (rw [rounds_succ]; go_wp2) | (go_quiet (fail); go_wp2))
  all_goals go_ret
  all_goals refine ⟨ret_bool ?_, ?_⟩
  all_goals first | ((repeat with_reducible apply below_drewN); with_reducible exact Grow.trans' (Grow.trans' (Grow.alloc' _ _) (Grow.alloc' _ _)) hb) | (clear hb; rw [leS_iff]; simp [h1.out, h2.out]; done) | (clear hb; rw [leS_iff]; simp [h1.out, h2.out]; omega) | (clear hb; rw [leS_iff]; simp [h1.out, h2.out] at *; omega)
set_option maxHeartbeats 1000000 in
theorem refLeS_t_1_0_0 (f sp sx sy sz rp rx ry rz : Int) (w : World) (h1 : Hid (mayS (Sm.mk f 1 0 sp sx sy sz) = true)) (h2 : Hid (mayS (Sm.mk f 1 0 rp rx ry rz) = true)) (h5 : sp ≤ rp) :
    Calls Tryz.prog 105 #[.agg #[.int .i64 f, .int .i64 1, .int .i64 0, .int .i64 sp, .int .i64 sx, .int .i64 sy, .int .i64 sz], .agg #[.int .i64 f, .int .i64 1, .int .i64 0, .int .i64 rp, .int .i64 rx, .int .i64 ry, .int .i64 rz]] w fun e w' => e = .returned (.bool (leS (Sm.mk f 1 0 sp sx sy sz) (Sm.mk f 1 0 rp rx ry rz))) ∧ Below w.heap.size w w' := by
  go_enter Tryz.func105, Tryz.ntmps105
  go_wp2_with fail
  refine (refMaySP (Sm.mk f 1 0 sp sx sy sz) h1.out _).mono ?_
  rintro e w1 ⟨rfl, hb⟩
  obtain ⟨hc, hf⟩ := bcell hb
  go_wp2_with fail
  refine (refMaySP (Sm.mk f 1 0 rp rx ry rz) h2.out _).mono ?_
  rintro e w2 ⟨rfl, hb2⟩
  have hb := Grow.trans' hb hb2
  clear hb2 hc hf
  obtain ⟨hc, hf⟩ := bcell hb
  obtain ⟨k0, k1, k2, k3, k4, k5, k6⟩ : SBox w2 w.heap.size (Sm.mk f 1 0 sp sx sy sz) := by simp [SBox, hc, go_sem]
  obtain ⟨l0, l1, l2, l3, l4, l5, l6⟩ : SBox w2 (w.heap.size + 1) (Sm.mk f 1 0 rp rx ry rz) := by simp [SBox, hc, go_sem]
  dsimp only at k0 k1 k2 k3 k4 k5 k6 l0 l1 l2 l3 l4 l5 l6
  clear hc hf
  go_wp2
  repeat any_goals (first | (refine wp_loop_rounds 4 ?_; rw [rounds_succ]; go_wp2) | (rw [rounds_succ]; go_wp2) | (go_quiet (fail); go_wp2))
  all_goals go_ret
  all_goals refine ⟨ret_bool ?_, ?_⟩
  all_goals first | ((repeat with_reducible apply below_drewN); with_reducible exact Grow.trans' (Grow.trans' (Grow.alloc' _ _) (Grow.alloc' _ _)) hb) | (clear hb; rw [leS_iff]; simp [h1.out, h2.out]; done) | (clear hb; rw [leS_iff]; simp [h1.out, h2.out]; omega) | (clear hb; rw [leS_iff]; simp [h1.out, h2.out] at *; omega)
set_option maxHeartbeats 1000000 in
theorem refLeS_t_1_0_1 (f sp sx sy sz rp rx ry rz : Int) (w : World) (h1 : Hid (mayS (Sm.mk f 1 0 sp sx sy sz) = true)) (h2 : Hid (mayS (Sm.mk f 1 1 rp rx ry rz) = true)) (h5 : sp ≤ rp) :
    Calls Tryz.prog 105 #[.agg #[.int .i64 f, .int .i64 1, .int .i64 0, .int .i64 sp, .int .i64 sx, .int .i64 sy, .int .i64 sz], .agg #[.int .i64 f, .int .i64 1, .int .i64 1, .int .i64 rp, .int .i64 rx, .int .i64 ry, .int .i64 rz]] w fun e w' => e = .returned (.bool (leS (Sm.mk f 1 0 sp sx sy sz) (Sm.mk f 1 1 rp rx ry rz))) ∧ Below w.heap.size w w' := by
  go_enter Tryz.func105, Tryz.ntmps105
  go_wp2_with fail
  refine (refMaySP (Sm.mk f 1 0 sp sx sy sz) h1.out _).mono ?_
  rintro e w1 ⟨rfl, hb⟩
  obtain ⟨hc, hf⟩ := bcell hb
  go_wp2_with fail
  refine (refMaySP (Sm.mk f 1 1 rp rx ry rz) h2.out _).mono ?_
  rintro e w2 ⟨rfl, hb2⟩
  have hb := Grow.trans' hb hb2
  clear hb2 hc hf
  obtain ⟨hc, hf⟩ := bcell hb
  obtain ⟨k0, k1, k2, k3, k4, k5, k6⟩ : SBox w2 w.heap.size (Sm.mk f 1 0 sp sx sy sz) := by simp [SBox, hc, go_sem]
  obtain ⟨l0, l1, l2, l3, l4, l5, l6⟩ : SBox w2 (w.heap.size + 1) (Sm.mk f 1 1 rp rx ry rz) := by simp [SBox, hc, go_sem]
  dsimp only at k0 k1 k2 k3 k4 k5 k6 l0 l1 l2 l3 l4 l5 l6
  clear hc hf
  go_wp2
  repeat any_goals (first | (refine wp_loop_rounds 4 ?_; rw [rounds_succ]; go_wp2) | (rw [rounds_succ]; go_wp2) | (go_quiet (fail); go_wp2))
  all_goals go_ret
  all_goals refine ⟨ret_bool ?_, ?_⟩
  all_goals first | ((repeat with_reducible apply below_drewN); with_reducible exact Grow.trans' (Grow.trans' (Grow.alloc' _ _) (Grow.alloc' _ _)) hb) | (clear hb; rw [leS_iff]; simp [h1.out, h2.out]; done) | (clear hb; rw [leS_iff]; simp [h1.out, h2.out]; omega) | (clear hb; rw [leS_iff]; simp [h1.out, h2.out] at *; omega)
set_option maxHeartbeats 1000000 in
theorem refLeS_t_1_1_0 (f sp sx sy sz rp rx ry rz : Int) (w : World) (h1 : Hid (mayS (Sm.mk f 1 1 sp sx sy sz) = true)) (h2 : Hid (mayS (Sm.mk f 1 0 rp rx ry rz) = true)) (h5 : sp ≤ rp) :
    Calls Tryz.prog 105 #[.agg #[.int .i64 f, .int .i64 1, .int .i64 1, .int .i64 sp, .int .i64 sx, .int .i64 sy, .int .i64 sz], .agg #[.int .i64 f, .int .i64 1, .int .i64 0, .int .i64 rp, .int .i64 rx, .int .i64 ry, .int .i64 rz]] w fun e w' => e = .returned (.bool (leS (Sm.mk f 1 1 sp sx sy sz) (Sm.mk f 1 0 rp rx ry rz))) ∧ Below w.heap.size w w' := by
  go_enter Tryz.func105, Tryz.ntmps105
  go_wp2_with fail
  refine (refMaySP (Sm.mk f 1 1 sp sx sy sz) h1.out _).mono ?_
  rintro e w1 ⟨rfl, hb⟩
  obtain ⟨hc, hf⟩ := bcell hb
  go_wp2_with fail
  refine (refMaySP (Sm.mk f 1 0 rp rx ry rz) h2.out _).mono ?_
  rintro e w2 ⟨rfl, hb2⟩
  have hb := Grow.trans' hb hb2
  clear hb2 hc hf
  obtain ⟨hc, hf⟩ := bcell hb
  obtain ⟨k0, k1, k2, k3, k4, k5, k6⟩ : SBox w2 w.heap.size (Sm.mk f 1 1 sp sx sy sz) := by simp [SBox, hc, go_sem]
  obtain ⟨l0, l1, l2, l3, l4, l5, l6⟩ : SBox w2 (w.heap.size + 1) (Sm.mk f 1 0 rp rx ry rz) := by simp [SBox, hc, go_sem]
  dsimp only at k0 k1 k2 k3 k4 k5 k6 l0 l1 l2 l3 l4 l5 l6
  clear hc hf
  go_wp2
  repeat any_goals (first | (refine wp_loop_rounds 4 ?_; rw [rounds_succ]; go_wp2) | (rw [rounds_succ]; go_wp2) | (go_quiet (fail); go_wp2))
  all_goals go_ret
  all_goals refine ⟨ret_bool ?_, ?_⟩
  all_goals first | ((repeat with_reducible apply below_drewN); with_reducible exact Grow.trans' (Grow.trans' (Grow.alloc' _ _) (Grow.alloc' _ _)) hb) | (clear hb; rw [leS_iff]; simp [h1.out, h2.out]; done) | (clear hb; rw [leS_iff]; simp [h1.out, h2.out]; omega) | (clear hb; rw [leS_iff]; simp [h1.out, h2.out] at *; omega)
set_option maxHeartbeats 1000000 in
theorem refLeS_t_1_1_1 (f sp sx sy sz rp rx ry rz : Int) (w : World) (h1 : Hid (mayS (Sm.mk f 1 1 sp sx sy sz) = true)) (h2 : Hid (mayS (Sm.mk f 1 1 rp rx ry rz) = true)) (h5 : sp ≤ rp) :
    Calls Tryz.prog 105 #[.agg #[.int .i64 f, .int .i64 1, .int .i64 1, .int .i64 sp, .int .i64 sx, .int .i64 sy, .int .i64 sz], .agg #[.int .i64 f, .int .i64 1, .int .i64 1, .int .i64 rp, .int .i64 rx, .int .i64 ry, .int .i64 rz]] w fun e w' => e = .returned (.bool (leS (Sm.mk f 1 1 sp sx sy sz) (Sm.mk f 1 1 rp rx ry rz))) ∧ Below w.heap.size w w' := by
  go_enter Tryz.func105, Tryz.ntmps105
  go_wp2_with fail
  refine (refMaySP (Sm.mk f 1 1 sp sx sy sz) h1.out _).mono ?_
  rintro e w1 ⟨rfl, hb⟩
  obtain ⟨hc, hf⟩ := bcell hb
  go_wp2_with fail
  refine (refMaySP (Sm.mk f 1 1 rp rx ry rz) h2.out _).mono ?_
  rintro e w2 ⟨rfl, hb2⟩
  have hb := Grow.trans' hb hb2
  clear hb2 hc hf
  obtain ⟨hc, hf⟩ := bcell hb
  obtain ⟨k0, k1, k2, k3, k4, k5, k6⟩ : SBox w2 w.heap.size (Sm.mk f 1 1 sp sx sy sz) := by simp [SBox, hc, go_sem]
  obtain ⟨l0, l1, l2, l3, l4, l5, l6⟩ : SBox w2 (w.heap.size + 1) (Sm.mk f 1 1 rp rx ry rz) := by simp [SBox, hc, go_sem]
  dsimp only at k0 k1 k2 k3 k4 k5 k6 l0 l1 l2 l3 l4 l5 l6
  clear hc hf
  go_wp2
  repeat any_goals (first | (refine wp_loop_rounds 4 ?_; rw [rounds_succ]; go_wp2) | (rw [rounds_succ]; go_wp2) | (go_quiet (fail); go_wp2))
  all_goals go_ret
  all_goals refine ⟨ret_bool ?_, ?_⟩
  all_goals first | ((repeat with_reducible apply below_drewN); with_reducible exact Grow.trans' (Grow.trans' (Grow.alloc' _ _) (Grow.alloc' _ _)) hb) | (clear hb; rw [leS_iff]; simp [h1.out, h2.out]; done) | (clear hb; rw [leS_iff]; simp [h1.out, h2.out]; omega) | (clear hb; rw [leS_iff]; simp [h1.out, h2.out] at *; omega)
set_option maxHeartbeats 1000000 in
theorem refLeS_t_2_0_0 (f sp sx sy sz rp rx ry rz : Int) (w : World) (h1 : Hid (mayS (Sm.mk f 2 0 sp sx sy sz) = true)) (h2 : Hid (mayS (Sm.mk f 2 0 rp rx ry rz) = true)) (h5 : sp ≤ rp) :
    Calls Tryz.prog 105 #[.agg #[.int .i64 f, .int .i64 2, .int .i64 0, .int .i64 sp, .int .i64 sx, .int .i64 sy, .int .i64 sz], .agg #[.int .i64 f, .int .i64 2, .int .i64 0, .int .i64 rp, .int .i64 rx, .int .i64 ry, .int .i64 rz]] w fun e w' => e = .returned (.bool (leS (Sm.mk f 2 0 sp sx sy sz) (Sm.mk f 2 0 rp rx ry rz))) ∧ Below w.heap.size w w' := by
  go_enter Tryz.func105, Tryz.ntmps105
  go_wp2_with fail
  refine (refMaySP (Sm.mk f 2 0 sp sx sy sz) h1.out _).mono ?_
  rintro e w1 ⟨rfl, hb⟩
  obtain ⟨hc, hf⟩ := bcell hb
  go_wp2_with fail
  refine (refMaySP (Sm.mk f 2 0 rp rx ry rz) h2.out _).mono ?_
  rintro e w2 ⟨rfl, hb2⟩
  have hb := Grow.trans' hb hb2
  clear hb2 hc hf
  obtain ⟨hc, hf⟩ := bcell hb
  obtain ⟨k0, k1, k2, k3, k4, k5, k6⟩ : SBox w2 w.heap.size (Sm.mk f 2 0 sp sx sy sz) := by simp [SBox, hc, go_sem]
  obtain ⟨l0, l1, l2, l3, l4, l5, l6⟩ : SBox w2 (w.heap.size + 1) (Sm.mk f 2 0 rp rx ry rz) := by simp [SBox, hc, go_sem]
  dsimp only at k0 k1 k2 k3 k4 k5 k6 l0 l1 l2 l3 l4 l5 l6
  clear hc hf
  go_wp2
  repeat any_goals (first | (refine wp_loop_rounds 4 ?_; rw [rounds_succ]; go_wp2) | (rw [rounds_succ]; go_wp2) | (go_quiet (fail); go_wp2))
  all_goals go_ret
  all_goals refine ⟨ret_bool ?_, ?_⟩
  all_goals first | ((repeat with_reducible apply below_drewN); with_reducible exact Grow.trans' (Grow.trans' (Grow.alloc' _ _) (Grow.alloc' _ _)) hb) | (clear hb; rw [leS_iff]; simp [h1.out, h2.out]; done) | (clear hb; rw [leS_iff]; simp [h1.out, h2.out]; omega) | (clear hb; rw [leS_iff]; simp [h1.out, h2.out] at *; omega)
set_option maxHeartbeats 1000000 in
theorem refLeS_t_2_0_1 (f sp sx sy sz rp rx ry rz : Int) (w : World) (h1 : Hid (mayS (Sm.mk f 2 0 sp sx sy sz) = true)) (h2 : Hid (mayS (Sm.mk f 2 1 rp rx ry rz) = true)) (h5 : sp ≤ rp) :
    Calls Tryz.prog 105 #[.agg #[.int .i64 f, .int .i64 2, .int .i64 0, .int .i64 sp, .int .i64 sx, .int .i64 sy, .int .i64 sz], .agg #[.int .i64 f, .int .i64 2, .int .i64 1, .int .i64 rp, .int .i64 rx, .int .i64 ry, .int .i64 rz]] w fun e w' => e = .returned (.bool (leS (Sm.mk f 2 0 sp sx sy sz) (Sm.mk f 2 1 rp rx ry rz))) ∧ Below w.heap.size w w' := by
  go_enter Tryz.func105, Tryz.ntmps105
  go_wp2_with fail
  refine (refMaySP (Sm.mk f 2 0 sp sx sy sz) h1.out _).mono ?_
  rintro e w1 ⟨rfl, hb⟩
  obtain ⟨hc, hf⟩ := bcell hb
  go_wp2_with fail
  refine (refMaySP (Sm.mk f 2 1 rp rx ry rz) h2.out _).mono ?_
  rintro e w2 ⟨rfl, hb2⟩
  have hb := Grow.trans' hb hb2
  clear hb2 hc hf
  obtain ⟨hc, hf⟩ := bcell hb
  obtain ⟨k0, k1, k2, k3, k4, k5, k6⟩ : SBox w2 w.heap.size (Sm.mk f 2 0 sp sx sy sz) := by simp [SBox, hc, go_sem]
  obtain ⟨l0, l1, l2, l3, l4, l5, l6⟩ : SBox w2 (w.heap.size + 1) (Sm.mk f 2 1 rp rx ry rz) := by simp [SBox, hc, go_sem]
  dsimp only at k0 k1 k2 k3 k4 k5 k6 l0 l1 l2 l3 l4 l5 l6
  clear hc hf
  go_wp2
  repeat any_goals (first | (refine wp_loop_rounds 4 ?_; rw [rounds_succ]; go_wp2) | (rw [rounds_succ]; go_wp2) | (go_quiet (fail); go_wp2))
  all_goals go_ret
  all_goals refine ⟨ret_bool ?_, ?_⟩
  all_goals first | ((repeat with_reducible apply below_drewN); with_reducible exact Grow.trans' (Grow.trans' (Grow.alloc' _ _) (Grow.alloc' _ _)) hb) | (clear hb; rw [leS_iff]; simp [h1.out, h2.out]; done) | (clear hb; rw [leS_iff]; simp [h1.out, h2.out]; omega) | (clear hb; rw [leS_iff]; simp [h1.out, h2.out] at *; omega)
set_option maxHeartbeats 1000000 in
theorem refLeS_t_2_0_2 (f sp sx sy sz rp rx ry rz : Int) (w : World) (h1 : Hid (mayS (Sm.mk f 2 0 sp sx sy sz) = true)) (h2 : Hid (mayS (Sm.mk f 2 2 rp rx ry rz) = true)) (h5 : sp ≤ rp) :
    Calls Tryz.prog 105 #[.agg #[.int .i64 f, .int .i64 2, .int .i64 0, .int .i64 sp, .int .i64 sx, .int .i64 sy, .int .i64 sz], .agg #[.int .i64 f, .int .i64 2, .int .i64 2, .int .i64 rp, .int .i64 rx, .int .i64 ry, .int .i64 rz]] w fun e w' => e = .returned (.bool (leS (Sm.mk f 2 0 sp sx sy sz) (Sm.mk f 2 2 rp rx ry rz))) ∧ Below w.heap.size w w' := by
  go_enter Tryz.func105, Tryz.ntmps105
  go_wp2_with fail
  refine (refMaySP (Sm.mk f 2 0 sp sx sy sz) h1.out _).mono ?_
  rintro e w1 ⟨rfl, hb⟩
  obtain ⟨hc, hf⟩ := bcell hb
  go_wp2_with fail
  refine (refMaySP (Sm.mk f 2 2 rp rx ry rz) h2.out _).mono ?_
  rintro e w2 ⟨rfl, hb2⟩
  have hb := Grow.trans' hb hb2
  clear hb2 hc hf
  obtain ⟨hc, hf⟩ := bcell hb
  obtain ⟨k0, k1, k2, k3, k4, k5, k6⟩ : SBox w2 w.heap.size (Sm.mk f 2 0 sp sx sy sz) := by simp [SBox, hc, go_sem]
  obtain ⟨l0, l1, l2, l3, l4, l5, l6⟩ : SBox w2 (w.heap.size + 1) (Sm.mk f 2 2 rp rx ry rz) := by simp [SBox, hc, go_sem]
  dsimp only at k0 k1 k2 k3 k4 k5 k6 l0 l1 l2 l3 l4 l5 l6
  clear hc hf
  go_wp2
  repeat any_goals (first | (refine wp_loop_rounds 4 ?_; rw [rounds_succ]; go_wp2) | (rw [rounds_succ]; go_wp2) | (go_quiet (fail); go_wp2))
  all_goals go_ret
  all_goals refine ⟨ret_bool ?_, ?_⟩
  all_goals first | ((repeat with_reducible apply below_drewN); with_reducible exact Grow.trans' (Grow.trans' (Grow.alloc' _ _) (Grow.alloc' _ _)) hb) | (clear hb; rw [leS_iff]; simp [h1.out, h2.out]; done) | (clear hb; rw [leS_iff]; simp [h1.out, h2.out]; omega) | (clear hb; rw [leS_iff]; simp [h1.out, h2.out] at *; omega)
set_option maxHeartbeats 1000000 in
theorem refLeS_t_2_1_0 (f sp sx sy sz rp rx ry rz : Int) (w : World) (h1 : Hid (mayS (Sm.mk f 2 1 sp sx sy sz) = true)) (h2 : Hid (mayS (Sm.mk f 2 0 rp rx ry rz) = true)) (h5 : sp ≤ rp) :
    Calls Tryz.prog 105 #[.agg #[.int .i64 f, .int .i64 2, .int .i64 1, .int .i64 sp, .int .i64 sx, .int .i64 sy, .int .i64 sz], .agg #[.int .i64 f, .int .i64 2, .int .i64 0, .int .i64 rp, .int .i64 rx, .int .i64 ry, .int .i64 rz]] w fun e w' => e = .returned (.bool (leS (Sm.mk f 2 1 sp sx sy sz) (Sm.mk f 2 0 rp rx ry rz))) ∧ Below w.heap.size w w' := by
  go_enter Tryz.func105, Tryz.ntmps105
  go_wp2_with fail
  refine (refMaySP (Sm.mk f 2 1 sp sx sy sz) h1.out _).mono ?_
  rintro e w1 ⟨rfl, hb⟩
  obtain ⟨hc, hf⟩ := bcell hb
  go_wp2_with fail
  refine (refMaySP (Sm.mk f 2 0 rp rx ry rz) h2.out _).mono ?_
  rintro e w2 ⟨rfl, hb2⟩
  have hb := Grow.trans' hb hb2
  clear hb2 hc hf
  obtain ⟨hc, hf⟩ := bcell hb
  obtain ⟨k0, k1, k2, k3, k4, k5, k6⟩ : SBox w2 w.heap.size (Sm.mk f 2 1 sp sx sy sz) := by simp [SBox, hc, go_sem]
  obtain ⟨l0, l1, l2, l3, l4, l5, l6⟩ : SBox w2 (w.heap.size + 1) (Sm.mk f 2 0 rp rx ry rz) := by simp [SBox, hc, go_sem]
  dsimp only at k0 k1 k2 k3 k4 k5 k6 l0 l1 l2 l3 l4 l5 l6
  clear hc hf
  go_wp2
  repeat any_goals (first | (refine wp_loop_rounds 4 ?_; rw [rounds_succ]; go_wp2) | (rw [rounds_succ]; go_wp2) | (go_quiet (fail); go_wp2))
  all_goals go_ret
  all_goals refine ⟨ret_bool ?_, ?_⟩
  all_goals first | ((repeat with_reducible apply below_drewN); with_reducible exact Grow.trans' (Grow.trans' (Grow.alloc' _ _) (Grow.alloc' _ _)) hb) | (clear hb; rw [leS_iff]; simp [h1.out, h2.out]; done) | (clear hb; rw [leS_iff]; simp [h1.out, h2.out]; omega) | (clear hb; rw [leS_iff]; simp [h1.out, h2.out] at *; omega)
set_option maxHeartbeats 1000000 in
theorem refLeS_t_2_1_1 (f sp sx sy sz rp rx ry rz : Int) (w : World) (h1 : Hid (mayS (Sm.mk f 2 1 sp sx sy sz) = true)) (h2 : Hid (mayS (Sm.mk f 2 1 rp rx ry rz) = true)) (h5 : sp ≤ rp) :
    Calls Tryz.prog 105 #[.agg #[.int .i64 f, .int .i64 2, .int .i64 1, .int .i64 sp, .int .i64 sx, .int .i64 sy, .int .i64 sz], .agg #[.int .i64 f, .int .i64 2, .int .i64 1, .int .i64 rp, .int .i64 rx, .int .i64 ry, .int .i64 rz]] w fun e w' => e = .returned (.bool (leS (Sm.mk f 2 1 sp sx sy sz) (Sm.mk f 2 1 rp rx ry rz))) ∧ Below w.heap.size w w' := by
  go_enter Tryz.func105, Tryz.ntmps105
  go_wp2_with fail
  refine (refMaySP (Sm.mk f 2 1 sp sx sy sz) h1.out _).mono ?_
  rintro e w1 ⟨rfl, hb⟩
  obtain ⟨hc, hf⟩ := bcell hb
  go_wp2_with fail
  refine (refMaySP (Sm.mk f 2 1 rp rx ry rz) h2.out _).mono ?_
  rintro e w2 ⟨rfl, hb2⟩
  have hb := Grow.trans' hb hb2
  clear hb2 hc hf
  obtain ⟨hc, hf⟩ := bcell hb
  obtain ⟨k0, k1, k2, k3, k4, k5, k6⟩ : SBox w2 w.heap.size (Sm.mk f 2 1 sp sx sy sz) := by simp [SBox, hc, go_sem]
  obtain ⟨l0, l1, l2, l3, l4, l5, l6⟩ : SBox w2 (w.heap.size + 1) (Sm.mk f 2 1 rp rx ry rz) := by simp [SBox, hc, go_sem]
  dsimp only at k0 k1 k2 k3 k4 k5 k6 l0 l1 l2 l3 l4 l5 l6
  clear hc hf
  go_wp2
  repeat any_goals (first | (refine wp_loop_rounds 4 ?_; rw [rounds_succ]; go_wp2) | (rw [rounds_succ]; go_wp2) | (go_quiet (fail); go_wp2))
  all_goals go_ret
  all_goals refine ⟨ret_bool ?_, ?_⟩
  all_goals first | ((repeat with_reducible apply below_drewN); with_reducible exact Grow.trans' (Grow.trans' (Grow.alloc' _ _) (Grow.alloc' _ _)) hb) | (clear hb; rw [leS_iff]; simp [h1.out, h2.out]; done) | (clear hb; rw [leS_iff]; simp [h1.out, h2.out]; omega) | (clear hb; rw [leS_iff]; simp [h1.out, h2.out] at *; omega)
set_option maxHeartbeats 1000000 in
theorem refLeS_t_2_1_2 (f sp sx sy sz rp rx ry rz : Int) (w : World) (h1 : Hid (mayS (Sm.mk f 2 1 sp sx sy sz) = true)) (h2 : Hid (mayS (Sm.mk f 2 2 rp rx ry rz) = true)) (h5 : sp ≤ rp) :
    Calls Tryz.prog 105 #[.agg #[.int .i64 f, .int .i64 2, .int .i64 1, .int .i64 sp, .int .i64 sx, .int .i64 sy, .int .i64 sz], .agg #[.int .i64 f, .int .i64 2, .int .i64 2, .int .i64 rp, .int .i64 rx, .int .i64 ry, .int .i64 rz]] w fun e w' => e = .returned (.bool (leS (Sm.mk f 2 1 sp sx sy sz) (Sm.mk f 2 2 rp rx ry rz))) ∧ Below w.heap.size w w' := by
  go_enter Tryz.func105, Tryz.ntmps105
  go_wp2_with fail
  refine (refMaySP (Sm.mk f 2 1 sp sx sy sz) h1.out _).mono ?_
  rintro e w1 ⟨rfl, hb⟩
  obtain ⟨hc, hf⟩ := bcell hb
  go_wp2_with fail
  refine (refMaySP (Sm.mk f 2 2 rp rx ry rz) h2.out _).mono ?_
  rintro e w2 ⟨rfl, hb2⟩
  have hb := Grow.trans' hb hb2
  clear hb2 hc hf
  obtain ⟨hc, hf⟩ := bcell hb
  obtain ⟨k0, k1, k2, k3, k4, k5, k6⟩ : SBox w2 w.heap.size (Sm.mk f 2 1 sp sx sy sz) := by simp [SBox, hc, go_sem]
  obtain ⟨l0, l1, l2, l3, l4, l5, l6⟩ : SBox w2 (w.heap.size + 1) (Sm.mk f 2 2 rp rx ry rz) := by simp [SBox, hc, go_sem]
  dsimp only at k0 k1 k2 k3 k4 k5 k6 l0 l1 l2 l3 l4 l5 l6
  clear hc hf
  go_wp2
  repeat any_goals (first | (refine wp_loop_rounds 4 ?_; rw [rounds_succ]; go_wp2) | (rw [rounds_succ]; go_wp2) | (go_quiet (fail); go_wp2))
  all_goals go_ret
  all_goals refine ⟨ret_bool ?_, ?_⟩
  all_goals first | ((repeat with_reducible apply below_drewN); with_reducible exact Grow.trans' (Grow.trans' (Grow.alloc' _ _) (Grow.alloc' _ _)) hb) | (clear hb; rw [leS_iff]; simp [h1.out, h2.out]; done) | (clear hb; rw [leS_iff]; simp [h1.out, h2.out]; omega) | (clear hb; rw [leS_iff]; simp [h1.out, h2.out] at *; omega)
set_option maxHeartbeats 1000000 in
theorem refLeS_t_2_2_0 (f sp sx sy sz rp rx ry rz : Int) (w : World) (h1 : Hid (mayS (Sm.mk f 2 2 sp sx sy sz) = true)) (h2 : Hid (mayS (Sm.mk f 2 0 rp rx ry rz) = true)) (h5 : sp ≤ rp) :
    Calls Tryz.prog 105 #[.agg #[.int .i64 f, .int .i64 2, .int .i64 2, .int .i64 sp, .int .i64 sx, .int .i64 sy, .int .i64 sz], .agg #[.int .i64 f, .int .i64 2, .int .i64 0, .int .i64 rp, .int .i64 rx, .int .i64 ry, .int .i64 rz]] w fun e w' => e = .returned (.bool (leS (Sm.mk f 2 2 sp sx sy sz) (Sm.mk f 2 0 rp rx ry rz))) ∧ Below w.heap.size w w' := by
  go_enter Tryz.func105, Tryz.ntmps105
  go_wp2_with fail
  refine (refMaySP (Sm.mk f 2 2 sp sx sy sz) h1.out _).mono ?_
  rintro e w1 ⟨rfl, hb⟩
  obtain ⟨hc, hf⟩ := bcell hb
  go_wp2_with fail
  refine (refMaySP (Sm.mk f 2 0 rp rx ry rz) h2.out _).mono ?_
  rintro e w2 ⟨rfl, hb2⟩
  have hb := Grow.trans' hb hb2
  clear hb2 hc hf
  obtain ⟨hc, hf⟩ := bcell hb
  obtain ⟨k0, k1, k2, k3, k4, k5, k6⟩ : SBox w2 w.heap.size (Sm.mk f 2 2 sp sx sy sz) := by simp [SBox, hc, go_sem]
  obtain ⟨l0, l1, l2, l3, l4, l5, l6⟩ : SBox w2 (w.heap.size + 1) (Sm.mk f 2 0 rp rx ry rz) := by simp [SBox, hc, go_sem]
  dsimp only at k0 k1 k2 k3 k4 k5 k6 l0 l1 l2 l3 l4 l5 l6
  clear hc hf
  go_wp2
  repeat any_goals (first | (refine wp_loop_rounds 4 ?_; rw [rounds_succ]; go_wp2) | (rw [rounds_succ]; go_wp2) | (go_quiet (fail); go_wp2))
  all_goals go_ret
  all_goals refine ⟨ret_bool ?_, ?_⟩
  all_goals first | ((repeat with_reducible apply below_drewN); with_reducible exact Grow.trans' (Grow.trans' (Grow.alloc' _ _) (Grow.alloc' _ _)) hb) | (clear hb; rw [leS_iff]; simp [h1.out, h2.out]; done) | (clear hb; rw [leS_iff]; simp [h1.out, h2.out]; omega) | (clear hb; rw [leS_iff]; simp [h1.out, h2.out] at *; omega)
set_option maxHeartbeats 1000000 in
theorem refLeS_t_2_2_1 (f sp sx sy sz rp rx ry rz : Int) (w : World) (h1 : Hid (mayS (Sm.mk f 2 2 sp sx sy sz) = true)) (h2 : Hid (mayS (Sm.mk f 2 1 rp rx ry rz) = true)) (h5 : sp ≤ rp) :
    Calls Tryz.prog 105 #[.agg #[.int .i64 f, .int .i64 2, .int .i64 2, .int .i64 sp, .int .i64 sx, .int .i64 sy, .int .i64 sz], .agg #[.int .i64 f, .int .i64 2, .int .i64 1, .int .i64 rp, .int .i64 rx, .int .i64 ry, .int .i64 rz]] w fun e w' => e = .returned (.bool (leS (Sm.mk f 2 2 sp sx sy sz) (Sm.mk f 2 1 rp rx ry rz))) ∧ Below w.heap.size w w' := by
  go_enter Tryz.func105, Tryz.ntmps105
  go_wp2_with fail
  refine (refMaySP (Sm.mk f 2 2 sp sx sy sz) h1.out _).mono ?_
  rintro e w1 ⟨rfl, hb⟩
  obtain ⟨hc, hf⟩ := bcell hb
  go_wp2_with fail
  refine (refMaySP (Sm.mk f 2 1 rp rx ry rz) h2.out _).mono ?_
  rintro e w2 ⟨rfl, hb2⟩
  have hb := Grow.trans' hb hb2
  clear hb2 hc hf
  obtain ⟨hc, hf⟩ := bcell hb
  obtain ⟨k0, k1, k2, k3, k4, k5, k6⟩ : SBox w2 w.heap.size (Sm.mk f 2 2 sp sx sy sz) := by simp [SBox, hc, go_sem]
  obtain ⟨l0, l1, l2, l3, l4, l5, l6⟩ : SBox w2 (w.heap.size + 1) (Sm.mk f 2 1 rp rx ry rz) := by simp [SBox, hc, go_sem]
  dsimp only at k0 k1 k2 k3 k4 k5 k6 l0 l1 l2 l3 l4 l5 l6
  clear hc hf
  go_wp2
  repeat any_goals (first | (refine wp_loop_rounds 4 ?_; rw [rounds_succ]; go_wp2) | (rw [rounds_succ]; go_wp2) | (go_quiet (fail); go_wp2))
  all_goals go_ret
  all_goals refine ⟨ret_bool ?_, ?_⟩
  all_goals first | ((repeat with_reducible apply below_drewN); with_reducible exact Grow.trans' (Grow.trans' (Grow.alloc' _ _) (Grow.alloc' _ _)) hb) | (clear hb; rw [leS_iff]; simp [h1.out, h2.out]; done) | (clear hb; rw [leS_iff]; simp [h1.out, h2.out]; omega) | (clear hb; rw [leS_iff]; simp [h1.out, h2.out] at *; omega)
set_option maxHeartbeats 1000000 in
theorem refLeS_t_2_2_2 (f sp sx sy sz rp rx ry rz : Int) (w : World) (h1 : Hid (mayS (Sm.mk f 2 2 sp sx sy sz) = true)) (h2 : Hid (mayS (Sm.mk f 2 2 rp rx ry rz) = true)) (h5 : sp ≤ rp) :
    Calls Tryz.prog 105 #[.agg #[.int .i64 f, .int .i64 2, .int .i64 2, .int .i64 sp, .int .i64 sx, .int .i64 sy, .int .i64 sz], .agg #[.int .i64 f, .int .i64 2, .int .i64 2, .int .i64 rp, .int .i64 rx, .int .i64 ry, .int .i64 rz]] w fun e w' => e = .returned (.bool (leS (Sm.mk f 2 2 sp sx sy sz) (Sm.mk f 2 2 rp rx ry rz))) ∧ Below w.heap.size w w' := by
  go_enter Tryz.func105, Tryz.ntmps105
  go_wp2_with fail
  refine (refMaySP (Sm.mk f 2 2 sp sx sy sz) h1.out _).mono ?_
  rintro e w1 ⟨rfl, hb⟩
  obtain ⟨hc, hf⟩ := bcell hb
  go_wp2_with fail
  refine (refMaySP (Sm.mk f 2 2 rp rx ry rz) h2.out _).mono ?_
  rintro e w2 ⟨rfl, hb2⟩
  have hb := Grow.trans' hb hb2
  clear hb2 hc hf
  obtain ⟨hc, hf⟩ := bcell hb
  obtain ⟨k0, k1, k2, k3, k4, k5, k6⟩ : SBox w2 w.heap.size (Sm.mk f 2 2 sp sx sy sz) := by simp [SBox, hc, go_sem]
  obtain ⟨l0, l1, l2, l3, l4, l5, l6⟩ : SBox w2 (w.heap.size + 1) (Sm.mk f 2 2 rp rx ry rz) := by simp [SBox, hc, go_sem]
  dsimp only at k0 k1 k2 k3 k4 k5 k6 l0 l1 l2 l3 l4 l5 l6
  clear hc hf
  go_wp2
  repeat any_goals (first | (refine wp_loop_rounds 4 ?_; rw [rounds_succ]; go_wp2) | (rw [rounds_succ]; go_wp2) | (go_quiet (fail); go_wp2))
  all_goals go_ret
  all_goals refine ⟨ret_bool ?_, ?_⟩
  all_goals first | ((repeat with_reducible apply below_drewN); with_reducible exact Grow.trans' (Grow.trans' (Grow.alloc' _ _) (Grow.alloc' _ _)) hb) | (clear hb; rw [leS_iff]; simp [h1.out, h2.out]; done) | (clear hb; rw [leS_iff]; simp [h1.out, h2.out]; omega) | (clear hb; rw [leS_iff]; simp [h1.out, h2.out] at *; omega)
set_option maxHeartbeats 1000000 in
theorem refLeS_t_3_0_0 (f sp sx sy sz rp rx ry rz : Int) (w : World) (h1 : Hid (mayS (Sm.mk f 3 0 sp sx sy sz) = true)) (h2 : Hid (mayS (Sm.mk f 3 0 rp rx ry rz) = true)) (h5 : sp ≤ rp) :
    Calls Tryz.prog 105 #[.agg #[.int .i64 f, .int .i64 3, .int .i64 0, .int .i64 sp, .int .i64 sx, .int .i64 sy, .int .i64 sz], .agg #[.int .i64 f, .int .i64 3, .int .i64 0, .int .i64 rp, .int .i64 rx, .int .i64 ry, .int .i64 rz]] w fun e w' => e = .returned (.bool (leS (Sm.mk f 3 0 sp sx sy sz) (Sm.mk f 3 0 rp rx ry rz))) ∧ Below w.heap.size w w' := by
  go_enter Tryz.func105, Tryz.ntmps105
  go_wp2_with fail
  refine (refMaySP (Sm.mk f 3 0 sp sx sy sz) h1.out _).mono ?_
  rintro e w1 ⟨rfl, hb⟩
  obtain ⟨hc, hf⟩ := bcell hb
  go_wp2_with fail
  refine (refMaySP (Sm.mk f 3 0 rp rx ry rz) h2.out _).mono ?_
  rintro e w2 ⟨rfl, hb2⟩
  have hb := Grow.trans' hb hb2
  clear hb2 hc hf
  obtain ⟨hc, hf⟩ := bcell hb
  obtain ⟨k0, k1, k2, k3, k4, k5, k6⟩ : SBox w2 w.heap.size (Sm.mk f 3 0 sp sx sy sz) := by simp [SBox, hc, go_sem]
  obtain ⟨l0, l1, l2, l3, l4, l5, l6⟩ : SBox w2 (w.heap.size + 1) (Sm.mk f 3 0 rp rx ry rz) := by simp [SBox, hc, go_sem]
  dsimp only at k0 k1 k2 k3 k4 k5 k6 l0 l1 l2 l3 l4 l5 l6
  clear hc hf
  go_wp2
  repeat any_goals (first | (refine wp_loop_rounds 4 ?_; rw [rounds_succ]; go_wp2) | (rw [rounds_succ]; go_wp2) | (go_quiet (fail); go_wp2))
  all_goals go_ret
  all_goals refine ⟨ret_bool ?_, ?_⟩
  all_goals first | ((repeat with_reducible apply below_drewN); with_reducible exact Grow.trans' (Grow.trans' (Grow.alloc' _ _) (Grow.alloc' _ _)) hb) | (clear hb; rw [leS_iff]; simp [h1.out, h2.out]; done) | (clear hb; rw [leS_iff]; simp [h1.out, h2.out]; omega) | (clear hb; rw [leS_iff]; simp [h1.out, h2.out] at *; omega)
set_option maxHeartbeats 1000000 in
theorem refLeS_t_3_0_1 (f sp sx sy sz rp rx ry rz : Int) (w : World) (h1 : Hid (mayS (Sm.mk f 3 0 sp sx sy sz) = true)) (h2 : Hid (mayS (Sm.mk f 3 1 rp rx ry rz) = true)) (h5 : sp ≤ rp) :
    Calls Tryz.prog 105 #[.agg #[.int .i64 f, .int .i64 3, .int .i64 0, .int .i64 sp, .int .i64 sx, .int .i64 sy, .int .i64 sz], .agg #[.int .i64 f, .int .i64 3, .int .i64 1, .int .i64 rp, .int .i64 rx, .int .i64 ry, .int .i64 rz]] w fun e w' => e = .returned (.bool (leS (Sm.mk f 3 0 sp sx sy sz) (Sm.mk f 3 1 rp rx ry rz))) ∧ Below w.heap.size w w' := by
  go_enter Tryz.func105, Tryz.ntmps105
  go_wp2_with fail
  refine (refMaySP (Sm.mk f 3 0 sp sx sy sz) h1.out _).mono ?_
  rintro e w1 ⟨rfl, hb⟩
  obtain ⟨hc, hf⟩ := bcell hb
  go_wp2_with fail
  refine (refMaySP (Sm.mk f 3 1 rp rx ry rz) h2.out _).mono ?_
  rintro e w2 ⟨rfl, hb2⟩
  have hb := Grow.trans' hb hb2
  clear hb2 hc hf
  obtain ⟨hc, hf⟩ := bcell hb
  obtain ⟨k0, k1, k2, k3, k4, k5, k6⟩ : SBox w2 w.heap.size (Sm.mk f 3 0 sp sx sy sz) := by simp [SBox, hc, go_sem]
  obtain ⟨l0, l1, l2, l3, l4, l5, l6⟩ : SBox w2 (w.heap.size + 1) (Sm.mk f 3 1 rp rx ry rz) := by simp [SBox, hc, go_sem]
  dsimp only at k0 k1 k2 k3 k4 k5 k6 l0 l1 l2 l3 l4 l5 l6
  clear hc hf
  go_wp2
  repeat any_goals (first | (refine wp_loop_rounds 4 ?_; rw [rounds_succ]; go_wp2) | (rw [rounds_succ]; go_wp2) | (go_quiet (fail); go_wp2))
  all_goals go_ret
  all_goals refine ⟨ret_bool ?_, ?_⟩
  all_goals first | ((repeat with_reducible apply below_drewN); with_reducible exact Grow.trans' (Grow.trans' (Grow.alloc' _ _) (Grow.alloc' _ _)) hb) | (clear hb; rw [leS_iff]; simp [h1.out, h2.out]; done) | (clear hb; rw [leS_iff]; simp [h1.out, h2.out]; omega) | (clear hb; rw [leS_iff]; simp [h1.out, h2.out] at *; omega)
set_option maxHeartbeats 1000000 in
theorem refLeS_t_3_0_2 (f sp sx sy sz rp rx ry rz : Int) (w : World) (h1 : Hid (mayS (Sm.mk f 3 0 sp sx sy sz) = true)) (h2 : Hid (mayS (Sm.mk f 3 2 rp rx ry rz) = true)) (h5 : sp ≤ rp) :
    Calls Tryz.prog 105 #[.agg #[.int .i64 f, .int .i64 3, .int .i64 0, .int .i64 sp, .int .i64 sx, .int .i64 sy, .int .i64 sz], .agg #[.int .i64 f, .int .i64 3, .int .i64 2, .int .i64 rp, .int .i64 rx, .int .i64 ry, .int .i64 rz]] w fun e w' => e = .returned (.bool (leS (Sm.mk f 3 0 sp sx sy sz) (Sm.mk f 3 2 rp rx ry rz))) ∧ Below w.heap.size w w' := by
  go_enter Tryz.func105, Tryz.ntmps105
  go_wp2_with fail
  refine (refMaySP (Sm.mk f 3 0 sp sx sy sz) h1.out _).mono ?_
  rintro e w1 ⟨rfl, hb⟩
  obtain ⟨hc, hf⟩ := bcell hb
  go_wp2_with fail
  refine (refMaySP (Sm.mk f 3 2 rp rx ry rz) h2.out _).mono ?_
  rintro e w2 ⟨rfl, hb2⟩
  have hb := Grow.trans' hb hb2
  clear hb2 hc hf
  obtain ⟨hc, hf⟩ := bcell hb
  obtain ⟨k0, k1, k2, k3, k4, k5, k6⟩ : SBox w2 w.heap.size (Sm.mk f 3 0 sp sx sy sz) := by simp [SBox, hc, go_sem]
  obtain ⟨l0, l1, l2, l3, l4, l5, l6⟩ : SBox w2 (w.heap.size + 1) (Sm.mk f 3 2 rp rx ry rz) := by simp [SBox, hc, go_sem]
  dsimp only at k0 k1 k2 k3 k4 k5 k6 l0 l1 l2 l3 l4 l5 l6
  clear hc hf
  go_wp2
  repeat any_goals (first | (refine wp_loop_rounds 4 ?_; rw [rounds_succ]; go_wp2) | (rw [rounds_succ]; go_wp2) | (go_quiet (fail); go_wp2))
  all_goals go_ret
  all_goals refine ⟨ret_bool ?_, ?_⟩
  all_goals first | ((repeat with_reducible apply below_drewN); with_reducible exact Grow.trans' (Grow.trans' (Grow.alloc' _ _) (Grow.alloc' _ _)) hb) | (clear hb; rw [leS_iff]; simp [h1.out, h2.out]; done) | (clear hb; rw [leS_iff]; simp [h1.out, h2.out]; omega) | (clear hb; rw [leS_iff]; simp [h1.out, h2.out] at *; omega)
set_option maxHeartbeats 1000000 in
theorem refLeS_t_3_0_3 (f sp sx sy sz rp rx ry rz : Int) (w : World) (h1 : Hid (mayS (Sm.mk f 3 0 sp sx sy sz) = true)) (h2 : Hid (mayS (Sm.mk f 3 3 rp rx ry rz) = true)) (h5 : sp ≤ rp) :
    Calls Tryz.prog 105 #[.agg #[.int .i64 f, .int .i64 3, .int .i64 0, .int .i64 sp, .int .i64 sx, .int .i64 sy, .int .i64 sz], .agg #[.int .i64 f, .int .i64 3, .int .i64 3, .int .i64 rp, .int .i64 rx, .int .i64 ry, .int .i64 rz]] w fun e w' => e = .returned (.bool (leS (Sm.mk f 3 0 sp sx sy sz) (Sm.mk f 3 3 rp rx ry rz))) ∧ Below w.heap.size w w' := by
  go_enter Tryz.func105, Tryz.ntmps105
  go_wp2_with fail
  refine (refMaySP (Sm.mk f 3 0 sp sx sy sz) h1.out _).mono ?_
  rintro e w1 ⟨rfl, hb⟩
  obtain ⟨hc, hf⟩ := bcell hb
  go_wp2_with fail
  refine (refMaySP (Sm.mk f 3 3 rp rx ry rz) h2.out _).mono ?_
  rintro e w2 ⟨rfl, hb2⟩
  have hb := Grow.trans' hb hb2
  clear hb2 hc hf
  obtain ⟨hc, hf⟩ := bcell hb
  obtain ⟨k0, k1, k2, k3, k4, k5, k6⟩ : SBox w2 w.heap.size (Sm.mk f 3 0 sp sx sy sz) := by simp [SBox, hc, go_sem]
  obtain ⟨l0, l1, l2, l3, l4, l5, l6⟩ : SBox w2 (w.heap.size + 1) (Sm.mk f 3 3 rp rx ry rz) := by simp [SBox, hc, go_sem]
  dsimp only at k0 k1 k2 k3 k4 k5 k6 l0 l1 l2 l3 l4 l5 l6
  clear hc hf
  go_wp2
  repeat any_goals (first | (refine wp_loop_rounds 4 ?_; rw [rounds_succ]; go_wp2) | (rw [rounds_succ]; go_wp2) | (go_quiet (fail); go_wp2))
  all_goals go_ret
  all_goals refine ⟨ret_bool ?_, ?_⟩
  all_goals first | ((repeat with_reducible apply below_drewN); with_reducible exact Grow.trans' (Grow.trans' (Grow.alloc' _ _) (Grow.alloc' _ _)) hb) | (clear hb; rw [leS_iff]; simp [h1.out, h2.out]; done) | (clear hb; rw [leS_iff]; simp [h1.out, h2.out]; omega) | (clear hb; rw [leS_iff]; simp [h1.out, h2.out] at *; omega)
set_option maxHeartbeats 1000000 in
theorem refLeS_t_3_1_0 (f sp sx sy sz rp rx ry rz : Int) (w : World) (h1 : Hid (mayS (Sm.mk f 3 1 sp sx sy sz) = true)) (h2 : Hid (mayS (Sm.mk f 3 0 rp rx ry rz) = true)) (h5 : sp ≤ rp) :
    Calls Tryz.prog 105 #[.agg #[.int .i64 f, .int .i64 3, .int .i64 1, .int .i64 sp, .int .i64 sx, .int .i64 sy, .int .i64 sz], .agg #[.int .i64 f, .int .i64 3, .int .i64 0, .int .i64 rp, .int .i64 rx, .int .i64 ry, .int .i64 rz]] w fun e w' => e = .returned (.bool (leS (Sm.mk f 3 1 sp sx sy sz) (Sm.mk f 3 0 rp rx ry rz))) ∧ Below w.heap.size w w' := by
  go_enter Tryz.func105, Tryz.ntmps105
  go_wp2_with fail
  refine (refMaySP (Sm.mk f 3 1 sp sx sy sz) h1.out _).mono ?_
  rintro e w1 ⟨rfl, hb⟩
  obtain ⟨hc, hf⟩ := bcell hb
  go_wp2_with fail
  refine (refMaySP (Sm.mk f 3 0 rp rx ry rz) h2.out _).mono ?_
  rintro e w2 ⟨rfl, hb2⟩
  have hb := Grow.trans' hb hb2
  clear hb2 hc hf
  obtain ⟨hc, hf⟩ := bcell hb
  obtain ⟨k0, k1, k2, k3, k4, k5, k6⟩ : SBox w2 w.heap.size (Sm.mk f 3 1 sp sx sy sz) := by simp [SBox, hc, go_sem]
  obtain ⟨l0, l1, l2, l3, l4, l5, l6⟩ : SBox w2 (w.heap.size + 1) (Sm.mk f 3 0 rp rx ry rz) := by simp [SBox, hc, go_sem]
  dsimp only at k0 k1 k2 k3 k4 k5 k6 l0 l1 l2 l3 l4 l5 l6
  clear hc hf
  go_wp2
  repeat any_goals (first | (refine wp_loop_rounds 4 ?_; rw [rounds_succ]; go_wp2) | (rw [rounds_succ]; go_wp2) | (go_quiet (fail); go_wp2))
  all_goals go_ret
  all_goals refine ⟨ret_bool ?_, ?_⟩
  all_goals first | ((repeat with_reducible apply below_drewN); with_reducible exact Grow.trans' (Grow.trans' (Grow.alloc' _ _) (Grow.alloc' _ _)) hb) | (clear hb; rw [leS_iff]; simp [h1.out, h2.out]; done) | (clear hb; rw [leS_iff]; simp [h1.out, h2.out]; omega) | (clear hb; rw [leS_iff]; simp [h1.out, h2.out] at *; omega)
set_option maxHeartbeats 1000000 in
theorem refLeS_t_3_1_1 (f sp sx sy sz rp rx ry rz : Int) (w : World) (h1 : Hid (mayS (Sm.mk f 3 1 sp sx sy sz) = true)) (h2 : Hid (mayS (Sm.mk f 3 1 rp rx ry rz) = true)) (h5 : sp ≤ rp) :
    Calls Tryz.prog 105 #[.agg #[.int .i64 f, .int .i64 3, .int .i64 1, .int .i64 sp, .int .i64 sx, .int .i64 sy, .int .i64 sz], .agg #[.int .i64 f, .int .i64 3, .int .i64 1, .int .i64 rp, .int .i64 rx, .int .i64 ry, .int .i64 rz]] w fun e w' => e = .returned (.bool (leS (Sm.mk f 3 1 sp sx sy sz) (Sm.mk f 3 1 rp rx ry rz))) ∧ Below w.heap.size w w' := by
  go_enter Tryz.func105, Tryz.ntmps105
  go_wp2_with fail
  refine (refMaySP (Sm.mk f 3 1 sp sx sy sz) h1.out _).mono ?_
  rintro e w1 ⟨rfl, hb⟩
  obtain ⟨hc, hf⟩ := bcell hb
  go_wp2_with fail
  refine (refMaySP (Sm.mk f 3 1 rp rx ry rz) h2.out _).mono ?_
  rintro e w2 ⟨rfl, hb2⟩
  have hb := Grow.trans' hb hb2
  clear hb2 hc hf
  obtain ⟨hc, hf⟩ := bcell hb
  obtain ⟨k0, k1, k2, k3, k4, k5, k6⟩ : SBox w2 w.heap.size (Sm.mk f 3 1 sp sx sy sz) := by simp [SBox, hc, go_sem]
  obtain ⟨l0, l1, l2, l3, l4, l5, l6⟩ : SBox w2 (w.heap.size + 1) (Sm.mk f 3 1 rp rx ry rz) := by simp [SBox, hc, go_sem]
  dsimp only at k0 k1 k2 k3 k4 k5 k6 l0 l1 l2 l3 l4 l5 l6
  clear hc hf
  go_wp2
  repeat any_goals (first | (refine wp_loop_rounds 4 ?_; rw [rounds_succ]; go_wp2) | (rw [rounds_succ]; go_wp2) | (go_quiet (fail); go_wp2))
  all_goals go_ret
  all_goals refine ⟨ret_bool ?_, ?_⟩
  all_goals first | ((repeat with_reducible apply below_drewN); with_reducible exact Grow.trans' (Grow.trans' (Grow.alloc' _ _) (Grow.alloc' _ _)) hb) | (clear hb; rw [leS_iff]; simp [h1.out, h2.out]; done) | (clear hb; rw [leS_iff]; simp [h1.out, h2.out]; omega) | (clear hb; rw [leS_iff]; simp [h1.out, h2.out] at *; omega)
set_option maxHeartbeats 1000000 in
theorem refLeS_t_3_1_2 (f sp sx sy sz rp rx ry rz : Int) (w : World) (h1 : Hid (mayS (Sm.mk f 3 1 sp sx sy sz) = true)) (h2 : Hid (mayS (Sm.mk f 3 2 rp rx ry rz) = true)) (h5 : sp ≤ rp) :
    Calls Tryz.prog 105 #[.agg #[.int .i64 f, .int .i64 3, .int .i64 1, .int .i64 sp, .int .i64 sx, .int .i64 sy, .int .i64 sz], .agg #[.int .i64 f, .int .i64 3, .int .i64 2, .int .i64 rp, .int .i64 rx, .int .i64 ry, .int .i64 rz]] w fun e w' => e = .returned (.bool (leS (Sm.mk f 3 1 sp sx sy sz) (Sm.mk f 3 2 rp rx ry rz))) ∧ Below w.heap.size w w' := by
  go_enter Tryz.func105, Tryz.ntmps105
  go_wp2_with fail
  refine (refMaySP (Sm.mk f 3 1 sp sx sy sz) h1.out _).mono ?_
  rintro e w1 ⟨rfl, hb⟩
  obtain ⟨hc, hf⟩ := bcell hb
  go_wp2_with fail
  refine (refMaySP (Sm.mk f 3 2 rp rx ry rz) h2.out _).mono ?_
  rintro e w2 ⟨rfl, hb2⟩
  have hb := Grow.trans' hb hb2
  clear hb2 hc hf
  obtain ⟨hc, hf⟩ := bcell hb
  obtain ⟨k0, k1, k2, k3, k4, k5, k6⟩ : SBox w2 w.heap.size (Sm.mk f 3 1 sp sx sy sz) := by simp [SBox, hc, go_sem]
  obtain ⟨l0, l1, l2, l3, l4, l5, l6⟩ : SBox w2 (w.heap.size + 1) (Sm.mk f 3 2 rp rx ry rz) := by simp [SBox, hc, go_sem]
  dsimp only at k0 k1 k2 k3 k4 k5 k6 l0 l1 l2 l3 l4 l5 l6
  clear hc hf
  go_wp2
  repeat any_goals (first | (refine wp_loop_rounds 4 ?_; rw [rounds_succ]; go_wp2) | (rw [rounds_succ]; go_wp2) | (go_quiet (fail); go_wp2))
  all_goals go_ret
  all_goals refine ⟨ret_bool ?_, ?_⟩
  all_goals first | ((repeat with_reducible apply below_drewN); with_reducible exact Grow.trans' (Grow.trans' (Grow.alloc' _ _) (Grow.alloc' _ _)) hb) | (clear hb; rw [leS_iff]; simp [h1.out, h2.out]; done) | (clear hb; rw [leS_iff]; simp [h1.out, h2.out]; omega) | (clear hb; rw [leS_iff]; simp [h1.out, h2.out] at *; omega)
set_option maxHeartbeats 1000000 in
theorem refLeS_t_3_1_3 (f sp sx sy sz rp rx ry rz : Int) (w : World) (h1 : Hid (mayS (Sm.mk f 3 1 sp sx sy sz) = true)) (h2 : Hid (mayS (Sm.mk f 3 3 rp rx ry rz) = true)) (h5 : sp ≤ rp) :
    Calls Tryz.prog 105 #[.agg #[.int .i64 f, .int .i64 3, .int .i64 1, .int .i64 sp, .int .i64 sx, .int .i64 sy, .int .i64 sz], .agg #[.int .i64 f, .int .i64 3, .int .i64 3, .int .i64 rp, .int .i64 rx, .int .i64 ry, .int .i64 rz]] w fun e w' => e = .returned (.bool (leS (Sm.mk f 3 1 sp sx sy sz) (Sm.mk f 3 3 rp rx ry rz))) ∧ Below w.heap.size w w' := by
  go_enter Tryz.func105, Tryz.ntmps105
  go_wp2_with fail
  refine (refMaySP (Sm.mk f 3 1 sp sx sy sz) h1.out _).mono ?_
  rintro e w1 ⟨rfl, hb⟩
  obtain ⟨hc, hf⟩ := bcell hb
  go_wp2_with fail
  refine (refMaySP (Sm.mk f 3 3 rp rx ry rz) h2.out _).mono ?_
  rintro e w2 ⟨rfl, hb2⟩
  have hb := Grow.trans' hb hb2
  clear hb2 hc hf
  obtain ⟨hc, hf⟩ := bcell hb
  obtain ⟨k0, k1, k2, k3, k4, k5, k6⟩ : SBox w2 w.heap.size (Sm.mk f 3 1 sp sx sy sz) := by simp [SBox, hc, go_sem]
  obtain ⟨l0, l1, l2, l3, l4, l5, l6⟩ : SBox w2 (w.heap.size + 1) (Sm.mk f 3 3 rp rx ry rz) := by simp [SBox, hc, go_sem]
  dsimp only at k0 k1 k2 k3 k4 k5 k6 l0 l1 l2 l3 l4 l5 l6
  clear hc hf
  go_wp2
  repeat any_goals (first | (refine wp_loop_rounds 4 ?_; rw [rounds_succ]; go_wp2) | (rw [rounds_succ]; go_wp2) | (go_quiet (fail); go_wp2))
  all_goals go_ret
  all_goals refine ⟨ret_bool ?_, ?_⟩
  all_goals first | ((repeat with_reducible apply below_drewN); with_reducible exact Grow.trans' (Grow.trans' (Grow.alloc' _ _) (Grow.alloc' _ _)) hb) | (clear hb; rw [leS_iff]; simp [h1.out, h2.out]; done) | (clear hb; rw [leS_iff]; simp [h1.out, h2.out]; omega) | (clear hb; rw [leS_iff]; simp [h1.out, h2.out] at *; omega)
set_option maxHeartbeats 1000000 in
theorem refLeS_t_3_2_0 (f sp sx sy sz rp rx ry rz : Int) (w : World) (h1 : Hid (mayS (Sm.mk f 3 2 sp sx sy sz) = true)) (h2 : Hid (mayS (Sm.mk f 3 0 rp rx ry rz) = true)) (h5 : sp ≤ rp) :
    Calls Tryz.prog 105 #[.agg #[.int .i64 f, .int .i64 3, .int .i64 2, .int .i64 sp, .int .i64 sx, .int .i64 sy, .int .i64 sz], .agg #[.int .i64 f, .int .i64 3, .int .i64 0, .int .i64 rp, .int .i64 rx, .int .i64 ry, .int .i64 rz]] w fun e w' => e = .returned (.bool (leS (Sm.mk f 3 2 sp sx sy sz) (Sm.mk f 3 0 rp rx ry rz))) ∧ Below w.heap.size w w' := by
  go_enter Tryz.func105, Tryz.ntmps105
  go_wp2_with fail
  refine (refMaySP (Sm.mk f 3 2 sp sx sy sz) h1.out _).mono ?_
  rintro e w1 ⟨rfl, hb⟩
  obtain ⟨hc, hf⟩ := bcell hb
  go_wp2_with fail
  refine (refMaySP (Sm.mk f 3 0 rp rx ry rz) h2.out _).mono ?_
  rintro e w2 ⟨rfl, hb2⟩
  have hb := Grow.trans' hb hb2
  clear hb2 hc hf
  obtain ⟨hc, hf⟩ := bcell hb
  obtain ⟨k0, k1, k2, k3, k4, k5, k6⟩ : SBox w2 w.heap.size (Sm.mk f 3 2 sp sx sy sz) := by simp [SBox, hc, go_sem]
  obtain ⟨l0, l1, l2, l3, l4, l5, l6⟩ : SBox w2 (w.heap.size + 1) (Sm.mk f 3 0 rp rx ry rz) := by simp [SBox, hc, go_sem]
  dsimp only at k0 k1 k2 k3 k4 k5 k6 l0 l1 l2 l3 l4 l5 l6
  clear hc hf
  go_wp2
  repeat any_goals (first | (refine wp_loop_rounds 4 ?_; rw [rounds_succ]; go_wp2) | (rw [rounds_succ]; go_wp2) | (go_quiet (fail); go_wp2))
  all_goals go_ret
  all_goals refine ⟨ret_bool ?_, ?_⟩
  all_goals first | ((repeat with_reducible apply below_drewN); with_reducible exact Grow.trans' (Grow.trans' (Grow.alloc' _ _) (Grow.alloc' _ _)) hb) | (clear hb; rw [leS_iff]; simp [h1.out, h2.out]; done) | (clear hb; rw [leS_iff]; simp [h1.out, h2.out]; omega) | (clear hb; rw [leS_iff]; simp [h1.out, h2.out] at *; omega)
set_option maxHeartbeats 1000000 in
theorem refLeS_t_3_2_1 (f sp sx sy sz rp rx ry rz : Int) (w : World) (h1 : Hid (mayS (Sm.mk f 3 2 sp sx sy sz) = true)) (h2 : Hid (mayS (Sm.mk f 3 1 rp rx ry rz) = true)) (h5 : sp ≤ rp) :
    Calls Tryz.prog 105 #[.agg #[.int .i64 f, .int .i64 3, .int .i64 2, .int .i64 sp, .int .i64 sx, .int .i64 sy, .int .i64 sz], .agg #[.int .i64 f, .int .i64 3, .int .i64 1, .int .i64 rp, .int .i64 rx, .int .i64 ry, .int .i64 rz]] w fun e w' => e = .returned (.bool (leS (Sm.mk f 3 2 sp sx sy sz) (Sm.mk f 3 1 rp rx ry rz))) ∧ Below w.heap.size w w' := by
  go_enter Tryz.func105, Tryz.ntmps105
  go_wp2_with fail
  refine (refMaySP (Sm.mk f 3 2 sp sx sy sz) h1.out _).mono ?_
  rintro e w1 ⟨rfl, hb⟩
  obtain ⟨hc, hf⟩ := bcell hb
  go_wp2_with fail
  refine (refMaySP (Sm.mk f 3 1 rp rx ry rz) h2.out _).mono ?_
  rintro e w2 ⟨rfl, hb2⟩
  have hb := Grow.trans' hb hb2
  clear hb2 hc hf
  obtain ⟨hc, hf⟩ := bcell hb
  obtain ⟨k0, k1, k2, k3, k4, k5, k6⟩ : SBox w2 w.heap.size (Sm.mk f 3 2 sp sx sy sz) := by simp [SBox, hc, go_sem]
  obtain ⟨l0, l1, l2, l3, l4, l5, l6⟩ : SBox w2 (w.heap.size + 1) (Sm.mk f 3 1 rp rx ry rz) := by simp [SBox, hc, go_sem]
  dsimp only at k0 k1 k2 k3 k4 k5 k6 l0 l1 l2 l3 l4 l5 l6
  clear hc hf
  go_wp2
  repeat any_goals (first | (refine wp_loop_rounds 4 ?_; rw [rounds_succ]; go_wp2) | (rw [rounds_succ]; go_wp2) | (go_quiet (fail); go_wp2))
  all_goals go_ret
  all_goals refine ⟨ret_bool ?_, ?_⟩
  all_goals first | ((repeat with_reducible apply below_drewN); with_reducible exact Grow.trans' (Grow.trans' (Grow.alloc' _ _) (Grow.alloc' _ _)) hb) | (clear hb; rw [leS_iff]; simp [h1.out, h2.out]; done) | (clear hb; rw [leS_iff]; simp [h1.out, h2.out]; omega) | (clear hb; rw [leS_iff]; simp [h1.out, h2.out] at *; omega)
set_option maxHeartbeats 1000000 in
theorem refLeS_t_3_2_2 (f sp sx sy sz rp rx ry rz : Int) (w : World) (h1 : Hid (mayS (Sm.mk f 3 2 sp sx sy sz) = true)) (h2 : Hid (mayS (Sm.mk f 3 2 rp rx ry rz) = true)) (h5 : sp ≤ rp) :
    Calls Tryz.prog 105 #[.agg #[.int .i64 f, .int .i64 3, .int .i64 2, .int .i64 sp, .int .i64 sx, .int .i64 sy, .int .i64 sz], .agg #[.int .i64 f, .int .i64 3, .int .i64 2, .int .i64 rp, .int .i64 rx, .int .i64 ry, .int .i64 rz]] w fun e w' => e = .returned (.bool (leS (Sm.mk f 3 2 sp sx sy sz) (Sm.mk f 3 2 rp rx ry rz))) ∧ Below w.heap.size w w' := by
  go_enter Tryz.func105, Tryz.ntmps105
  go_wp2_with fail
  refine (refMaySP (Sm.mk f 3 2 sp sx sy sz) h1.out _).mono ?_
  rintro e w1 ⟨rfl, hb⟩
  obtain ⟨hc, hf⟩ := bcell hb
  go_wp2_with fail
  refine (refMaySP (Sm.mk f 3 2 rp rx ry rz) h2.out _).mono ?_
  rintro e w2 ⟨rfl, hb2⟩
  have hb := Grow.trans' hb hb2
  clear hb2 hc hf
  obtain ⟨hc, hf⟩ := bcell hb
  obtain ⟨k0, k1, k2, k3, k4, k5, k6⟩ : SBox w2 w.heap.size (Sm.mk f 3 2 sp sx sy sz) := by simp [SBox, hc, go_sem]
  obtain ⟨l0, l1, l2, l3, l4, l5, l6⟩ : SBox w2 (w.heap.size + 1) (Sm.mk f 3 2 rp rx ry rz) := by simp [SBox, hc, go_sem]
  dsimp only at k0 k1 k2 k3 k4 k5 k6 l0 l1 l2 l3 l4 l5 l6
  clear hc hf
  go_wp2
  repeat any_goals (first | (refine wp_loop_rounds 4 ?_; rw [rounds_succ]; go_wp2) | (rw [rounds_succ]; go_wp2) | (go_quiet (fail); go_wp2))
  all_goals go_ret
  all_goals refine ⟨ret_bool ?_, ?_⟩
  all_goals first | ((repeat with_reducible apply below_drewN); with_reducible exact Grow.trans' (Grow.trans' (Grow.alloc' _ _) (Grow.alloc' _ _)) hb) | (clear hb; rw [leS_iff]; simp [h1.out, h2.out]; done) | (clear hb; rw [leS_iff]; simp [h1.out, h2.out]; omega) | (clear hb; rw [leS_iff]; simp [h1.out, h2.out] at *; omega)
set_option maxHeartbeats 1000000 in
theorem refLeS_t_3_2_3 (f sp sx sy sz rp rx ry rz : Int) (w : World) (h1 : Hid (mayS (Sm.mk f 3 2 sp sx sy sz) = true)) (h2 : Hid (mayS (Sm.mk f 3 3 rp rx ry rz) = true)) (h5 : sp ≤ rp) :
    Calls Tryz.prog 105 #[.agg #[.int .i64 f, .int .i64 3, .int .i64 2, .int .i64 sp, .int .i64 sx, .int .i64 sy, .int .i64 sz], .agg #[.int .i64 f, .int .i64 3, .int .i64 3, .int .i64 rp, .int .i64 rx, .int .i64 ry, .int .i64 rz]] w fun e w' => e = .returned (.bool (leS (Sm.mk f 3 2 sp sx sy sz) (Sm.mk f 3 3 rp rx ry rz))) ∧ Below w.heap.size w w' := by
  go_enter Tryz.func105, Tryz.ntmps105
  go_wp2_with fail
  refine (refMaySP (Sm.mk f 3 2 sp sx sy sz) h1.out _).mono ?_
  rintro e w1 ⟨rfl, hb⟩
  obtain ⟨hc, hf⟩ := bcell hb
  go_wp2_with fail
  refine (refMaySP (Sm.mk f 3 3 rp rx ry rz) h2.out _).mono ?_
  rintro e w2 ⟨rfl, hb2⟩
  have hb := Grow.trans' hb hb2
  clear hb2 hc hf
  obtain ⟨hc, hf⟩ := bcell hb
  obtain ⟨k0, k1, k2, k3, k4, k5, k6⟩ : SBox w2 w.heap.size (Sm.mk f 3 2 sp sx sy sz) := by simp [SBox, hc, go_sem]
  obtain ⟨l0, l1, l2, l3, l4, l5, l6⟩ : SBox w2 (w.heap.size + 1) (Sm.mk f 3 3 rp rx ry rz) := by simp [SBox, hc, go_sem]
  dsimp only at k0 k1 k2 k3 k4 k5 k6 l0 l1 l2 l3 l4 l5 l6
  clear hc hf
  go_wp2
  repeat any_goals (first | (refine wp_loop_rounds 4 ?_; rw [rounds_succ]; go_wp2) | (rw [rounds_succ]; go_wp2) | (go_quiet (fail); go_wp2))
  all_goals go_ret
  all_goals refine ⟨ret_bool ?_, ?_⟩
  all_goals first | ((repeat with_reducible apply below_drewN); with_reducible exact Grow.trans' (Grow.trans' (Grow.alloc' _ _) (Grow.alloc' _ _)) hb) | (clear hb; rw [leS_iff]; simp [h1.out, h2.out]; done) | (clear hb; rw [leS_iff]; simp [h1.out, h2.out]; omega) | (clear hb; rw [leS_iff]; simp [h1.out, h2.out] at *; omega)
set_option maxHeartbeats 1000000 in
theorem refLeS_t_3_3_0 (f sp sx sy sz rp rx ry rz : Int) (w : World) (h1 : Hid (mayS (Sm.mk f 3 3 sp sx sy sz) = true)) (h2 : Hid (mayS (Sm.mk f 3 0 rp rx ry rz) = true)) (h5 : sp ≤ rp) :
    Calls Tryz.prog 105 #[.agg #[.int .i64 f, .int .i64 3, .int .i64 3, .int .i64 sp, .int .i64 sx, .int .i64 sy, .int .i64 sz], .agg #[.int .i64 f, .int .i64 3, .int .i64 0, .int .i64 rp, .int .i64 rx, .int .i64 ry, .int .i64 rz]] w fun e w' => e = .returned (.bool (leS (Sm.mk f 3 3 sp sx sy sz) (Sm.mk f 3 0 rp rx ry rz))) ∧ Below w.heap.size w w' := by
  go_enter Tryz.func105, Tryz.ntmps105
  go_wp2_with fail
  refine (refMaySP (Sm.mk f 3 3 sp sx sy sz) h1.out _).mono ?_
  rintro e w1 ⟨rfl, hb⟩
  obtain ⟨hc, hf⟩ := bcell hb
  go_wp2_with fail
  refine (refMaySP (Sm.mk f 3 0 rp rx ry rz) h2.out _).mono ?_
  rintro e w2 ⟨rfl, hb2⟩
  have hb := Grow.trans' hb hb2
  clear hb2 hc hf
  obtain ⟨hc, hf⟩ := bcell hb
  obtain ⟨k0, k1, k2, k3, k4, k5, k6⟩ : SBox w2 w.heap.size (Sm.mk f 3 3 sp sx sy sz) := by simp [SBox, hc, go_sem]
  obtain ⟨l0, l1, l2, l3, l4, l5, l6⟩ : SBox w2 (w.heap.size + 1) (Sm.mk f 3 0 rp rx ry rz) := by simp [SBox, hc, go_sem]
  dsimp only at k0 k1 k2 k3 k4 k5 k6 l0 l1 l2 l3 l4 l5 l6
  clear hc hf
  go_wp2
  repeat any_goals (first | (refine wp_loop_rounds 4 ?_; rw [rounds_succ]; go_wp2) | (rw [rounds_succ]; go_wp2) | (go_quiet (fail); go_wp2))
  all_goals go_ret
  all_goals refine ⟨ret_bool ?_, ?_⟩
  all_goals first | ((repeat with_reducible apply below_drewN); with_reducible exact Grow.trans' (Grow.trans' (Grow.alloc' _ _) (Grow.alloc' _ _)) hb) | (clear hb; rw [leS_iff]; simp [h1.out, h2.out]; done) | (clear hb; rw [leS_iff]; simp [h1.out, h2.out]; omega) | (clear hb; rw [leS_iff]; simp [h1.out, h2.out] at *; omega)
set_option maxHeartbeats 1000000 in
theorem refLeS_t_3_3_1 (f sp sx sy sz rp rx ry rz : Int) (w : World) (h1 : Hid (mayS (Sm.mk f 3 3 sp sx sy sz) = true)) (h2 : Hid (mayS (Sm.mk f 3 1 rp rx ry rz) = true)) (h5 : sp ≤ rp) :
    Calls Tryz.prog 105 #[.agg #[.int .i64 f, .int .i64 3, .int .i64 3, .int .i64 sp, .int .i64 sx, .int .i64 sy, .int .i64 sz], .agg #[.int .i64 f, .int .i64 3, .int .i64 1, .int .i64 rp, .int .i64 rx, .int .i64 ry, .int .i64 rz]] w fun e w' => e = .returned (.bool (leS (Sm.mk f 3 3 sp sx sy sz) (Sm.mk f 3 1 rp rx ry rz))) ∧ Below w.heap.size w w' := by
  go_enter Tryz.func105, Tryz.ntmps105
  go_wp2_with fail
  refine (refMaySP (Sm.mk f 3 3 sp sx sy sz) h1.out _).mono ?_
  rintro e w1 ⟨rfl, hb⟩
  obtain ⟨hc, hf⟩ := bcell hb
  go_wp2_with fail
  refine (refMaySP (Sm.mk f 3 1 rp rx ry rz) h2.out _).mono ?_
  rintro e w2 ⟨rfl, hb2⟩
  have hb := Grow.trans' hb hb2
  clear hb2 hc hf
  obtain ⟨hc, hf⟩ := bcell hb
  obtain ⟨k0, k1, k2, k3, k4, k5, k6⟩ : SBox w2 w.heap.size (Sm.mk f 3 3 sp sx sy sz) := by simp [SBox, hc, go_sem]
  obtain ⟨l0, l1, l2, l3, l4, l5, l6⟩ : SBox w2 (w.heap.size + 1) (Sm.mk f 3 1 rp rx ry rz) := by simp [SBox, hc, go_sem]
  dsimp only at k0 k1 k2 k3 k4 k5 k6 l0 l1 l2 l3 l4 l5 l6
  clear hc hf
  go_wp2
  repeat any_goals (first | (refine wp_loop_rounds 4 ?_; rw [rounds_succ]; go_wp2) | (rw [rounds_succ]; go_wp2) | (go_quiet (fail); go_wp2))
  all_goals go_ret
  all_goals refine ⟨ret_bool ?_, ?_⟩
  all_goals first | ((repeat with_reducible apply below_drewN); with_reducible exact Grow.trans' (Grow.trans' (Grow.alloc' _ _) (Grow.alloc' _ _)) hb) | (clear hb; rw [leS_iff]; simp [h1.out, h2.out]; done) | (clear hb; rw [leS_iff]; simp [h1.out, h2.out]; omega) | (clear hb; rw [leS_iff]; simp [h1.out, h2.out] at *; omega)
set_option maxHeartbeats 1000000 in
theorem refLeS_t_3_3_2 (f sp sx sy sz rp rx ry rz : Int) (w : World) (h1 : Hid (mayS (Sm.mk f 3 3 sp sx sy sz) = true)) (h2 : Hid (mayS (Sm.mk f 3 2 rp rx ry rz) = true)) (h5 : sp ≤ rp) :
    Calls Tryz.prog 105 #[.agg #[.int .i64 f, .int .i64 3, .int .i64 3, .int .i64 sp, .int .i64 sx, .int .i64 sy, .int .i64 sz], .agg #[.int .i64 f, .int .i64 3, .int .i64 2, .int .i64 rp, .int .i64 rx, .int .i64 ry, .int .i64 rz]] w fun e w' => e = .returned (.bool (leS (Sm.mk f 3 3 sp sx sy sz) (Sm.mk f 3 2 rp rx ry rz))) ∧ Below w.heap.size w w' := by
  go_enter Tryz.func105, Tryz.ntmps105
  go_wp2_with fail
  refine (refMaySP (Sm.mk f 3 3 sp sx sy sz) h1.out _).mono ?_
  rintro e w1 ⟨rfl, hb⟩
  obtain ⟨hc, hf⟩ := bcell hb
  go_wp2_with fail
  refine (refMaySP (Sm.mk f 3 2 rp rx ry rz) h2.out _).mono ?_
  rintro e w2 ⟨rfl, hb2⟩
  have hb := Grow.trans' hb hb2
  clear hb2 hc hf
  obtain ⟨hc, hf⟩ := bcell hb
  obtain ⟨k0, k1, k2, k3, k4, k5, k6⟩ : SBox w2 w.heap.size (Sm.mk f 3 3 sp sx sy sz) := by simp [SBox, hc, go_sem]
  obtain ⟨l0, l1, l2, l3, l4, l5, l6⟩ : SBox w2 (w.heap.size + 1) (Sm.mk f 3 2 rp rx ry rz) := by simp [SBox, hc, go_sem]
  dsimp only at k0 k1 k2 k3 k4 k5 k6 l0 l1 l2 l3 l4 l5 l6
  clear hc hf
  go_wp2
  repeat any_goals (first | (refine wp_loop_rounds 4 ?_; rw [rounds_succ]; go_wp2) | (rw [rounds_succ]; go_wp2) | (go_quiet (fail); go_wp2))
  all_goals go_ret
  all_goals refine ⟨ret_bool ?_, ?_⟩
  all_goals first | ((repeat with_reducible apply below_drewN); with_reducible exact Grow.trans' (Grow.trans' (Grow.alloc' _ _) (Grow.alloc' _ _)) hb) | (clear hb; rw [leS_iff]; simp [h1.out, h2.out]; done) | (clear hb; rw [leS_iff]; simp [h1.out, h2.out]; omega) | (clear hb; rw [leS_iff]; simp [h1.out, h2.out] at *; omega)
set_option maxHeartbeats 1000000 in
theorem refLeS_t_3_3_3 (f sp sx sy sz rp rx ry rz : Int) (w : World) (h1 : Hid (mayS (Sm.mk f 3 3 sp sx sy sz) = true)) (h2 : Hid (mayS (Sm.mk f 3 3 rp rx ry rz) = true)) (h5 : sp ≤ rp) :
    Calls Tryz.prog 105 #[.agg #[.int .i64 f, .int .i64 3, .int .i64 3, .int .i64 sp, .int .i64 sx, .int .i64 sy, .int .i64 sz], .agg #[.int .i64 f, .int .i64 3, .int .i64 3, .int .i64 rp, .int .i64 rx, .int .i64 ry, .int .i64 rz]] w fun e w' => e = .returned (.bool (leS (Sm.mk f 3 3 sp sx sy sz) (Sm.mk f 3 3 rp rx ry rz))) ∧ Below w.heap.size w w' := by
  go_enter Tryz.func105, Tryz.ntmps105
  go_wp2_with fail
  refine (refMaySP (Sm.mk f 3 3 sp sx sy sz) h1.out _).mono ?_
  rintro e w1 ⟨rfl, hb⟩
  obtain ⟨hc, hf⟩ := bcell hb
  go_wp2_with fail
  refine (refMaySP (Sm.mk f 3 3 rp rx ry rz) h2.out _).mono ?_
  rintro e w2 ⟨rfl, hb2⟩
  have hb := Grow.trans' hb hb2
  clear hb2 hc hf
  obtain ⟨hc, hf⟩ := bcell hb
  obtain ⟨k0, k1, k2, k3, k4, k5, k6⟩ : SBox w2 w.heap.size (Sm.mk f 3 3 sp sx sy sz) := by simp [SBox, hc, go_sem]
  obtain ⟨l0, l1, l2, l3, l4, l5, l6⟩ : SBox w2 (w.heap.size + 1) (Sm.mk f 3 3 rp rx ry rz) := by simp [SBox, hc, go_sem]
  dsimp only at k0 k1 k2 k3 k4 k5 k6 l0 l1 l2 l3 l4 l5 l6
  clear hc hf
  go_wp2
  repeat any_goals (first | (refine wp_loop_rounds 4 ?_; rw [rounds_succ]; go_wp2) | (rw [rounds_succ]; go_wp2) | (go_quiet (fail); go_wp2))
  all_goals go_ret
  all_goals refine ⟨ret_bool ?_, ?_⟩
  all_goals first | ((repeat with_reducible apply below_drewN); with_reducible exact Grow.trans' (Grow.trans' (Grow.alloc' _ _) (Grow.alloc' _ _)) hb) | (clear hb; rw [leS_iff]; simp [h1.out, h2.out]; done) | (clear hb; rw [leS_iff]; simp [h1.out, h2.out]; omega) | (clear hb; rw [leS_iff]; simp [h1.out, h2.out] at *; omega)

theorem sLe_any (s r : Sm) (w : World) :
    Calls Tryz.prog 119 #[.agg #[.int .i64 s.f, .int .i64 s.t, .int .i64 s.k, .int .i64 s.ep, .int .i64 s.x, .int .i64 s.y, .int .i64 s.z], .agg #[.int .i64 r.f, .int .i64 r.t, .int .i64 r.k, .int .i64 r.ep, .int .i64 r.x, .int .i64 r.y, .int .i64 r.z]] w fun e w' => e = .returned (.bool (leS s r)) ∧ Below w.heap.size w w' := by
  cases h1 : mayS s
  · simpa [leS, h1] using sLe_0 s r w h1
  cases h2 : mayS r
  · simpa [leS, h1, h2] using sLe_1 s r w h1 h2
  by_cases h3 : s.f = r.f
  rotate_left
  · simpa [leS, h1, h2, h3] using sLe_2 s r w h1 h2 h3
  by_cases h4 : s.t = r.t
  rotate_left
  · simpa [leS, h1, h2, h3, h4] using sLe_3 s r w h1 h2 h3 h4
  by_cases h5 : r.ep < s.ep
  · have h5' : ¬ s.ep ≤ r.ep := by omega
    simpa [leS, h1, h2, h3, h4, h5'] using sLe_4 s r w h1 h2 h3 h4 h5
  have h5' : s.ep ≤ r.ep := by omega
  clear h5
  have b1 := (mayS_iff s).1 h1
  have b2 := (mayS_iff r).1 h2
  obtain ⟨⟨-, -, t0, t3⟩, ⟨k0, -, k1⟩, -⟩ := b1
  obtain ⟨-, ⟨l0, -, l1⟩, -⟩ := b2
  obtain ⟨f, t, sk, sp, sx, sy, sz⟩ := s
  obtain ⟨f', t', rk, rp, rx, ry, rz⟩ := r
  simp only at h3 h4 h5' t0 t3 k0 k1 l0 l1
  subst h3 h4
  have ht : t = 0 ∨ t = 1 ∨ t = 2 ∨ t = 3 := by omega
  rcases ht with rfl | rfl | rfl | rfl
  · have ha : sk = 0 := by omega
    have hb : rk = 0 := by omega
    subst ha hb
    · exact sLe_t_0_0_0 f sp sx sy sz rp rx ry rz w h1 h2 h5'
  · have ha : sk = 0 ∨ sk = 1 := by omega
    have hb : rk = 0 ∨ rk = 1 := by omega
    rcases ha with rfl | rfl <;> rcases hb with rfl | rfl
    · exact sLe_t_1_0_0 f sp sx sy sz rp rx ry rz w h1 h2 h5'
    · exact sLe_t_1_0_1 f sp sx sy sz rp rx ry rz w h1 h2 h5'
    · exact sLe_t_1_1_0 f sp sx sy sz rp rx ry rz w h1 h2 h5'
    · exact sLe_t_1_1_1 f sp sx sy sz rp rx ry rz w h1 h2 h5'
  · have ha : sk = 0 ∨ sk = 1 ∨ sk = 2 := by omega
    have hb : rk = 0 ∨ rk = 1 ∨ rk = 2 := by omega
    rcases ha with rfl | rfl | rfl <;> rcases hb with rfl | rfl | rfl
    · exact sLe_t_2_0_0 f sp sx sy sz rp rx ry rz w h1 h2 h5'
    · exact sLe_t_2_0_1 f sp sx sy sz rp rx ry rz w h1 h2 h5'
    · exact sLe_t_2_0_2 f sp sx sy sz rp rx ry rz w h1 h2 h5'
    · exact sLe_t_2_1_0 f sp sx sy sz rp rx ry rz w h1 h2 h5'
    · exact sLe_t_2_1_1 f sp sx sy sz rp rx ry rz w h1 h2 h5'
    · exact sLe_t_2_1_2 f sp sx sy sz rp rx ry rz w h1 h2 h5'
    · exact sLe_t_2_2_0 f sp sx sy sz rp rx ry rz w h1 h2 h5'
    · exact sLe_t_2_2_1 f sp sx sy sz rp rx ry rz w h1 h2 h5'
    · exact sLe_t_2_2_2 f sp sx sy sz rp rx ry rz w h1 h2 h5'
  · have ha : sk = 0 ∨ sk = 1 ∨ sk = 2 ∨ sk = 3 := by omega
    have hb : rk = 0 ∨ rk = 1 ∨ rk = 2 ∨ rk = 3 := by omega
    rcases ha with rfl | rfl | rfl | rfl <;> rcases hb with rfl | rfl | rfl | rfl
    · exact sLe_t_3_0_0 f sp sx sy sz rp rx ry rz w h1 h2 h5'
    · exact sLe_t_3_0_1 f sp sx sy sz rp rx ry rz w h1 h2 h5'
    · exact sLe_t_3_0_2 f sp sx sy sz rp rx ry rz w h1 h2 h5'
    · exact sLe_t_3_0_3 f sp sx sy sz rp rx ry rz w h1 h2 h5'
    · exact sLe_t_3_1_0 f sp sx sy sz rp rx ry rz w h1 h2 h5'
    · exact sLe_t_3_1_1 f sp sx sy sz rp rx ry rz w h1 h2 h5'
    · exact sLe_t_3_1_2 f sp sx sy sz rp rx ry rz w h1 h2 h5'
    · exact sLe_t_3_1_3 f sp sx sy sz rp rx ry rz w h1 h2 h5'
    · exact sLe_t_3_2_0 f sp sx sy sz rp rx ry rz w h1 h2 h5'
    · exact sLe_t_3_2_1 f sp sx sy sz rp rx ry rz w h1 h2 h5'
    · exact sLe_t_3_2_2 f sp sx sy sz rp rx ry rz w h1 h2 h5'
    · exact sLe_t_3_2_3 f sp sx sy sz rp rx ry rz w h1 h2 h5'
    · exact sLe_t_3_3_0 f sp sx sy sz rp rx ry rz w h1 h2 h5'
    · exact sLe_t_3_3_1 f sp sx sy sz rp rx ry rz w h1 h2 h5'
    · exact sLe_t_3_3_2 f sp sx sy sz rp rx ry rz w h1 h2 h5'
    · exact sLe_t_3_3_3 f sp sx sy sz rp rx ry rz w h1 h2 h5'

theorem refLeS_any (s r : Sm) (w : World) :
    Calls Tryz.prog 105 #[.agg #[.int .i64 s.f, .int .i64 s.t, .int .i64 s.k, .int .i64 s.ep, .int .i64 s.x, .int .i64 s.y, .int .i64 s.z], .agg #[.int .i64 r.f, .int .i64 r.t, .int .i64 r.k, .int .i64 r.ep, .int .i64 r.x, .int .i64 r.y, .int .i64 r.z]] w fun e w' => e = .returned (.bool (leS s r)) ∧ Below w.heap.size w w' := by
  cases h1 : mayS s
  · cases h2 : mayS r
    · simpa [leS, h1] using refLeS_0false s r w h1 h2
    · simpa [leS, h1] using refLeS_0true s r w h1 h2
  cases h2 : mayS r
  · simpa [leS, h1, h2] using refLeS_1 s r w h1 h2
  by_cases h3 : s.f = r.f
  rotate_left
  · simpa [leS, h1, h2, h3] using refLeS_2 s r w h1 h2 h3
  by_cases h4 : s.t = r.t
  rotate_left
  · simpa [leS, h1, h2, h3, h4] using refLeS_3 s r w h1 h2 h3 h4
  by_cases h5 : r.ep < s.ep
  · have h5' : ¬ s.ep ≤ r.ep := by omega
    simpa [leS, h1, h2, h3, h4, h5'] using refLeS_4 s r w h1 h2 h3 h4 h5
  have h5' : s.ep ≤ r.ep := by omega
  clear h5
  have b1 := (mayS_iff s).1 h1
  have b2 := (mayS_iff r).1 h2
  obtain ⟨⟨-, -, t0, t3⟩, ⟨k0, -, k1⟩, -⟩ := b1
  obtain ⟨-, ⟨l0, -, l1⟩, -⟩ := b2
  obtain ⟨f, t, sk, sp, sx, sy, sz⟩ := s
  obtain ⟨f', t', rk, rp, rx, ry, rz⟩ := r
  simp only at h3 h4 h5' t0 t3 k0 k1 l0 l1
  subst h3 h4
  have ht : t = 0 ∨ t = 1 ∨ t = 2 ∨ t = 3 := by omega
  rcases ht with rfl | rfl | rfl | rfl
  · have ha : sk = 0 := by omega
    have hb : rk = 0 := by omega
    subst ha hb
    · exact refLeS_t_0_0_0 f sp sx sy sz rp rx ry rz w h1 h2 h5'
  · have ha : sk = 0 ∨ sk = 1 := by omega
    have hb : rk = 0 ∨ rk = 1 := by omega
    rcases ha with rfl | rfl <;> rcases hb with rfl | rfl
    · exact refLeS_t_1_0_0 f sp sx sy sz rp rx ry rz w h1 h2 h5'
    · exact refLeS_t_1_0_1 f sp sx sy sz rp rx ry rz w h1 h2 h5'
    · exact refLeS_t_1_1_0 f sp sx sy sz rp rx ry rz w h1 h2 h5'
    · exact refLeS_t_1_1_1 f sp sx sy sz rp rx ry rz w h1 h2 h5'
  · have ha : sk = 0 ∨ sk = 1 ∨ sk = 2 := by omega
    have hb : rk = 0 ∨ rk = 1 ∨ rk = 2 := by omega
    rcases ha with rfl | rfl | rfl <;> rcases hb with rfl | rfl | rfl
    · exact refLeS_t_2_0_0 f sp sx sy sz rp rx ry rz w h1 h2 h5'
    · exact refLeS_t_2_0_1 f sp sx sy sz rp rx ry rz w h1 h2 h5'
    · exact refLeS_t_2_0_2 f sp sx sy sz rp rx ry rz w h1 h2 h5'
    · exact refLeS_t_2_1_0 f sp sx sy sz rp rx ry rz w h1 h2 h5'
    · exact refLeS_t_2_1_1 f sp sx sy sz rp rx ry rz w h1 h2 h5'
    · exact refLeS_t_2_1_2 f sp sx sy sz rp rx ry rz w h1 h2 h5'
    · exact refLeS_t_2_2_0 f sp sx sy sz rp rx ry rz w h1 h2 h5'
    · exact refLeS_t_2_2_1 f sp sx sy sz rp rx ry rz w h1 h2 h5'
    · exact refLeS_t_2_2_2 f sp sx sy sz rp rx ry rz w h1 h2 h5'
  · have ha : sk = 0 ∨ sk = 1 ∨ sk = 2 ∨ sk = 3 := by omega
    have hb : rk = 0 ∨ rk = 1 ∨ rk = 2 ∨ rk = 3 := by omega
    rcases ha with rfl | rfl | rfl | rfl <;> rcases hb with rfl | rfl | rfl | rfl
    · exact refLeS_t_3_0_0 f sp sx sy sz rp rx ry rz w h1 h2 h5'
    · exact refLeS_t_3_0_1 f sp sx sy sz rp rx ry rz w h1 h2 h5'
    · exact refLeS_t_3_0_2 f sp sx sy sz rp rx ry rz w h1 h2 h5'
    · exact refLeS_t_3_0_3 f sp sx sy sz rp rx ry rz w h1 h2 h5'
    · exact refLeS_t_3_1_0 f sp sx sy sz rp rx ry rz w h1 h2 h5'
    · exact refLeS_t_3_1_1 f sp sx sy sz rp rx ry rz w h1 h2 h5'
    · exact refLeS_t_3_1_2 f sp sx sy sz rp rx ry rz w h1 h2 h5'
    · exact refLeS_t_3_1_3 f sp sx sy sz rp rx ry rz w h1 h2 h5'
    · exact refLeS_t_3_2_0 f sp sx sy sz rp rx ry rz w h1 h2 h5'
    · exact refLeS_t_3_2_1 f sp sx sy sz rp rx ry rz w h1 h2 h5'
    · exact refLeS_t_3_2_2 f sp sx sy sz rp rx ry rz w h1 h2 h5'
    · exact refLeS_t_3_2_3 f sp sx sy sz rp rx ry rz w h1 h2 h5'
    · exact refLeS_t_3_3_0 f sp sx sy sz rp rx ry rz w h1 h2 h5'
    · exact refLeS_t_3_3_1 f sp sx sy sz rp rx ry rz w h1 h2 h5'
    · exact refLeS_t_3_3_2 f sp sx sy sz rp rx ry rz w h1 h2 h5'
    · exact refLeS_t_3_3_3 f sp sx sy sz rp rx ry rz w h1 h2 h5'

end Go.Proofs.YtehianjfpmbfpaaGreat
