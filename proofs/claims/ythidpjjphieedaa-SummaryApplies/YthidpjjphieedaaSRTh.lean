/-
  What the document's own Then does to the world: for every two summaries the answer and the error; what was there stays as it was.
-/
import Derived.Test.YthidpjjphieedaaSAp
import Derived.Test.YthidpjjphieedaaSRMy
namespace Go.Proofs.Ythidpjjphieedaa
open Go.RowKit
set_option linter.unusedVariables false
attribute [local go_sem] growR growA growD
attribute [local go_sem ↓] run_minI

theorem refMayTP (a : Sm) {p : Bool} (h : mayS a = p) (w : World) : Calls Try.prog 19 #[.agg #[.int .i64 a.f, .int .i64 a.t, .int .i64 a.k, .int .i64 a.ep, .int .i64 a.x, .int .i64 a.y, .int .i64 a.z]] w fun e w' => e = .returned (.bool p) ∧ Below w.heap.size w w' := by rw [← h]; exact refMayS_any a w
set_option maxHeartbeats 400000 in
theorem refThen_00 (s r : Sm) (w : World) (h1 : Hid (mayS s = false)) (h2 : Hid (mayS r = false)) :
    Calls Try.prog 23 #[.agg #[.int .i64 s.f, .int .i64 s.t, .int .i64 s.k, .int .i64 s.ep, .int .i64 s.x, .int .i64 s.y, .int .i64 s.z], .agg #[.int .i64 r.f, .int .i64 r.t, .int .i64 r.k, .int .i64 r.ep, .int .i64 r.x, .int .i64 r.y, .int .i64 r.z]] w fun e w' => e = .returned (.tuple #[.agg #[.int .i64 0, .int .i64 0, .int .i64 0, .int .i64 0, .int .i64 0, .int .i64 0, .int .i64 0], .int .i64 1]) ∧ Below w.heap.size w w' := by
  go_enter Try.func23, Try.ntmps23
  go_wp2_with fail
  refine (refMayTP s h1.out _).mono ?_
  rintro e w1 ⟨rfl, hb⟩
  obtain ⟨hc, hf⟩ := bcell hb
  go_wp2_with fail
  refine (refMayTP r h2.out _).mono ?_
  rintro e w2 ⟨rfl, hb2⟩
  have hb := Grow.trans' hb hb2; clear hb2 hc hf; obtain ⟨hc, hf⟩ := bcell hb
  go_wp2
  refine bodyPost_ret (v := .tuple #[.agg #[.int .i64 0, .int .i64 0, .int .i64 0, .int .i64 0, .int .i64 0, .int .i64 0, .int .i64 0], .int .i64 1]) (by simp [results, Try.results23, go_sem, hc]) rfl ⟨rfl, ?_⟩
  iterate 7 refine Below.setCell ?_ (by simp; try omega) _
  exact Grow.trans' (Grow.trans' (Grow.trans' (Grow.alloc' _ _) (Grow.alloc' _ _)) (Grow.alloc' _ _)) hb
set_option maxHeartbeats 400000 in
theorem refThen_01 (s r : Sm) (w : World) (h1 : Hid (mayS s = false)) (h2 : Hid (mayS r = true)) :
    Calls Try.prog 23 #[.agg #[.int .i64 s.f, .int .i64 s.t, .int .i64 s.k, .int .i64 s.ep, .int .i64 s.x, .int .i64 s.y, .int .i64 s.z], .agg #[.int .i64 r.f, .int .i64 r.t, .int .i64 r.k, .int .i64 r.ep, .int .i64 r.x, .int .i64 r.y, .int .i64 r.z]] w fun e w' => e = .returned (.tuple #[.agg #[.int .i64 0, .int .i64 0, .int .i64 0, .int .i64 0, .int .i64 0, .int .i64 0, .int .i64 0], .int .i64 1]) ∧ Below w.heap.size w w' := by
  go_enter Try.func23, Try.ntmps23
  go_wp2_with fail
  refine (refMayTP s h1.out _).mono ?_
  rintro e w1 ⟨rfl, hb⟩
  obtain ⟨hc, hf⟩ := bcell hb
  go_wp2_with fail
  refine (refMayTP r h2.out _).mono ?_
  rintro e w2 ⟨rfl, hb2⟩
  have hb := Grow.trans' hb hb2; clear hb2 hc hf; obtain ⟨hc, hf⟩ := bcell hb
  go_wp2
  refine bodyPost_ret (v := .tuple #[.agg #[.int .i64 0, .int .i64 0, .int .i64 0, .int .i64 0, .int .i64 0, .int .i64 0, .int .i64 0], .int .i64 1]) (by simp [results, Try.results23, go_sem, hc]) rfl ⟨rfl, ?_⟩
  iterate 7 refine Below.setCell ?_ (by simp; try omega) _
  exact Grow.trans' (Grow.trans' (Grow.trans' (Grow.alloc' _ _) (Grow.alloc' _ _)) (Grow.alloc' _ _)) hb
set_option maxHeartbeats 400000 in
theorem refThen_10 (s r : Sm) (w : World) (h1 : Hid (mayS s = true)) (h2 : Hid (mayS r = false)) :
    Calls Try.prog 23 #[.agg #[.int .i64 s.f, .int .i64 s.t, .int .i64 s.k, .int .i64 s.ep, .int .i64 s.x, .int .i64 s.y, .int .i64 s.z], .agg #[.int .i64 r.f, .int .i64 r.t, .int .i64 r.k, .int .i64 r.ep, .int .i64 r.x, .int .i64 r.y, .int .i64 r.z]] w fun e w' => e = .returned (.tuple #[.agg #[.int .i64 0, .int .i64 0, .int .i64 0, .int .i64 0, .int .i64 0, .int .i64 0, .int .i64 0], .int .i64 1]) ∧ Below w.heap.size w w' := by
  go_enter Try.func23, Try.ntmps23
  go_wp2_with fail
  refine (refMayTP s h1.out _).mono ?_
  rintro e w1 ⟨rfl, hb⟩
  obtain ⟨hc, hf⟩ := bcell hb
  go_wp2_with fail
  refine (refMayTP r h2.out _).mono ?_
  rintro e w2 ⟨rfl, hb2⟩
  have hb := Grow.trans' hb hb2; clear hb2 hc hf; obtain ⟨hc, hf⟩ := bcell hb
  go_wp2
  refine bodyPost_ret (v := .tuple #[.agg #[.int .i64 0, .int .i64 0, .int .i64 0, .int .i64 0, .int .i64 0, .int .i64 0, .int .i64 0], .int .i64 1]) (by simp [results, Try.results23, go_sem, hc]) rfl ⟨rfl, ?_⟩
  iterate 7 refine Below.setCell ?_ (by simp; try omega) _
  exact Grow.trans' (Grow.trans' (Grow.trans' (Grow.alloc' _ _) (Grow.alloc' _ _)) (Grow.alloc' _ _)) hb
set_option maxHeartbeats 400000 in
theorem refThen_11 (s r : Sm) (w : World) (h1 : Hid (mayS s = true)) (h2 : Hid (mayS r = true)) (h3 : ¬ s.t = r.f) :
    Calls Try.prog 23 #[.agg #[.int .i64 s.f, .int .i64 s.t, .int .i64 s.k, .int .i64 s.ep, .int .i64 s.x, .int .i64 s.y, .int .i64 s.z], .agg #[.int .i64 r.f, .int .i64 r.t, .int .i64 r.k, .int .i64 r.ep, .int .i64 r.x, .int .i64 r.y, .int .i64 r.z]] w fun e w' => e = .returned (.tuple #[.agg #[.int .i64 0, .int .i64 0, .int .i64 0, .int .i64 0, .int .i64 0, .int .i64 0, .int .i64 0], .int .i64 1]) ∧ Below w.heap.size w w' := by
  go_enter Try.func23, Try.ntmps23
  go_wp2_with fail
  refine (refMayTP s h1.out _).mono ?_
  rintro e w1 ⟨rfl, hb⟩
  obtain ⟨hc, hf⟩ := bcell hb
  go_wp2_with fail
  refine (refMayTP r h2.out _).mono ?_
  rintro e w2 ⟨rfl, hb2⟩
  have hb := Grow.trans' hb hb2; clear hb2 hc hf; obtain ⟨hc, hf⟩ := bcell hb
  go_wp2
  refine bodyPost_ret (v := .tuple #[.agg #[.int .i64 0, .int .i64 0, .int .i64 0, .int .i64 0, .int .i64 0, .int .i64 0, .int .i64 0], .int .i64 1]) (by simp [results, Try.results23, go_sem, hc]) rfl ⟨rfl, ?_⟩
  iterate 7 refine Below.setCell ?_ (by simp; try omega) _
  exact Grow.trans' (Grow.trans' (Grow.trans' (Grow.alloc' _ _) (Grow.alloc' _ _)) (Grow.alloc' _ _)) hb
set_option maxHeartbeats 2000000 in
theorem refThen_0_0 (f sk sp sx sy sz rf rp rx ry rz : Int) (w : World) (h1 : Hid (mayS (Sm.mk f rf sk sp sx sy sz) = true)) (h2 : Hid (mayS (Sm.mk rf 0 0 rp rx ry rz) = true)) (p : Bool) (h4 : Hid (mayS (Sm.mk f 0 (minI sk 0) (sp + rp) (0) (0) (0)) = p)) :
    Calls Try.prog 23 #[.agg #[.int .i64 f, .int .i64 rf, .int .i64 sk, .int .i64 sp, .int .i64 sx, .int .i64 sy, .int .i64 sz], .agg #[.int .i64 rf, .int .i64 0, .int .i64 0, .int .i64 rp, .int .i64 rx, .int .i64 ry, .int .i64 rz]] w fun e w' => e = .returned (.tuple #[cond p (.agg #[.int .i64 f, .int .i64 0, .int .i64 (minI sk 0), .int .i64 (sp + rp), .int .i64 (0), .int .i64 (0), .int .i64 (0)]) (.agg #[.int .i64 0, .int .i64 0, .int .i64 0, .int .i64 0, .int .i64 0, .int .i64 0, .int .i64 0]), .int .i64 (cond p 0 4)]) ∧ Below w.heap.size w w' := by
  obtain ⟨⟨a1, a2⟩, ⟨a3, a4⟩, ⟨a5, a6⟩, ⟨a7, a8⟩⟩ := mayS_small h1.out
  obtain ⟨⟨b1, b2⟩, ⟨b3, b4⟩, ⟨b5, b6⟩, ⟨b7, b8⟩⟩ := mayS_small h2.out
  dsimp only at a1 a2 a3 a4 a5 a6 a7 a8 b1 b2 b3 b4 b5 b6 b7 b8
  have we := wrap_small a1 a2 b1 b2 (Int.le_refl _)
  have wx := wrap_small a3 a4 b3 b4 (Int.le_refl _)
  have wy := wrap_small a5 a6 b5 b6 (Int.le_refl _)
  have wz := wrap_small a7 a8 b7 b8 (Int.le_refl _)
  clear a1 a2 a3 a4 a5 a6 a7 a8 b1 b2 b3 b4 b5 b6 b7 b8
  go_enter Try.func23, Try.ntmps23
  go_wp2_with fail
  refine (refMayTP (Sm.mk f rf sk sp sx sy sz) h1.out _).mono ?_
  rintro e w1 ⟨rfl, hb⟩
  obtain ⟨hc, hf⟩ := bcell hb
  go_wp2_with fail
  refine (refMayTP (Sm.mk rf 0 0 rp rx ry rz) h2.out _).mono ?_
  rintro e w2 ⟨rfl, hb2⟩
  have hb := Grow.trans' hb hb2; clear hb2 hc hf; obtain ⟨hc, hf⟩ := bcell hb
  have hz : w.heap.size + 2 < w2.heap.size := by have := hb.size; simp at this; omega
  have hz1 : w.heap.size + 1 < w2.heap.size := by omega
  have hz0 : w.heap.size < w2.heap.size := by omega
  go_wp2_with fail
  repeat any_goals (first | (refine wp_loop_rounds 4 ?_; rw [rounds_succ]; go_wp2_with fail) | (rw [rounds_succ]; go_wp2_with fail) | (go_region; go_wp2_with fail))
  all_goals
    refine (refMayTP (Sm.mk f 0 (minI sk 0) (sp + rp) (0) (0) (0)) h4.out _).mono ?_
    rintro e w5 ⟨rfl, hb5⟩
    have KB : SBox w5 w2.heap.size (Sm.mk f 0 (minI sk 0) (sp + rp) (0) (0) (0)) := SBox.later hb5 (by simp [SBox, go_sem])
    have hb := Grow.trans' hb (Grow.trans' (by simp (maxDischargeDepth := 9) only [go_sem]) hb5)
    clear hb5 hc hf
    obtain ⟨k0, k1, k2, k3, k4, k5, k6⟩ := KB
    obtain ⟨hc, hf⟩ := bcell hb
    cases p
    · go_wp2
      refine bodyPost_ret (v := .tuple #[.agg #[.int .i64 0, .int .i64 0, .int .i64 0, .int .i64 0, .int .i64 0, .int .i64 0, .int .i64 0], .int .i64 4]) (by simp [results, Try.results23, go_sem, hc]) rfl ⟨rfl, ?_⟩
      iterate 7 refine Below.setCell ?_ (by simp; try omega) _
      exact Grow.trans' (Grow.trans' (Grow.trans' (Grow.alloc' _ _) (Grow.alloc' _ _)) (Grow.alloc' _ _)) hb
    · go_wp2
      refine bodyPost_ret (v := .tuple #[.agg #[.int .i64 f, .int .i64 0, .int .i64 (minI sk 0), .int .i64 (sp + rp), .int .i64 (0), .int .i64 (0), .int .i64 (0)], .int .i64 0]) (by simp [results, Try.results23, go_sem, hc]) rfl ⟨rfl, ?_⟩
      iterate 7 refine Below.setCell ?_ (by simp; try omega) _
      exact Grow.trans' (Grow.trans' (Grow.trans' (Grow.alloc' _ _) (Grow.alloc' _ _)) (Grow.alloc' _ _)) hb
set_option maxHeartbeats 2000000 in
theorem refThen_1_0 (f sk sp sx sy sz rf rp rx ry rz : Int) (w : World) (h1 : Hid (mayS (Sm.mk f rf sk sp sx sy sz) = true)) (h2 : Hid (mayS (Sm.mk rf 1 0 rp rx ry rz) = true)) (p : Bool) (h4 : Hid (mayS (Sm.mk f 1 (minI sk 0) (sp + rp) (rx) (0) (0)) = p)) :
    Calls Try.prog 23 #[.agg #[.int .i64 f, .int .i64 rf, .int .i64 sk, .int .i64 sp, .int .i64 sx, .int .i64 sy, .int .i64 sz], .agg #[.int .i64 rf, .int .i64 1, .int .i64 0, .int .i64 rp, .int .i64 rx, .int .i64 ry, .int .i64 rz]] w fun e w' => e = .returned (.tuple #[cond p (.agg #[.int .i64 f, .int .i64 1, .int .i64 (minI sk 0), .int .i64 (sp + rp), .int .i64 (rx), .int .i64 (0), .int .i64 (0)]) (.agg #[.int .i64 0, .int .i64 0, .int .i64 0, .int .i64 0, .int .i64 0, .int .i64 0, .int .i64 0]), .int .i64 (cond p 0 4)]) ∧ Below w.heap.size w w' := by
  obtain ⟨⟨a1, a2⟩, ⟨a3, a4⟩, ⟨a5, a6⟩, ⟨a7, a8⟩⟩ := mayS_small h1.out
  obtain ⟨⟨b1, b2⟩, ⟨b3, b4⟩, ⟨b5, b6⟩, ⟨b7, b8⟩⟩ := mayS_small h2.out
  dsimp only at a1 a2 a3 a4 a5 a6 a7 a8 b1 b2 b3 b4 b5 b6 b7 b8
  have we := wrap_small a1 a2 b1 b2 (Int.le_refl _)
  have wx := wrap_small a3 a4 b3 b4 (Int.le_refl _)
  have wy := wrap_small a5 a6 b5 b6 (Int.le_refl _)
  have wz := wrap_small a7 a8 b7 b8 (Int.le_refl _)
  clear a1 a2 a3 a4 a5 a6 a7 a8 b1 b2 b3 b4 b5 b6 b7 b8
  go_enter Try.func23, Try.ntmps23
  go_wp2_with fail
  refine (refMayTP (Sm.mk f rf sk sp sx sy sz) h1.out _).mono ?_
  rintro e w1 ⟨rfl, hb⟩
  obtain ⟨hc, hf⟩ := bcell hb
  go_wp2_with fail
  refine (refMayTP (Sm.mk rf 1 0 rp rx ry rz) h2.out _).mono ?_
  rintro e w2 ⟨rfl, hb2⟩
  have hb := Grow.trans' hb hb2; clear hb2 hc hf; obtain ⟨hc, hf⟩ := bcell hb
  have hz : w.heap.size + 2 < w2.heap.size := by have := hb.size; simp at this; omega
  have hz1 : w.heap.size + 1 < w2.heap.size := by omega
  have hz0 : w.heap.size < w2.heap.size := by omega
  go_wp2_with fail
  repeat any_goals (first | (refine wp_loop_rounds 4 ?_; rw [rounds_succ]; go_wp2_with fail) | (rw [rounds_succ]; go_wp2_with fail) | (go_region; go_wp2_with fail))
  all_goals
    refine (refMayTP (Sm.mk f 1 (minI sk 0) (sp + rp) (rx) (0) (0)) h4.out _).mono ?_
    rintro e w5 ⟨rfl, hb5⟩
    have KB : SBox w5 w2.heap.size (Sm.mk f 1 (minI sk 0) (sp + rp) (rx) (0) (0)) := SBox.later hb5 (by simp [SBox, go_sem])
    have hb := Grow.trans' hb (Grow.trans' (by simp (maxDischargeDepth := 9) only [go_sem]) hb5)
    clear hb5 hc hf
    obtain ⟨k0, k1, k2, k3, k4, k5, k6⟩ := KB
    obtain ⟨hc, hf⟩ := bcell hb
    cases p
    · go_wp2
      refine bodyPost_ret (v := .tuple #[.agg #[.int .i64 0, .int .i64 0, .int .i64 0, .int .i64 0, .int .i64 0, .int .i64 0, .int .i64 0], .int .i64 4]) (by simp [results, Try.results23, go_sem, hc]) rfl ⟨rfl, ?_⟩
      iterate 7 refine Below.setCell ?_ (by simp; try omega) _
      exact Grow.trans' (Grow.trans' (Grow.trans' (Grow.alloc' _ _) (Grow.alloc' _ _)) (Grow.alloc' _ _)) hb
    · go_wp2
      refine bodyPost_ret (v := .tuple #[.agg #[.int .i64 f, .int .i64 1, .int .i64 (minI sk 0), .int .i64 (sp + rp), .int .i64 (rx), .int .i64 (0), .int .i64 (0)], .int .i64 0]) (by simp [results, Try.results23, go_sem, hc]) rfl ⟨rfl, ?_⟩
      iterate 7 refine Below.setCell ?_ (by simp; try omega) _
      exact Grow.trans' (Grow.trans' (Grow.trans' (Grow.alloc' _ _) (Grow.alloc' _ _)) (Grow.alloc' _ _)) hb
set_option maxHeartbeats 2000000 in
theorem refThen_1_1 (f sk sp sx sy sz rf rp rx ry rz : Int) (w : World) (h1 : Hid (mayS (Sm.mk f rf sk sp sx sy sz) = true)) (h2 : Hid (mayS (Sm.mk rf 1 1 rp rx ry rz) = true)) (p : Bool) (h4 : Hid (mayS (Sm.mk f 1 (minI sk 1) (sp + rp) (sx + rx) (0) (0)) = p)) :
    Calls Try.prog 23 #[.agg #[.int .i64 f, .int .i64 rf, .int .i64 sk, .int .i64 sp, .int .i64 sx, .int .i64 sy, .int .i64 sz], .agg #[.int .i64 rf, .int .i64 1, .int .i64 1, .int .i64 rp, .int .i64 rx, .int .i64 ry, .int .i64 rz]] w fun e w' => e = .returned (.tuple #[cond p (.agg #[.int .i64 f, .int .i64 1, .int .i64 (minI sk 1), .int .i64 (sp + rp), .int .i64 (sx + rx), .int .i64 (0), .int .i64 (0)]) (.agg #[.int .i64 0, .int .i64 0, .int .i64 0, .int .i64 0, .int .i64 0, .int .i64 0, .int .i64 0]), .int .i64 (cond p 0 4)]) ∧ Below w.heap.size w w' := by
  obtain ⟨⟨a1, a2⟩, ⟨a3, a4⟩, ⟨a5, a6⟩, ⟨a7, a8⟩⟩ := mayS_small h1.out
  obtain ⟨⟨b1, b2⟩, ⟨b3, b4⟩, ⟨b5, b6⟩, ⟨b7, b8⟩⟩ := mayS_small h2.out
  dsimp only at a1 a2 a3 a4 a5 a6 a7 a8 b1 b2 b3 b4 b5 b6 b7 b8
  have we := wrap_small a1 a2 b1 b2 (Int.le_refl _)
  have wx := wrap_small a3 a4 b3 b4 (Int.le_refl _)
  have wy := wrap_small a5 a6 b5 b6 (Int.le_refl _)
  have wz := wrap_small a7 a8 b7 b8 (Int.le_refl _)
  clear a1 a2 a3 a4 a5 a6 a7 a8 b1 b2 b3 b4 b5 b6 b7 b8
  go_enter Try.func23, Try.ntmps23
  go_wp2_with fail
  refine (refMayTP (Sm.mk f rf sk sp sx sy sz) h1.out _).mono ?_
  rintro e w1 ⟨rfl, hb⟩
  obtain ⟨hc, hf⟩ := bcell hb
  go_wp2_with fail
  refine (refMayTP (Sm.mk rf 1 1 rp rx ry rz) h2.out _).mono ?_
  rintro e w2 ⟨rfl, hb2⟩
  have hb := Grow.trans' hb hb2; clear hb2 hc hf; obtain ⟨hc, hf⟩ := bcell hb
  have hz : w.heap.size + 2 < w2.heap.size := by have := hb.size; simp at this; omega
  have hz1 : w.heap.size + 1 < w2.heap.size := by omega
  have hz0 : w.heap.size < w2.heap.size := by omega
  go_wp2_with fail
  repeat any_goals (first | (refine wp_loop_rounds 4 ?_; rw [rounds_succ]; go_wp2_with fail) | (rw [rounds_succ]; go_wp2_with fail) | (go_region; go_wp2_with fail))
  all_goals
    refine (refMayTP (Sm.mk f 1 (minI sk 1) (sp + rp) (sx + rx) (0) (0)) h4.out _).mono ?_
    rintro e w5 ⟨rfl, hb5⟩
    have KB : SBox w5 w2.heap.size (Sm.mk f 1 (minI sk 1) (sp + rp) (sx + rx) (0) (0)) := SBox.later hb5 (by simp [SBox, go_sem])
    have hb := Grow.trans' hb (Grow.trans' (by simp (maxDischargeDepth := 9) only [go_sem]) hb5)
    clear hb5 hc hf
    obtain ⟨k0, k1, k2, k3, k4, k5, k6⟩ := KB
    obtain ⟨hc, hf⟩ := bcell hb
    cases p
    · go_wp2
      refine bodyPost_ret (v := .tuple #[.agg #[.int .i64 0, .int .i64 0, .int .i64 0, .int .i64 0, .int .i64 0, .int .i64 0, .int .i64 0], .int .i64 4]) (by simp [results, Try.results23, go_sem, hc]) rfl ⟨rfl, ?_⟩
      iterate 7 refine Below.setCell ?_ (by simp; try omega) _
      exact Grow.trans' (Grow.trans' (Grow.trans' (Grow.alloc' _ _) (Grow.alloc' _ _)) (Grow.alloc' _ _)) hb
    · go_wp2
      refine bodyPost_ret (v := .tuple #[.agg #[.int .i64 f, .int .i64 1, .int .i64 (minI sk 1), .int .i64 (sp + rp), .int .i64 (sx + rx), .int .i64 (0), .int .i64 (0)], .int .i64 0]) (by simp [results, Try.results23, go_sem, hc]) rfl ⟨rfl, ?_⟩
      iterate 7 refine Below.setCell ?_ (by simp; try omega) _
      exact Grow.trans' (Grow.trans' (Grow.trans' (Grow.alloc' _ _) (Grow.alloc' _ _)) (Grow.alloc' _ _)) hb
set_option maxHeartbeats 2000000 in
theorem refThen_2_0 (f sk sp sx sy sz rf rp rx ry rz : Int) (w : World) (h1 : Hid (mayS (Sm.mk f rf sk sp sx sy sz) = true)) (h2 : Hid (mayS (Sm.mk rf 2 0 rp rx ry rz) = true)) (p : Bool) (h4 : Hid (mayS (Sm.mk f 2 (minI sk 0) (sp + rp) (rx) (ry) (0)) = p)) :
    Calls Try.prog 23 #[.agg #[.int .i64 f, .int .i64 rf, .int .i64 sk, .int .i64 sp, .int .i64 sx, .int .i64 sy, .int .i64 sz], .agg #[.int .i64 rf, .int .i64 2, .int .i64 0, .int .i64 rp, .int .i64 rx, .int .i64 ry, .int .i64 rz]] w fun e w' => e = .returned (.tuple #[cond p (.agg #[.int .i64 f, .int .i64 2, .int .i64 (minI sk 0), .int .i64 (sp + rp), .int .i64 (rx), .int .i64 (ry), .int .i64 (0)]) (.agg #[.int .i64 0, .int .i64 0, .int .i64 0, .int .i64 0, .int .i64 0, .int .i64 0, .int .i64 0]), .int .i64 (cond p 0 4)]) ∧ Below w.heap.size w w' := by
  obtain ⟨⟨a1, a2⟩, ⟨a3, a4⟩, ⟨a5, a6⟩, ⟨a7, a8⟩⟩ := mayS_small h1.out
  obtain ⟨⟨b1, b2⟩, ⟨b3, b4⟩, ⟨b5, b6⟩, ⟨b7, b8⟩⟩ := mayS_small h2.out
  dsimp only at a1 a2 a3 a4 a5 a6 a7 a8 b1 b2 b3 b4 b5 b6 b7 b8
  have we := wrap_small a1 a2 b1 b2 (Int.le_refl _)
  have wx := wrap_small a3 a4 b3 b4 (Int.le_refl _)
  have wy := wrap_small a5 a6 b5 b6 (Int.le_refl _)
  have wz := wrap_small a7 a8 b7 b8 (Int.le_refl _)
  clear a1 a2 a3 a4 a5 a6 a7 a8 b1 b2 b3 b4 b5 b6 b7 b8
  go_enter Try.func23, Try.ntmps23
  go_wp2_with fail
  refine (refMayTP (Sm.mk f rf sk sp sx sy sz) h1.out _).mono ?_
  rintro e w1 ⟨rfl, hb⟩
  obtain ⟨hc, hf⟩ := bcell hb
  go_wp2_with fail
  refine (refMayTP (Sm.mk rf 2 0 rp rx ry rz) h2.out _).mono ?_
  rintro e w2 ⟨rfl, hb2⟩
  have hb := Grow.trans' hb hb2; clear hb2 hc hf; obtain ⟨hc, hf⟩ := bcell hb
  have hz : w.heap.size + 2 < w2.heap.size := by have := hb.size; simp at this; omega
  have hz1 : w.heap.size + 1 < w2.heap.size := by omega
  have hz0 : w.heap.size < w2.heap.size := by omega
  go_wp2_with fail
  repeat any_goals (first | (refine wp_loop_rounds 4 ?_; rw [rounds_succ]; go_wp2_with fail) | (rw [rounds_succ]; go_wp2_with fail) | (go_region; go_wp2_with fail))
  all_goals
    refine (refMayTP (Sm.mk f 2 (minI sk 0) (sp + rp) (rx) (ry) (0)) h4.out _).mono ?_
    rintro e w5 ⟨rfl, hb5⟩
    have KB : SBox w5 w2.heap.size (Sm.mk f 2 (minI sk 0) (sp + rp) (rx) (ry) (0)) := SBox.later hb5 (by simp [SBox, go_sem])
    have hb := Grow.trans' hb (Grow.trans' (by simp (maxDischargeDepth := 9) only [go_sem]) hb5)
    clear hb5 hc hf
    obtain ⟨k0, k1, k2, k3, k4, k5, k6⟩ := KB
    obtain ⟨hc, hf⟩ := bcell hb
    cases p
    · go_wp2
      refine bodyPost_ret (v := .tuple #[.agg #[.int .i64 0, .int .i64 0, .int .i64 0, .int .i64 0, .int .i64 0, .int .i64 0, .int .i64 0], .int .i64 4]) (by simp [results, Try.results23, go_sem, hc]) rfl ⟨rfl, ?_⟩
      iterate 7 refine Below.setCell ?_ (by simp; try omega) _
      exact Grow.trans' (Grow.trans' (Grow.trans' (Grow.alloc' _ _) (Grow.alloc' _ _)) (Grow.alloc' _ _)) hb
    · go_wp2
      refine bodyPost_ret (v := .tuple #[.agg #[.int .i64 f, .int .i64 2, .int .i64 (minI sk 0), .int .i64 (sp + rp), .int .i64 (rx), .int .i64 (ry), .int .i64 (0)], .int .i64 0]) (by simp [results, Try.results23, go_sem, hc]) rfl ⟨rfl, ?_⟩
      iterate 7 refine Below.setCell ?_ (by simp; try omega) _
      exact Grow.trans' (Grow.trans' (Grow.trans' (Grow.alloc' _ _) (Grow.alloc' _ _)) (Grow.alloc' _ _)) hb
set_option maxHeartbeats 2000000 in
theorem refThen_2_1 (f sk sp sx sy sz rf rp rx ry rz : Int) (w : World) (h1 : Hid (mayS (Sm.mk f rf sk sp sx sy sz) = true)) (h2 : Hid (mayS (Sm.mk rf 2 1 rp rx ry rz) = true)) (p : Bool) (h4 : Hid (mayS (Sm.mk f 2 (minI sk 1) (sp + rp) (sx + rx) (ry) (0)) = p)) :
    Calls Try.prog 23 #[.agg #[.int .i64 f, .int .i64 rf, .int .i64 sk, .int .i64 sp, .int .i64 sx, .int .i64 sy, .int .i64 sz], .agg #[.int .i64 rf, .int .i64 2, .int .i64 1, .int .i64 rp, .int .i64 rx, .int .i64 ry, .int .i64 rz]] w fun e w' => e = .returned (.tuple #[cond p (.agg #[.int .i64 f, .int .i64 2, .int .i64 (minI sk 1), .int .i64 (sp + rp), .int .i64 (sx + rx), .int .i64 (ry), .int .i64 (0)]) (.agg #[.int .i64 0, .int .i64 0, .int .i64 0, .int .i64 0, .int .i64 0, .int .i64 0, .int .i64 0]), .int .i64 (cond p 0 4)]) ∧ Below w.heap.size w w' := by
  obtain ⟨⟨a1, a2⟩, ⟨a3, a4⟩, ⟨a5, a6⟩, ⟨a7, a8⟩⟩ := mayS_small h1.out
  obtain ⟨⟨b1, b2⟩, ⟨b3, b4⟩, ⟨b5, b6⟩, ⟨b7, b8⟩⟩ := mayS_small h2.out
  dsimp only at a1 a2 a3 a4 a5 a6 a7 a8 b1 b2 b3 b4 b5 b6 b7 b8
  have we := wrap_small a1 a2 b1 b2 (Int.le_refl _)
  have wx := wrap_small a3 a4 b3 b4 (Int.le_refl _)
  have wy := wrap_small a5 a6 b5 b6 (Int.le_refl _)
  have wz := wrap_small a7 a8 b7 b8 (Int.le_refl _)
  clear a1 a2 a3 a4 a5 a6 a7 a8 b1 b2 b3 b4 b5 b6 b7 b8
  go_enter Try.func23, Try.ntmps23
  go_wp2_with fail
  refine (refMayTP (Sm.mk f rf sk sp sx sy sz) h1.out _).mono ?_
  rintro e w1 ⟨rfl, hb⟩
  obtain ⟨hc, hf⟩ := bcell hb
  go_wp2_with fail
  refine (refMayTP (Sm.mk rf 2 1 rp rx ry rz) h2.out _).mono ?_
  rintro e w2 ⟨rfl, hb2⟩
  have hb := Grow.trans' hb hb2; clear hb2 hc hf; obtain ⟨hc, hf⟩ := bcell hb
  have hz : w.heap.size + 2 < w2.heap.size := by have := hb.size; simp at this; omega
  have hz1 : w.heap.size + 1 < w2.heap.size := by omega
  have hz0 : w.heap.size < w2.heap.size := by omega
  go_wp2_with fail
  repeat any_goals (first | (refine wp_loop_rounds 4 ?_; rw [rounds_succ]; go_wp2_with fail) | (rw [rounds_succ]; go_wp2_with fail) | (go_region; go_wp2_with fail))
  all_goals
    refine (refMayTP (Sm.mk f 2 (minI sk 1) (sp + rp) (sx + rx) (ry) (0)) h4.out _).mono ?_
    rintro e w5 ⟨rfl, hb5⟩
    have KB : SBox w5 w2.heap.size (Sm.mk f 2 (minI sk 1) (sp + rp) (sx + rx) (ry) (0)) := SBox.later hb5 (by simp [SBox, go_sem])
    have hb := Grow.trans' hb (Grow.trans' (by simp (maxDischargeDepth := 9) only [go_sem]) hb5)
    clear hb5 hc hf
    obtain ⟨k0, k1, k2, k3, k4, k5, k6⟩ := KB
    obtain ⟨hc, hf⟩ := bcell hb
    cases p
    · go_wp2
      refine bodyPost_ret (v := .tuple #[.agg #[.int .i64 0, .int .i64 0, .int .i64 0, .int .i64 0, .int .i64 0, .int .i64 0, .int .i64 0], .int .i64 4]) (by simp [results, Try.results23, go_sem, hc]) rfl ⟨rfl, ?_⟩
      iterate 7 refine Below.setCell ?_ (by simp; try omega) _
      exact Grow.trans' (Grow.trans' (Grow.trans' (Grow.alloc' _ _) (Grow.alloc' _ _)) (Grow.alloc' _ _)) hb
    · go_wp2
      refine bodyPost_ret (v := .tuple #[.agg #[.int .i64 f, .int .i64 2, .int .i64 (minI sk 1), .int .i64 (sp + rp), .int .i64 (sx + rx), .int .i64 (ry), .int .i64 (0)], .int .i64 0]) (by simp [results, Try.results23, go_sem, hc]) rfl ⟨rfl, ?_⟩
      iterate 7 refine Below.setCell ?_ (by simp; try omega) _
      exact Grow.trans' (Grow.trans' (Grow.trans' (Grow.alloc' _ _) (Grow.alloc' _ _)) (Grow.alloc' _ _)) hb
set_option maxHeartbeats 2000000 in
theorem refThen_2_2 (f sk sp sx sy sz rf rp rx ry rz : Int) (w : World) (h1 : Hid (mayS (Sm.mk f rf sk sp sx sy sz) = true)) (h2 : Hid (mayS (Sm.mk rf 2 2 rp rx ry rz) = true)) (p : Bool) (h4 : Hid (mayS (Sm.mk f 2 (minI sk 2) (sp + rp) (sx + rx) (sy + ry) (0)) = p)) :
    Calls Try.prog 23 #[.agg #[.int .i64 f, .int .i64 rf, .int .i64 sk, .int .i64 sp, .int .i64 sx, .int .i64 sy, .int .i64 sz], .agg #[.int .i64 rf, .int .i64 2, .int .i64 2, .int .i64 rp, .int .i64 rx, .int .i64 ry, .int .i64 rz]] w fun e w' => e = .returned (.tuple #[cond p (.agg #[.int .i64 f, .int .i64 2, .int .i64 (minI sk 2), .int .i64 (sp + rp), .int .i64 (sx + rx), .int .i64 (sy + ry), .int .i64 (0)]) (.agg #[.int .i64 0, .int .i64 0, .int .i64 0, .int .i64 0, .int .i64 0, .int .i64 0, .int .i64 0]), .int .i64 (cond p 0 4)]) ∧ Below w.heap.size w w' := by
  obtain ⟨⟨a1, a2⟩, ⟨a3, a4⟩, ⟨a5, a6⟩, ⟨a7, a8⟩⟩ := mayS_small h1.out
  obtain ⟨⟨b1, b2⟩, ⟨b3, b4⟩, ⟨b5, b6⟩, ⟨b7, b8⟩⟩ := mayS_small h2.out
  dsimp only at a1 a2 a3 a4 a5 a6 a7 a8 b1 b2 b3 b4 b5 b6 b7 b8
  have we := wrap_small a1 a2 b1 b2 (Int.le_refl _)
  have wx := wrap_small a3 a4 b3 b4 (Int.le_refl _)
  have wy := wrap_small a5 a6 b5 b6 (Int.le_refl _)
  have wz := wrap_small a7 a8 b7 b8 (Int.le_refl _)
  clear a1 a2 a3 a4 a5 a6 a7 a8 b1 b2 b3 b4 b5 b6 b7 b8
  go_enter Try.func23, Try.ntmps23
  go_wp2_with fail
  refine (refMayTP (Sm.mk f rf sk sp sx sy sz) h1.out _).mono ?_
  rintro e w1 ⟨rfl, hb⟩
  obtain ⟨hc, hf⟩ := bcell hb
  go_wp2_with fail
  refine (refMayTP (Sm.mk rf 2 2 rp rx ry rz) h2.out _).mono ?_
  rintro e w2 ⟨rfl, hb2⟩
  have hb := Grow.trans' hb hb2; clear hb2 hc hf; obtain ⟨hc, hf⟩ := bcell hb
  have hz : w.heap.size + 2 < w2.heap.size := by have := hb.size; simp at this; omega
  have hz1 : w.heap.size + 1 < w2.heap.size := by omega
  have hz0 : w.heap.size < w2.heap.size := by omega
  go_wp2_with fail
  repeat any_goals (first | (refine wp_loop_rounds 4 ?_; rw [rounds_succ]; go_wp2_with fail) | (rw [rounds_succ]; go_wp2_with fail) | (go_region; go_wp2_with fail))
  all_goals
    refine (refMayTP (Sm.mk f 2 (minI sk 2) (sp + rp) (sx + rx) (sy + ry) (0)) h4.out _).mono ?_
    rintro e w5 ⟨rfl, hb5⟩
    have KB : SBox w5 w2.heap.size (Sm.mk f 2 (minI sk 2) (sp + rp) (sx + rx) (sy + ry) (0)) := SBox.later hb5 (by simp [SBox, go_sem])
    have hb := Grow.trans' hb (Grow.trans' (by simp (maxDischargeDepth := 9) only [go_sem]) hb5)
    clear hb5 hc hf
    obtain ⟨k0, k1, k2, k3, k4, k5, k6⟩ := KB
    obtain ⟨hc, hf⟩ := bcell hb
    cases p
    · go_wp2
      refine bodyPost_ret (v := .tuple #[.agg #[.int .i64 0, .int .i64 0, .int .i64 0, .int .i64 0, .int .i64 0, .int .i64 0, .int .i64 0], .int .i64 4]) (by simp [results, Try.results23, go_sem, hc]) rfl ⟨rfl, ?_⟩
      iterate 7 refine Below.setCell ?_ (by simp; try omega) _
      exact Grow.trans' (Grow.trans' (Grow.trans' (Grow.alloc' _ _) (Grow.alloc' _ _)) (Grow.alloc' _ _)) hb
    · go_wp2
      refine bodyPost_ret (v := .tuple #[.agg #[.int .i64 f, .int .i64 2, .int .i64 (minI sk 2), .int .i64 (sp + rp), .int .i64 (sx + rx), .int .i64 (sy + ry), .int .i64 (0)], .int .i64 0]) (by simp [results, Try.results23, go_sem, hc]) rfl ⟨rfl, ?_⟩
      iterate 7 refine Below.setCell ?_ (by simp; try omega) _
      exact Grow.trans' (Grow.trans' (Grow.trans' (Grow.alloc' _ _) (Grow.alloc' _ _)) (Grow.alloc' _ _)) hb
set_option maxHeartbeats 2000000 in
theorem refThen_3_0 (f sk sp sx sy sz rf rp rx ry rz : Int) (w : World) (h1 : Hid (mayS (Sm.mk f rf sk sp sx sy sz) = true)) (h2 : Hid (mayS (Sm.mk rf 3 0 rp rx ry rz) = true)) (p : Bool) (h4 : Hid (mayS (Sm.mk f 3 (minI sk 0) (sp + rp) (rx) (ry) (rz)) = p)) :
    Calls Try.prog 23 #[.agg #[.int .i64 f, .int .i64 rf, .int .i64 sk, .int .i64 sp, .int .i64 sx, .int .i64 sy, .int .i64 sz], .agg #[.int .i64 rf, .int .i64 3, .int .i64 0, .int .i64 rp, .int .i64 rx, .int .i64 ry, .int .i64 rz]] w fun e w' => e = .returned (.tuple #[cond p (.agg #[.int .i64 f, .int .i64 3, .int .i64 (minI sk 0), .int .i64 (sp + rp), .int .i64 (rx), .int .i64 (ry), .int .i64 (rz)]) (.agg #[.int .i64 0, .int .i64 0, .int .i64 0, .int .i64 0, .int .i64 0, .int .i64 0, .int .i64 0]), .int .i64 (cond p 0 4)]) ∧ Below w.heap.size w w' := by
  obtain ⟨⟨a1, a2⟩, ⟨a3, a4⟩, ⟨a5, a6⟩, ⟨a7, a8⟩⟩ := mayS_small h1.out
  obtain ⟨⟨b1, b2⟩, ⟨b3, b4⟩, ⟨b5, b6⟩, ⟨b7, b8⟩⟩ := mayS_small h2.out
  dsimp only at a1 a2 a3 a4 a5 a6 a7 a8 b1 b2 b3 b4 b5 b6 b7 b8
  have we := wrap_small a1 a2 b1 b2 (Int.le_refl _)
  have wx := wrap_small a3 a4 b3 b4 (Int.le_refl _)
  have wy := wrap_small a5 a6 b5 b6 (Int.le_refl _)
  have wz := wrap_small a7 a8 b7 b8 (Int.le_refl _)
  clear a1 a2 a3 a4 a5 a6 a7 a8 b1 b2 b3 b4 b5 b6 b7 b8
  go_enter Try.func23, Try.ntmps23
  go_wp2_with fail
  refine (refMayTP (Sm.mk f rf sk sp sx sy sz) h1.out _).mono ?_
  rintro e w1 ⟨rfl, hb⟩
  obtain ⟨hc, hf⟩ := bcell hb
  go_wp2_with fail
  refine (refMayTP (Sm.mk rf 3 0 rp rx ry rz) h2.out _).mono ?_
  rintro e w2 ⟨rfl, hb2⟩
  have hb := Grow.trans' hb hb2; clear hb2 hc hf; obtain ⟨hc, hf⟩ := bcell hb
  have hz : w.heap.size + 2 < w2.heap.size := by have := hb.size; simp at this; omega
  have hz1 : w.heap.size + 1 < w2.heap.size := by omega
  have hz0 : w.heap.size < w2.heap.size := by omega
  go_wp2_with fail
  repeat any_goals (first | (refine wp_loop_rounds 4 ?_; rw [rounds_succ]; go_wp2_with fail) | (rw [rounds_succ]; go_wp2_with fail) | (go_region; go_wp2_with fail))
  all_goals
    refine (refMayTP (Sm.mk f 3 (minI sk 0) (sp + rp) (rx) (ry) (rz)) h4.out _).mono ?_
    rintro e w5 ⟨rfl, hb5⟩
    have KB : SBox w5 w2.heap.size (Sm.mk f 3 (minI sk 0) (sp + rp) (rx) (ry) (rz)) := SBox.later hb5 (by simp [SBox, go_sem])
    have hb := Grow.trans' hb (Grow.trans' (by simp (maxDischargeDepth := 9) only [go_sem]) hb5)
    clear hb5 hc hf
    obtain ⟨k0, k1, k2, k3, k4, k5, k6⟩ := KB
    obtain ⟨hc, hf⟩ := bcell hb
    cases p
    · go_wp2
      refine bodyPost_ret (v := .tuple #[.agg #[.int .i64 0, .int .i64 0, .int .i64 0, .int .i64 0, .int .i64 0, .int .i64 0, .int .i64 0], .int .i64 4]) (by simp [results, Try.results23, go_sem, hc]) rfl ⟨rfl, ?_⟩
      iterate 7 refine Below.setCell ?_ (by simp; try omega) _
      exact Grow.trans' (Grow.trans' (Grow.trans' (Grow.alloc' _ _) (Grow.alloc' _ _)) (Grow.alloc' _ _)) hb
    · go_wp2
      refine bodyPost_ret (v := .tuple #[.agg #[.int .i64 f, .int .i64 3, .int .i64 (minI sk 0), .int .i64 (sp + rp), .int .i64 (rx), .int .i64 (ry), .int .i64 (rz)], .int .i64 0]) (by simp [results, Try.results23, go_sem, hc]) rfl ⟨rfl, ?_⟩
      iterate 7 refine Below.setCell ?_ (by simp; try omega) _
      exact Grow.trans' (Grow.trans' (Grow.trans' (Grow.alloc' _ _) (Grow.alloc' _ _)) (Grow.alloc' _ _)) hb
set_option maxHeartbeats 2000000 in
theorem refThen_3_1 (f sk sp sx sy sz rf rp rx ry rz : Int) (w : World) (h1 : Hid (mayS (Sm.mk f rf sk sp sx sy sz) = true)) (h2 : Hid (mayS (Sm.mk rf 3 1 rp rx ry rz) = true)) (p : Bool) (h4 : Hid (mayS (Sm.mk f 3 (minI sk 1) (sp + rp) (sx + rx) (ry) (rz)) = p)) :
    Calls Try.prog 23 #[.agg #[.int .i64 f, .int .i64 rf, .int .i64 sk, .int .i64 sp, .int .i64 sx, .int .i64 sy, .int .i64 sz], .agg #[.int .i64 rf, .int .i64 3, .int .i64 1, .int .i64 rp, .int .i64 rx, .int .i64 ry, .int .i64 rz]] w fun e w' => e = .returned (.tuple #[cond p (.agg #[.int .i64 f, .int .i64 3, .int .i64 (minI sk 1), .int .i64 (sp + rp), .int .i64 (sx + rx), .int .i64 (ry), .int .i64 (rz)]) (.agg #[.int .i64 0, .int .i64 0, .int .i64 0, .int .i64 0, .int .i64 0, .int .i64 0, .int .i64 0]), .int .i64 (cond p 0 4)]) ∧ Below w.heap.size w w' := by
  obtain ⟨⟨a1, a2⟩, ⟨a3, a4⟩, ⟨a5, a6⟩, ⟨a7, a8⟩⟩ := mayS_small h1.out
  obtain ⟨⟨b1, b2⟩, ⟨b3, b4⟩, ⟨b5, b6⟩, ⟨b7, b8⟩⟩ := mayS_small h2.out
  dsimp only at a1 a2 a3 a4 a5 a6 a7 a8 b1 b2 b3 b4 b5 b6 b7 b8
  have we := wrap_small a1 a2 b1 b2 (Int.le_refl _)
  have wx := wrap_small a3 a4 b3 b4 (Int.le_refl _)
  have wy := wrap_small a5 a6 b5 b6 (Int.le_refl _)
  have wz := wrap_small a7 a8 b7 b8 (Int.le_refl _)
  clear a1 a2 a3 a4 a5 a6 a7 a8 b1 b2 b3 b4 b5 b6 b7 b8
  go_enter Try.func23, Try.ntmps23
  go_wp2_with fail
  refine (refMayTP (Sm.mk f rf sk sp sx sy sz) h1.out _).mono ?_
  rintro e w1 ⟨rfl, hb⟩
  obtain ⟨hc, hf⟩ := bcell hb
  go_wp2_with fail
  refine (refMayTP (Sm.mk rf 3 1 rp rx ry rz) h2.out _).mono ?_
  rintro e w2 ⟨rfl, hb2⟩
  have hb := Grow.trans' hb hb2; clear hb2 hc hf; obtain ⟨hc, hf⟩ := bcell hb
  have hz : w.heap.size + 2 < w2.heap.size := by have := hb.size; simp at this; omega
  have hz1 : w.heap.size + 1 < w2.heap.size := by omega
  have hz0 : w.heap.size < w2.heap.size := by omega
  go_wp2_with fail
  repeat any_goals (first | (refine wp_loop_rounds 4 ?_; rw [rounds_succ]; go_wp2_with fail) | (rw [rounds_succ]; go_wp2_with fail) | (go_region; go_wp2_with fail))
  all_goals
    refine (refMayTP (Sm.mk f 3 (minI sk 1) (sp + rp) (sx + rx) (ry) (rz)) h4.out _).mono ?_
    rintro e w5 ⟨rfl, hb5⟩
    have KB : SBox w5 w2.heap.size (Sm.mk f 3 (minI sk 1) (sp + rp) (sx + rx) (ry) (rz)) := SBox.later hb5 (by simp [SBox, go_sem])
    have hb := Grow.trans' hb (Grow.trans' (by simp (maxDischargeDepth := 9) only [go_sem]) hb5)
    clear hb5 hc hf
    obtain ⟨k0, k1, k2, k3, k4, k5, k6⟩ := KB
    obtain ⟨hc, hf⟩ := bcell hb
    cases p
    · go_wp2
      refine bodyPost_ret (v := .tuple #[.agg #[.int .i64 0, .int .i64 0, .int .i64 0, .int .i64 0, .int .i64 0, .int .i64 0, .int .i64 0], .int .i64 4]) (by simp [results, Try.results23, go_sem, hc]) rfl ⟨rfl, ?_⟩
      iterate 7 refine Below.setCell ?_ (by simp; try omega) _
      exact Grow.trans' (Grow.trans' (Grow.trans' (Grow.alloc' _ _) (Grow.alloc' _ _)) (Grow.alloc' _ _)) hb
    · go_wp2
      refine bodyPost_ret (v := .tuple #[.agg #[.int .i64 f, .int .i64 3, .int .i64 (minI sk 1), .int .i64 (sp + rp), .int .i64 (sx + rx), .int .i64 (ry), .int .i64 (rz)], .int .i64 0]) (by simp [results, Try.results23, go_sem, hc]) rfl ⟨rfl, ?_⟩
      iterate 7 refine Below.setCell ?_ (by simp; try omega) _
      exact Grow.trans' (Grow.trans' (Grow.trans' (Grow.alloc' _ _) (Grow.alloc' _ _)) (Grow.alloc' _ _)) hb
set_option maxHeartbeats 2000000 in
theorem refThen_3_2 (f sk sp sx sy sz rf rp rx ry rz : Int) (w : World) (h1 : Hid (mayS (Sm.mk f rf sk sp sx sy sz) = true)) (h2 : Hid (mayS (Sm.mk rf 3 2 rp rx ry rz) = true)) (p : Bool) (h4 : Hid (mayS (Sm.mk f 3 (minI sk 2) (sp + rp) (sx + rx) (sy + ry) (rz)) = p)) :
    Calls Try.prog 23 #[.agg #[.int .i64 f, .int .i64 rf, .int .i64 sk, .int .i64 sp, .int .i64 sx, .int .i64 sy, .int .i64 sz], .agg #[.int .i64 rf, .int .i64 3, .int .i64 2, .int .i64 rp, .int .i64 rx, .int .i64 ry, .int .i64 rz]] w fun e w' => e = .returned (.tuple #[cond p (.agg #[.int .i64 f, .int .i64 3, .int .i64 (minI sk 2), .int .i64 (sp + rp), .int .i64 (sx + rx), .int .i64 (sy + ry), .int .i64 (rz)]) (.agg #[.int .i64 0, .int .i64 0, .int .i64 0, .int .i64 0, .int .i64 0, .int .i64 0, .int .i64 0]), .int .i64 (cond p 0 4)]) ∧ Below w.heap.size w w' := by
  obtain ⟨⟨a1, a2⟩, ⟨a3, a4⟩, ⟨a5, a6⟩, ⟨a7, a8⟩⟩ := mayS_small h1.out
  obtain ⟨⟨b1, b2⟩, ⟨b3, b4⟩, ⟨b5, b6⟩, ⟨b7, b8⟩⟩ := mayS_small h2.out
  dsimp only at a1 a2 a3 a4 a5 a6 a7 a8 b1 b2 b3 b4 b5 b6 b7 b8
  have we := wrap_small a1 a2 b1 b2 (Int.le_refl _)
  have wx := wrap_small a3 a4 b3 b4 (Int.le_refl _)
  have wy := wrap_small a5 a6 b5 b6 (Int.le_refl _)
  have wz := wrap_small a7 a8 b7 b8 (Int.le_refl _)
  clear a1 a2 a3 a4 a5 a6 a7 a8 b1 b2 b3 b4 b5 b6 b7 b8
  go_enter Try.func23, Try.ntmps23
  go_wp2_with fail
  refine (refMayTP (Sm.mk f rf sk sp sx sy sz) h1.out _).mono ?_
  rintro e w1 ⟨rfl, hb⟩
  obtain ⟨hc, hf⟩ := bcell hb
  go_wp2_with fail
  refine (refMayTP (Sm.mk rf 3 2 rp rx ry rz) h2.out _).mono ?_
  rintro e w2 ⟨rfl, hb2⟩
  have hb := Grow.trans' hb hb2; clear hb2 hc hf; obtain ⟨hc, hf⟩ := bcell hb
  have hz : w.heap.size + 2 < w2.heap.size := by have := hb.size; simp at this; omega
  have hz1 : w.heap.size + 1 < w2.heap.size := by omega
  have hz0 : w.heap.size < w2.heap.size := by omega
  go_wp2_with fail
  repeat any_goals (first | (refine wp_loop_rounds 4 ?_; rw [rounds_succ]; go_wp2_with fail) | (rw [rounds_succ]; go_wp2_with fail) | (go_region; go_wp2_with fail))
  all_goals
    refine (refMayTP (Sm.mk f 3 (minI sk 2) (sp + rp) (sx + rx) (sy + ry) (rz)) h4.out _).mono ?_
    rintro e w5 ⟨rfl, hb5⟩
    have KB : SBox w5 w2.heap.size (Sm.mk f 3 (minI sk 2) (sp + rp) (sx + rx) (sy + ry) (rz)) := SBox.later hb5 (by simp [SBox, go_sem])
    have hb := Grow.trans' hb (Grow.trans' (by simp (maxDischargeDepth := 9) only [go_sem]) hb5)
    clear hb5 hc hf
    obtain ⟨k0, k1, k2, k3, k4, k5, k6⟩ := KB
    obtain ⟨hc, hf⟩ := bcell hb
    cases p
    · go_wp2
      refine bodyPost_ret (v := .tuple #[.agg #[.int .i64 0, .int .i64 0, .int .i64 0, .int .i64 0, .int .i64 0, .int .i64 0, .int .i64 0], .int .i64 4]) (by simp [results, Try.results23, go_sem, hc]) rfl ⟨rfl, ?_⟩
      iterate 7 refine Below.setCell ?_ (by simp; try omega) _
      exact Grow.trans' (Grow.trans' (Grow.trans' (Grow.alloc' _ _) (Grow.alloc' _ _)) (Grow.alloc' _ _)) hb
    · go_wp2
      refine bodyPost_ret (v := .tuple #[.agg #[.int .i64 f, .int .i64 3, .int .i64 (minI sk 2), .int .i64 (sp + rp), .int .i64 (sx + rx), .int .i64 (sy + ry), .int .i64 (rz)], .int .i64 0]) (by simp [results, Try.results23, go_sem, hc]) rfl ⟨rfl, ?_⟩
      iterate 7 refine Below.setCell ?_ (by simp; try omega) _
      exact Grow.trans' (Grow.trans' (Grow.trans' (Grow.alloc' _ _) (Grow.alloc' _ _)) (Grow.alloc' _ _)) hb
set_option maxHeartbeats 2000000 in
theorem refThen_3_3 (f sk sp sx sy sz rf rp rx ry rz : Int) (w : World) (h1 : Hid (mayS (Sm.mk f rf sk sp sx sy sz) = true)) (h2 : Hid (mayS (Sm.mk rf 3 3 rp rx ry rz) = true)) (p : Bool) (h4 : Hid (mayS (Sm.mk f 3 (minI sk 3) (sp + rp) (sx + rx) (sy + ry) (sz + rz)) = p)) :
    Calls Try.prog 23 #[.agg #[.int .i64 f, .int .i64 rf, .int .i64 sk, .int .i64 sp, .int .i64 sx, .int .i64 sy, .int .i64 sz], .agg #[.int .i64 rf, .int .i64 3, .int .i64 3, .int .i64 rp, .int .i64 rx, .int .i64 ry, .int .i64 rz]] w fun e w' => e = .returned (.tuple #[cond p (.agg #[.int .i64 f, .int .i64 3, .int .i64 (minI sk 3), .int .i64 (sp + rp), .int .i64 (sx + rx), .int .i64 (sy + ry), .int .i64 (sz + rz)]) (.agg #[.int .i64 0, .int .i64 0, .int .i64 0, .int .i64 0, .int .i64 0, .int .i64 0, .int .i64 0]), .int .i64 (cond p 0 4)]) ∧ Below w.heap.size w w' := by
  obtain ⟨⟨a1, a2⟩, ⟨a3, a4⟩, ⟨a5, a6⟩, ⟨a7, a8⟩⟩ := mayS_small h1.out
  obtain ⟨⟨b1, b2⟩, ⟨b3, b4⟩, ⟨b5, b6⟩, ⟨b7, b8⟩⟩ := mayS_small h2.out
  dsimp only at a1 a2 a3 a4 a5 a6 a7 a8 b1 b2 b3 b4 b5 b6 b7 b8
  have we := wrap_small a1 a2 b1 b2 (Int.le_refl _)
  have wx := wrap_small a3 a4 b3 b4 (Int.le_refl _)
  have wy := wrap_small a5 a6 b5 b6 (Int.le_refl _)
  have wz := wrap_small a7 a8 b7 b8 (Int.le_refl _)
  clear a1 a2 a3 a4 a5 a6 a7 a8 b1 b2 b3 b4 b5 b6 b7 b8
  go_enter Try.func23, Try.ntmps23
  go_wp2_with fail
  refine (refMayTP (Sm.mk f rf sk sp sx sy sz) h1.out _).mono ?_
  rintro e w1 ⟨rfl, hb⟩
  obtain ⟨hc, hf⟩ := bcell hb
  go_wp2_with fail
  refine (refMayTP (Sm.mk rf 3 3 rp rx ry rz) h2.out _).mono ?_
  rintro e w2 ⟨rfl, hb2⟩
  have hb := Grow.trans' hb hb2; clear hb2 hc hf; obtain ⟨hc, hf⟩ := bcell hb
  have hz : w.heap.size + 2 < w2.heap.size := by have := hb.size; simp at this; omega
  have hz1 : w.heap.size + 1 < w2.heap.size := by omega
  have hz0 : w.heap.size < w2.heap.size := by omega
  go_wp2_with fail
  repeat any_goals (first | (refine wp_loop_rounds 4 ?_; rw [rounds_succ]; go_wp2_with fail) | (rw [rounds_succ]; go_wp2_with fail) | (go_region; go_wp2_with fail))
  all_goals
    refine (refMayTP (Sm.mk f 3 (minI sk 3) (sp + rp) (sx + rx) (sy + ry) (sz + rz)) h4.out _).mono ?_
    rintro e w5 ⟨rfl, hb5⟩
    have KB : SBox w5 w2.heap.size (Sm.mk f 3 (minI sk 3) (sp + rp) (sx + rx) (sy + ry) (sz + rz)) := SBox.later hb5 (by simp [SBox, go_sem])
    have hb := Grow.trans' hb (Grow.trans' (by simp (maxDischargeDepth := 9) only [go_sem]) hb5)
    clear hb5 hc hf
    obtain ⟨k0, k1, k2, k3, k4, k5, k6⟩ := KB
    obtain ⟨hc, hf⟩ := bcell hb
    cases p
    · go_wp2
      refine bodyPost_ret (v := .tuple #[.agg #[.int .i64 0, .int .i64 0, .int .i64 0, .int .i64 0, .int .i64 0, .int .i64 0, .int .i64 0], .int .i64 4]) (by simp [results, Try.results23, go_sem, hc]) rfl ⟨rfl, ?_⟩
      iterate 7 refine Below.setCell ?_ (by simp; try omega) _
      exact Grow.trans' (Grow.trans' (Grow.trans' (Grow.alloc' _ _) (Grow.alloc' _ _)) (Grow.alloc' _ _)) hb
    · go_wp2
      refine bodyPost_ret (v := .tuple #[.agg #[.int .i64 f, .int .i64 3, .int .i64 (minI sk 3), .int .i64 (sp + rp), .int .i64 (sx + rx), .int .i64 (sy + ry), .int .i64 (sz + rz)], .int .i64 0]) (by simp [results, Try.results23, go_sem, hc]) rfl ⟨rfl, ?_⟩
      iterate 7 refine Below.setCell ?_ (by simp; try omega) _
      exact Grow.trans' (Grow.trans' (Grow.trans' (Grow.alloc' _ _) (Grow.alloc' _ _)) (Grow.alloc' _ _)) hb
theorem refThen_any (s r : Sm) (w : World) :
    Calls Try.prog 23 #[.agg #[.int .i64 s.f, .int .i64 s.t, .int .i64 s.k, .int .i64 s.ep, .int .i64 s.x, .int .i64 s.y, .int .i64 s.z], .agg #[.int .i64 r.f, .int .i64 r.t, .int .i64 r.k, .int .i64 r.ep, .int .i64 r.x, .int .i64 r.y, .int .i64 r.z]] w fun e w' => e = .returned (.tuple #[.agg #[.int .i64 (thenS s r).f, .int .i64 (thenS s r).t, .int .i64 (thenS s r).k, .int .i64 (thenS s r).ep, .int .i64 (thenS s r).x, .int .i64 (thenS s r).y, .int .i64 (thenS s r).z], .int .i64 (thenE s r)]) ∧ Below w.heap.size w w' := by
  cases h1 : mayS s
  · have : thenE s r = 1 := by simp [thenE, fitS, h1]
    cases h2 : mayS r
    · simpa [thenS, this] using refThen_00 s r w h1 h2
    · simpa [thenS, this] using refThen_01 s r w h1 h2
  cases h2 : mayS r
  · have : thenE s r = 1 := by simp [thenE, fitS, h1, h2]
    simpa [thenS, this] using refThen_10 s r w h1 h2
  by_cases h3 : s.t = r.f
  rotate_left
  · have : thenE s r = 1 := by simp [thenE, fitS, h1, h2, h3]
    simpa [thenS, this] using refThen_11 s r w h1 h2 h3
  have hE : thenE s r = cond (mayS (rawS s r)) 0 4 := by cases h4 : mayS (rawS s r) <;> simp [thenE, fitS, h1, h2, h3, h4]
  have hb := (mayS_iff r).1 h2
  obtain ⟨⟨_, _, _, _⟩, ⟨_, _, _⟩, -⟩ := hb
  obtain ⟨f, st, sk, sp, sx, sy, sz⟩ := s
  obtain ⟨rf, tt, k, rp, rx, ry, rz⟩ := r
  simp only at *
  subst h3
  have ht : tt = 0 ∧ k = 0 ∨ tt = 1 ∧ k = 0 ∨ tt = 1 ∧ k = 1 ∨ tt = 2 ∧ k = 0 ∨ tt = 2 ∧ k = 1 ∨ tt = 2 ∧ k = 2 ∨ tt = 3 ∧ k = 0 ∨ tt = 3 ∧ k = 1 ∨ tt = 3 ∧ k = 2 ∨ tt = 3 ∧ k = 3 := by omega
  rcases ht with ⟨rfl, rfl⟩ | ⟨rfl, rfl⟩ | ⟨rfl, rfl⟩ | ⟨rfl, rfl⟩ | ⟨rfl, rfl⟩ | ⟨rfl, rfl⟩ | ⟨rfl, rfl⟩ | ⟨rfl, rfl⟩ | ⟨rfl, rfl⟩ | ⟨rfl, rfl⟩
  · have h := refThen_0_0 f sk sp sx sy sz _ rp rx ry rz w h1 h2 _ rfl
    have e : rawS (Sm.mk f st sk sp sx sy sz) (Sm.mk st 0 0 rp rx ry rz) = (Sm.mk f 0 (minI sk 0) (sp + rp) (0) (0) (0)) := rfl
    unfold thenS
    rw [e] at hE ⊢
    revert h hE
    generalize mayS (Sm.mk f 0 (minI sk 0) (sp + rp) (0) (0) (0)) = p
    intro hE h
    cases p <;> simpa [hE] using h
  · have h := refThen_1_0 f sk sp sx sy sz _ rp rx ry rz w h1 h2 _ rfl
    have e : rawS (Sm.mk f st sk sp sx sy sz) (Sm.mk st 1 0 rp rx ry rz) = (Sm.mk f 1 (minI sk 0) (sp + rp) (rx) (0) (0)) := rfl
    unfold thenS
    rw [e] at hE ⊢
    revert h hE
    generalize mayS (Sm.mk f 1 (minI sk 0) (sp + rp) (rx) (0) (0)) = p
    intro hE h
    cases p <;> simpa [hE] using h
  · have h := refThen_1_1 f sk sp sx sy sz _ rp rx ry rz w h1 h2 _ rfl
    have e : rawS (Sm.mk f st sk sp sx sy sz) (Sm.mk st 1 1 rp rx ry rz) = (Sm.mk f 1 (minI sk 1) (sp + rp) (sx + rx) (0) (0)) := rfl
    unfold thenS
    rw [e] at hE ⊢
    revert h hE
    generalize mayS (Sm.mk f 1 (minI sk 1) (sp + rp) (sx + rx) (0) (0)) = p
    intro hE h
    cases p <;> simpa [hE] using h
  · have h := refThen_2_0 f sk sp sx sy sz _ rp rx ry rz w h1 h2 _ rfl
    have e : rawS (Sm.mk f st sk sp sx sy sz) (Sm.mk st 2 0 rp rx ry rz) = (Sm.mk f 2 (minI sk 0) (sp + rp) (rx) (ry) (0)) := rfl
    unfold thenS
    rw [e] at hE ⊢
    revert h hE
    generalize mayS (Sm.mk f 2 (minI sk 0) (sp + rp) (rx) (ry) (0)) = p
    intro hE h
    cases p <;> simpa [hE] using h
  · have h := refThen_2_1 f sk sp sx sy sz _ rp rx ry rz w h1 h2 _ rfl
    have e : rawS (Sm.mk f st sk sp sx sy sz) (Sm.mk st 2 1 rp rx ry rz) = (Sm.mk f 2 (minI sk 1) (sp + rp) (sx + rx) (ry) (0)) := rfl
    unfold thenS
    rw [e] at hE ⊢
    revert h hE
    generalize mayS (Sm.mk f 2 (minI sk 1) (sp + rp) (sx + rx) (ry) (0)) = p
    intro hE h
    cases p <;> simpa [hE] using h
  · have h := refThen_2_2 f sk sp sx sy sz _ rp rx ry rz w h1 h2 _ rfl
    have e : rawS (Sm.mk f st sk sp sx sy sz) (Sm.mk st 2 2 rp rx ry rz) = (Sm.mk f 2 (minI sk 2) (sp + rp) (sx + rx) (sy + ry) (0)) := rfl
    unfold thenS
    rw [e] at hE ⊢
    revert h hE
    generalize mayS (Sm.mk f 2 (minI sk 2) (sp + rp) (sx + rx) (sy + ry) (0)) = p
    intro hE h
    cases p <;> simpa [hE] using h
  · have h := refThen_3_0 f sk sp sx sy sz _ rp rx ry rz w h1 h2 _ rfl
    have e : rawS (Sm.mk f st sk sp sx sy sz) (Sm.mk st 3 0 rp rx ry rz) = (Sm.mk f 3 (minI sk 0) (sp + rp) (rx) (ry) (rz)) := rfl
    unfold thenS
    rw [e] at hE ⊢
    revert h hE
    generalize mayS (Sm.mk f 3 (minI sk 0) (sp + rp) (rx) (ry) (rz)) = p
    intro hE h
    cases p <;> simpa [hE] using h
  · have h := refThen_3_1 f sk sp sx sy sz _ rp rx ry rz w h1 h2 _ rfl
    have e : rawS (Sm.mk f st sk sp sx sy sz) (Sm.mk st 3 1 rp rx ry rz) = (Sm.mk f 3 (minI sk 1) (sp + rp) (sx + rx) (ry) (rz)) := rfl
    unfold thenS
    rw [e] at hE ⊢
    revert h hE
    generalize mayS (Sm.mk f 3 (minI sk 1) (sp + rp) (sx + rx) (ry) (rz)) = p
    intro hE h
    cases p <;> simpa [hE] using h
  · have h := refThen_3_2 f sk sp sx sy sz _ rp rx ry rz w h1 h2 _ rfl
    have e : rawS (Sm.mk f st sk sp sx sy sz) (Sm.mk st 3 2 rp rx ry rz) = (Sm.mk f 3 (minI sk 2) (sp + rp) (sx + rx) (sy + ry) (rz)) := rfl
    unfold thenS
    rw [e] at hE ⊢
    revert h hE
    generalize mayS (Sm.mk f 3 (minI sk 2) (sp + rp) (sx + rx) (sy + ry) (rz)) = p
    intro hE h
    cases p <;> simpa [hE] using h
  · have h := refThen_3_3 f sk sp sx sy sz _ rp rx ry rz w h1 h2 _ rfl
    have e : rawS (Sm.mk f st sk sp sx sy sz) (Sm.mk st 3 3 rp rx ry rz) = (Sm.mk f 3 (minI sk 3) (sp + rp) (sx + rx) (sy + ry) (sz + rz)) := rfl
    unfold thenS
    rw [e] at hE ⊢
    revert h hE
    generalize mayS (Sm.mk f 3 (minI sk 3) (sp + rp) (sx + rx) (sy + ry) (sz + rz)) = p
    intro hE h
    cases p <;> simpa [hE] using h

end Go.Proofs.Ythidpjjphieedaa
