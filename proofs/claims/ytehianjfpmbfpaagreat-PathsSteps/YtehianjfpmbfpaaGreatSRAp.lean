/-
  What the document's own Apply does to the world: for every summary and time the answer and the error; what was there stays as it was.
-/
import Derived.Test.YtehianjfpmbfpaaGreatSAp
import Derived.Test.YtehianjfpmbfpaaGreatSRMy
namespace Go.Proofs.YtehianjfpmbfpaaGreat
open Go.RowKit
set_option linter.unusedVariables false
attribute [local go_sem] growR growA growD

theorem refMayP (a : Tm) {p : Bool} (h : mayB a = p) (w : World) : Calls Tryz.prog 22 #[.agg #[.int .i64 a.e, .int .i64 a.d, .int .i64 a.x, .int .i64 a.y, .int .i64 a.z]] w fun e w' => e = .returned (.bool p) ∧ Below w.heap.size w w' := by rw [← h]; exact refMay_any a w
theorem refMayQ (a : Sm) {p : Bool} (h : mayS a = p) (w : World) : Calls Tryz.prog 44 #[.agg #[.int .i64 a.f, .int .i64 a.t, .int .i64 a.k, .int .i64 a.ep, .int .i64 a.x, .int .i64 a.y, .int .i64 a.z]] w fun e w' => e = .returned (.bool p) ∧ Below w.heap.size w w' := by rw [← h]; exact refMayS_any a w
set_option maxHeartbeats 400000 in
theorem refApply_00 (s : Sm) (t : Tm) (w : World) (h1 : Hid (mayS s = false)) (h2 : Hid (mayB t = false)) :
    Calls Tryz.prog 25 #[.agg #[.int .i64 s.f, .int .i64 s.t, .int .i64 s.k, .int .i64 s.ep, .int .i64 s.x, .int .i64 s.y, .int .i64 s.z], .agg #[.int .i64 t.e, .int .i64 t.d, .int .i64 t.x, .int .i64 t.y, .int .i64 t.z]] w fun e w' => e = .returned (.tuple #[.agg #[.int .i64 0, .int .i64 0, .int .i64 0, .int .i64 0, .int .i64 0], .int .i64 1]) ∧ Below w.heap.size w w' := by
  go_enter Tryz.func25, Tryz.ntmps25
  go_wp2_with fail
  refine (refMayQ s h1.out _).mono ?_
  rintro e w1 ⟨rfl, hb⟩
  obtain ⟨hc, hf⟩ := bcell hb
  go_wp2_with fail
  refine (refMayP t h2.out _).mono ?_
  rintro e w2 ⟨rfl, hb2⟩
  have hb := Grow.trans' hb hb2; clear hb2 hc hf; obtain ⟨hc, hf⟩ := bcell hb
  go_wp2
  refine bodyPost_ret (v := .tuple #[.agg #[.int .i64 0, .int .i64 0, .int .i64 0, .int .i64 0, .int .i64 0], .int .i64 1]) (by simp [results, Tryz.results25, go_sem, hc]) rfl ⟨rfl, ?_⟩
  iterate 5 refine Below.setCell ?_ (by simp; try omega) _
  exact Grow.trans' (Grow.trans' (Grow.trans' (Grow.alloc' _ _) (Grow.alloc' _ _)) (Grow.alloc' _ _)) hb
set_option maxHeartbeats 400000 in
theorem refApply_01 (s : Sm) (t : Tm) (w : World) (h1 : Hid (mayS s = false)) (h2 : Hid (mayB t = true)) :
    Calls Tryz.prog 25 #[.agg #[.int .i64 s.f, .int .i64 s.t, .int .i64 s.k, .int .i64 s.ep, .int .i64 s.x, .int .i64 s.y, .int .i64 s.z], .agg #[.int .i64 t.e, .int .i64 t.d, .int .i64 t.x, .int .i64 t.y, .int .i64 t.z]] w fun e w' => e = .returned (.tuple #[.agg #[.int .i64 0, .int .i64 0, .int .i64 0, .int .i64 0, .int .i64 0], .int .i64 1]) ∧ Below w.heap.size w w' := by
  go_enter Tryz.func25, Tryz.ntmps25
  go_wp2_with fail
  refine (refMayQ s h1.out _).mono ?_
  rintro e w1 ⟨rfl, hb⟩
  obtain ⟨hc, hf⟩ := bcell hb
  go_wp2_with fail
  refine (refMayP t h2.out _).mono ?_
  rintro e w2 ⟨rfl, hb2⟩
  have hb := Grow.trans' hb hb2; clear hb2 hc hf; obtain ⟨hc, hf⟩ := bcell hb
  go_wp2
  refine bodyPost_ret (v := .tuple #[.agg #[.int .i64 0, .int .i64 0, .int .i64 0, .int .i64 0, .int .i64 0], .int .i64 1]) (by simp [results, Tryz.results25, go_sem, hc]) rfl ⟨rfl, ?_⟩
  iterate 5 refine Below.setCell ?_ (by simp; try omega) _
  exact Grow.trans' (Grow.trans' (Grow.trans' (Grow.alloc' _ _) (Grow.alloc' _ _)) (Grow.alloc' _ _)) hb
set_option maxHeartbeats 400000 in
theorem refApply_10 (s : Sm) (t : Tm) (w : World) (h1 : Hid (mayS s = true)) (h2 : Hid (mayB t = false)) :
    Calls Tryz.prog 25 #[.agg #[.int .i64 s.f, .int .i64 s.t, .int .i64 s.k, .int .i64 s.ep, .int .i64 s.x, .int .i64 s.y, .int .i64 s.z], .agg #[.int .i64 t.e, .int .i64 t.d, .int .i64 t.x, .int .i64 t.y, .int .i64 t.z]] w fun e w' => e = .returned (.tuple #[.agg #[.int .i64 0, .int .i64 0, .int .i64 0, .int .i64 0, .int .i64 0], .int .i64 1]) ∧ Below w.heap.size w w' := by
  go_enter Tryz.func25, Tryz.ntmps25
  go_wp2_with fail
  refine (refMayQ s h1.out _).mono ?_
  rintro e w1 ⟨rfl, hb⟩
  obtain ⟨hc, hf⟩ := bcell hb
  go_wp2_with fail
  refine (refMayP t h2.out _).mono ?_
  rintro e w2 ⟨rfl, hb2⟩
  have hb := Grow.trans' hb hb2; clear hb2 hc hf; obtain ⟨hc, hf⟩ := bcell hb
  go_wp2
  refine bodyPost_ret (v := .tuple #[.agg #[.int .i64 0, .int .i64 0, .int .i64 0, .int .i64 0, .int .i64 0], .int .i64 1]) (by simp [results, Tryz.results25, go_sem, hc]) rfl ⟨rfl, ?_⟩
  iterate 5 refine Below.setCell ?_ (by simp; try omega) _
  exact Grow.trans' (Grow.trans' (Grow.trans' (Grow.alloc' _ _) (Grow.alloc' _ _)) (Grow.alloc' _ _)) hb
set_option maxHeartbeats 400000 in
theorem refApply_11 (s : Sm) (t : Tm) (w : World) (h1 : Hid (mayS s = true)) (h2 : Hid (mayB t = true)) (h3 : ¬ t.d = s.f) :
    Calls Tryz.prog 25 #[.agg #[.int .i64 s.f, .int .i64 s.t, .int .i64 s.k, .int .i64 s.ep, .int .i64 s.x, .int .i64 s.y, .int .i64 s.z], .agg #[.int .i64 t.e, .int .i64 t.d, .int .i64 t.x, .int .i64 t.y, .int .i64 t.z]] w fun e w' => e = .returned (.tuple #[.agg #[.int .i64 0, .int .i64 0, .int .i64 0, .int .i64 0, .int .i64 0], .int .i64 1]) ∧ Below w.heap.size w w' := by
  go_enter Tryz.func25, Tryz.ntmps25
  go_wp2_with fail
  refine (refMayQ s h1.out _).mono ?_
  rintro e w1 ⟨rfl, hb⟩
  obtain ⟨hc, hf⟩ := bcell hb
  go_wp2_with fail
  refine (refMayP t h2.out _).mono ?_
  rintro e w2 ⟨rfl, hb2⟩
  have hb := Grow.trans' hb hb2; clear hb2 hc hf; obtain ⟨hc, hf⟩ := bcell hb
  go_wp2
  refine bodyPost_ret (v := .tuple #[.agg #[.int .i64 0, .int .i64 0, .int .i64 0, .int .i64 0, .int .i64 0], .int .i64 1]) (by simp [results, Tryz.results25, go_sem, hc]) rfl ⟨rfl, ?_⟩
  iterate 5 refine Below.setCell ?_ (by simp; try omega) _
  exact Grow.trans' (Grow.trans' (Grow.trans' (Grow.alloc' _ _) (Grow.alloc' _ _)) (Grow.alloc' _ _)) hb
set_option maxHeartbeats 2000000 in
theorem refApply_0_0 (f ep x y z te tx ty tz : Int) (w : World) (h1 : Hid (mayS (Sm.mk f 0 0 ep x y z) = true)) (h2 : Hid (mayB (Tm.mk te f tx ty tz) = true)) (p : Bool) (h4 : Hid (mayB (Tm.mk (te + ep) 0 (0) (0) (0)) = p)) :
    Calls Tryz.prog 25 #[.agg #[.int .i64 f, .int .i64 0, .int .i64 0, .int .i64 ep, .int .i64 x, .int .i64 y, .int .i64 z], .agg #[.int .i64 te, .int .i64 f, .int .i64 tx, .int .i64 ty, .int .i64 tz]] w fun e w' => e = .returned (.tuple #[cond p (.agg #[.int .i64 (te + ep), .int .i64 0, .int .i64 (0), .int .i64 (0), .int .i64 (0)]) (.agg #[.int .i64 0, .int .i64 0, .int .i64 0, .int .i64 0, .int .i64 0]), .int .i64 (cond p 0 4)]) ∧ Below w.heap.size w w' := by
  obtain ⟨⟨a1, a2⟩, ⟨a3, a4⟩, ⟨a5, a6⟩, ⟨a7, a8⟩⟩ := may_small h2.out
  obtain ⟨⟨b1, b2⟩, ⟨b3, b4⟩, ⟨b5, b6⟩, ⟨b7, b8⟩⟩ := mayS_small h1.out
  dsimp only at a1 a2 a3 a4 a5 a6 a7 a8 b1 b2 b3 b4 b5 b6 b7 b8
  have we := wrap_small a1 a2 b1 b2 (Int.le_refl _)
  have wx := wrap_small a3 a4 b3 b4 (Int.le_refl _)
  have wy := wrap_small a5 a6 b5 b6 (Int.le_refl _)
  have wz := wrap_small a7 a8 b7 b8 (Int.le_refl _)
  clear a1 a2 a3 a4 a5 a6 a7 a8 b1 b2 b3 b4 b5 b6 b7 b8
  go_enter Tryz.func25, Tryz.ntmps25
  go_wp2_with fail
  refine (refMayQ (Sm.mk f 0 0 ep x y z) h1.out _).mono ?_
  rintro e w1 ⟨rfl, hb⟩
  obtain ⟨hc, hf⟩ := bcell hb
  go_wp2_with fail
  refine (refMayP (Tm.mk te f tx ty tz) h2.out _).mono ?_
  rintro e w2 ⟨rfl, hb2⟩
  have hb := Grow.trans' hb hb2; clear hb2 hc hf; obtain ⟨hc, hf⟩ := bcell hb
  have hz : w.heap.size + 2 < w2.heap.size := by have := hb.size; simp at this; omega
  have hz1 : w.heap.size + 1 < w2.heap.size := by omega
  have hz0 : w.heap.size < w2.heap.size := by omega
  go_wp2_with fail
  repeat any_goals (first | (refine wp_loop_rounds 4 ?_; rw [rounds_succ]; go_wp2_with fail) | (rw [rounds_succ]; go_wp2_with fail) | (go_region; go_wp2_with fail))
  refine (refMayP (Tm.mk (te + ep) 0 (0) (0) (0)) h4.out _).mono ?_
  rintro e w5 ⟨rfl, hb5⟩
  have KB : Box w5 w2.heap.size (Tm.mk (te + ep) 0 (0) (0) (0)) := Box.later hb5 (by simp [Box, go_sem])
  have hb := Grow.trans' hb (Grow.trans' (by simp (maxDischargeDepth := 9) only [go_sem]) hb5)
  clear hb5 hc hf
  obtain ⟨k0, k1, k2, k3, k4⟩ := KB
  obtain ⟨hc, hf⟩ := bcell hb
  cases p
  · go_wp2
    refine bodyPost_ret (v := .tuple #[.agg #[.int .i64 0, .int .i64 0, .int .i64 0, .int .i64 0, .int .i64 0], .int .i64 4]) (by simp [results, Tryz.results25, go_sem, hc]) rfl ⟨rfl, ?_⟩
    iterate 5 refine Below.setCell ?_ (by simp; try omega) _
    exact Grow.trans' (Grow.trans' (Grow.trans' (Grow.alloc' _ _) (Grow.alloc' _ _)) (Grow.alloc' _ _)) hb
  · go_wp2
    refine bodyPost_ret (v := .tuple #[.agg #[.int .i64 (te + ep), .int .i64 0, .int .i64 (0), .int .i64 (0), .int .i64 (0)], .int .i64 0]) (by simp [results, Tryz.results25, go_sem, hc]) rfl ⟨rfl, ?_⟩
    iterate 5 refine Below.setCell ?_ (by simp; try omega) _
    exact Grow.trans' (Grow.trans' (Grow.trans' (Grow.alloc' _ _) (Grow.alloc' _ _)) (Grow.alloc' _ _)) hb
set_option maxHeartbeats 2000000 in
theorem refApply_1_0 (f ep x y z te tx ty tz : Int) (w : World) (h1 : Hid (mayS (Sm.mk f 1 0 ep x y z) = true)) (h2 : Hid (mayB (Tm.mk te f tx ty tz) = true)) (p : Bool) (h4 : Hid (mayB (Tm.mk (te + ep) 1 (x) (0) (0)) = p)) :
    Calls Tryz.prog 25 #[.agg #[.int .i64 f, .int .i64 1, .int .i64 0, .int .i64 ep, .int .i64 x, .int .i64 y, .int .i64 z], .agg #[.int .i64 te, .int .i64 f, .int .i64 tx, .int .i64 ty, .int .i64 tz]] w fun e w' => e = .returned (.tuple #[cond p (.agg #[.int .i64 (te + ep), .int .i64 1, .int .i64 (x), .int .i64 (0), .int .i64 (0)]) (.agg #[.int .i64 0, .int .i64 0, .int .i64 0, .int .i64 0, .int .i64 0]), .int .i64 (cond p 0 4)]) ∧ Below w.heap.size w w' := by
  obtain ⟨⟨a1, a2⟩, ⟨a3, a4⟩, ⟨a5, a6⟩, ⟨a7, a8⟩⟩ := may_small h2.out
  obtain ⟨⟨b1, b2⟩, ⟨b3, b4⟩, ⟨b5, b6⟩, ⟨b7, b8⟩⟩ := mayS_small h1.out
  dsimp only at a1 a2 a3 a4 a5 a6 a7 a8 b1 b2 b3 b4 b5 b6 b7 b8
  have we := wrap_small a1 a2 b1 b2 (Int.le_refl _)
  have wx := wrap_small a3 a4 b3 b4 (Int.le_refl _)
  have wy := wrap_small a5 a6 b5 b6 (Int.le_refl _)
  have wz := wrap_small a7 a8 b7 b8 (Int.le_refl _)
  clear a1 a2 a3 a4 a5 a6 a7 a8 b1 b2 b3 b4 b5 b6 b7 b8
  go_enter Tryz.func25, Tryz.ntmps25
  go_wp2_with fail
  refine (refMayQ (Sm.mk f 1 0 ep x y z) h1.out _).mono ?_
  rintro e w1 ⟨rfl, hb⟩
  obtain ⟨hc, hf⟩ := bcell hb
  go_wp2_with fail
  refine (refMayP (Tm.mk te f tx ty tz) h2.out _).mono ?_
  rintro e w2 ⟨rfl, hb2⟩
  have hb := Grow.trans' hb hb2; clear hb2 hc hf; obtain ⟨hc, hf⟩ := bcell hb
  have hz : w.heap.size + 2 < w2.heap.size := by have := hb.size; simp at this; omega
  have hz1 : w.heap.size + 1 < w2.heap.size := by omega
  have hz0 : w.heap.size < w2.heap.size := by omega
  go_wp2_with fail
  repeat any_goals (first | (refine wp_loop_rounds 4 ?_; rw [rounds_succ]; go_wp2_with fail) | (rw [rounds_succ]; go_wp2_with fail) | (go_region; go_wp2_with fail))
  refine (refMayP (Tm.mk (te + ep) 1 (x) (0) (0)) h4.out _).mono ?_
  rintro e w5 ⟨rfl, hb5⟩
  have KB : Box w5 w2.heap.size (Tm.mk (te + ep) 1 (x) (0) (0)) := Box.later hb5 (by simp [Box, go_sem])
  have hb := Grow.trans' hb (Grow.trans' (by simp (maxDischargeDepth := 9) only [go_sem]) hb5)
  clear hb5 hc hf
  obtain ⟨k0, k1, k2, k3, k4⟩ := KB
  obtain ⟨hc, hf⟩ := bcell hb
  cases p
  · go_wp2
    refine bodyPost_ret (v := .tuple #[.agg #[.int .i64 0, .int .i64 0, .int .i64 0, .int .i64 0, .int .i64 0], .int .i64 4]) (by simp [results, Tryz.results25, go_sem, hc]) rfl ⟨rfl, ?_⟩
    iterate 5 refine Below.setCell ?_ (by simp; try omega) _
    exact Grow.trans' (Grow.trans' (Grow.trans' (Grow.alloc' _ _) (Grow.alloc' _ _)) (Grow.alloc' _ _)) hb
  · go_wp2
    refine bodyPost_ret (v := .tuple #[.agg #[.int .i64 (te + ep), .int .i64 1, .int .i64 (x), .int .i64 (0), .int .i64 (0)], .int .i64 0]) (by simp [results, Tryz.results25, go_sem, hc]) rfl ⟨rfl, ?_⟩
    iterate 5 refine Below.setCell ?_ (by simp; try omega) _
    exact Grow.trans' (Grow.trans' (Grow.trans' (Grow.alloc' _ _) (Grow.alloc' _ _)) (Grow.alloc' _ _)) hb
set_option maxHeartbeats 2000000 in
theorem refApply_1_1 (f ep x y z te tx ty tz : Int) (w : World) (h1 : Hid (mayS (Sm.mk f 1 1 ep x y z) = true)) (h2 : Hid (mayB (Tm.mk te f tx ty tz) = true)) (p : Bool) (h4 : Hid (mayB (Tm.mk (te + ep) 1 (tx + x) (0) (0)) = p)) :
    Calls Tryz.prog 25 #[.agg #[.int .i64 f, .int .i64 1, .int .i64 1, .int .i64 ep, .int .i64 x, .int .i64 y, .int .i64 z], .agg #[.int .i64 te, .int .i64 f, .int .i64 tx, .int .i64 ty, .int .i64 tz]] w fun e w' => e = .returned (.tuple #[cond p (.agg #[.int .i64 (te + ep), .int .i64 1, .int .i64 (tx + x), .int .i64 (0), .int .i64 (0)]) (.agg #[.int .i64 0, .int .i64 0, .int .i64 0, .int .i64 0, .int .i64 0]), .int .i64 (cond p 0 4)]) ∧ Below w.heap.size w w' := by
  obtain ⟨⟨a1, a2⟩, ⟨a3, a4⟩, ⟨a5, a6⟩, ⟨a7, a8⟩⟩ := may_small h2.out
  obtain ⟨⟨b1, b2⟩, ⟨b3, b4⟩, ⟨b5, b6⟩, ⟨b7, b8⟩⟩ := mayS_small h1.out
  dsimp only at a1 a2 a3 a4 a5 a6 a7 a8 b1 b2 b3 b4 b5 b6 b7 b8
  have we := wrap_small a1 a2 b1 b2 (Int.le_refl _)
  have wx := wrap_small a3 a4 b3 b4 (Int.le_refl _)
  have wy := wrap_small a5 a6 b5 b6 (Int.le_refl _)
  have wz := wrap_small a7 a8 b7 b8 (Int.le_refl _)
  clear a1 a2 a3 a4 a5 a6 a7 a8 b1 b2 b3 b4 b5 b6 b7 b8
  go_enter Tryz.func25, Tryz.ntmps25
  go_wp2_with fail
  refine (refMayQ (Sm.mk f 1 1 ep x y z) h1.out _).mono ?_
  rintro e w1 ⟨rfl, hb⟩
  obtain ⟨hc, hf⟩ := bcell hb
  go_wp2_with fail
  refine (refMayP (Tm.mk te f tx ty tz) h2.out _).mono ?_
  rintro e w2 ⟨rfl, hb2⟩
  have hb := Grow.trans' hb hb2; clear hb2 hc hf; obtain ⟨hc, hf⟩ := bcell hb
  have hz : w.heap.size + 2 < w2.heap.size := by have := hb.size; simp at this; omega
  have hz1 : w.heap.size + 1 < w2.heap.size := by omega
  have hz0 : w.heap.size < w2.heap.size := by omega
  go_wp2_with fail
  repeat any_goals (first | (refine wp_loop_rounds 4 ?_; rw [rounds_succ]; go_wp2_with fail) | (rw [rounds_succ]; go_wp2_with fail) | (go_region; go_wp2_with fail))
  refine (refMayP (Tm.mk (te + ep) 1 (tx + x) (0) (0)) h4.out _).mono ?_
  rintro e w5 ⟨rfl, hb5⟩
  have KB : Box w5 w2.heap.size (Tm.mk (te + ep) 1 (tx + x) (0) (0)) := Box.later hb5 (by simp [Box, go_sem])
  have hb := Grow.trans' hb (Grow.trans' (by simp (maxDischargeDepth := 9) only [go_sem]) hb5)
  clear hb5 hc hf
  obtain ⟨k0, k1, k2, k3, k4⟩ := KB
  obtain ⟨hc, hf⟩ := bcell hb
  cases p
  · go_wp2
    refine bodyPost_ret (v := .tuple #[.agg #[.int .i64 0, .int .i64 0, .int .i64 0, .int .i64 0, .int .i64 0], .int .i64 4]) (by simp [results, Tryz.results25, go_sem, hc]) rfl ⟨rfl, ?_⟩
    iterate 5 refine Below.setCell ?_ (by simp; try omega) _
    exact Grow.trans' (Grow.trans' (Grow.trans' (Grow.alloc' _ _) (Grow.alloc' _ _)) (Grow.alloc' _ _)) hb
  · go_wp2
    refine bodyPost_ret (v := .tuple #[.agg #[.int .i64 (te + ep), .int .i64 1, .int .i64 (tx + x), .int .i64 (0), .int .i64 (0)], .int .i64 0]) (by simp [results, Tryz.results25, go_sem, hc]) rfl ⟨rfl, ?_⟩
    iterate 5 refine Below.setCell ?_ (by simp; try omega) _
    exact Grow.trans' (Grow.trans' (Grow.trans' (Grow.alloc' _ _) (Grow.alloc' _ _)) (Grow.alloc' _ _)) hb
set_option maxHeartbeats 2000000 in
theorem refApply_2_0 (f ep x y z te tx ty tz : Int) (w : World) (h1 : Hid (mayS (Sm.mk f 2 0 ep x y z) = true)) (h2 : Hid (mayB (Tm.mk te f tx ty tz) = true)) (p : Bool) (h4 : Hid (mayB (Tm.mk (te + ep) 2 (x) (y) (0)) = p)) :
    Calls Tryz.prog 25 #[.agg #[.int .i64 f, .int .i64 2, .int .i64 0, .int .i64 ep, .int .i64 x, .int .i64 y, .int .i64 z], .agg #[.int .i64 te, .int .i64 f, .int .i64 tx, .int .i64 ty, .int .i64 tz]] w fun e w' => e = .returned (.tuple #[cond p (.agg #[.int .i64 (te + ep), .int .i64 2, .int .i64 (x), .int .i64 (y), .int .i64 (0)]) (.agg #[.int .i64 0, .int .i64 0, .int .i64 0, .int .i64 0, .int .i64 0]), .int .i64 (cond p 0 4)]) ∧ Below w.heap.size w w' := by
  obtain ⟨⟨a1, a2⟩, ⟨a3, a4⟩, ⟨a5, a6⟩, ⟨a7, a8⟩⟩ := may_small h2.out
  obtain ⟨⟨b1, b2⟩, ⟨b3, b4⟩, ⟨b5, b6⟩, ⟨b7, b8⟩⟩ := mayS_small h1.out
  dsimp only at a1 a2 a3 a4 a5 a6 a7 a8 b1 b2 b3 b4 b5 b6 b7 b8
  have we := wrap_small a1 a2 b1 b2 (Int.le_refl _)
  have wx := wrap_small a3 a4 b3 b4 (Int.le_refl _)
  have wy := wrap_small a5 a6 b5 b6 (Int.le_refl _)
  have wz := wrap_small a7 a8 b7 b8 (Int.le_refl _)
  clear a1 a2 a3 a4 a5 a6 a7 a8 b1 b2 b3 b4 b5 b6 b7 b8
  go_enter Tryz.func25, Tryz.ntmps25
  go_wp2_with fail
  refine (refMayQ (Sm.mk f 2 0 ep x y z) h1.out _).mono ?_
  rintro e w1 ⟨rfl, hb⟩
  obtain ⟨hc, hf⟩ := bcell hb
  go_wp2_with fail
  refine (refMayP (Tm.mk te f tx ty tz) h2.out _).mono ?_
  rintro e w2 ⟨rfl, hb2⟩
  have hb := Grow.trans' hb hb2; clear hb2 hc hf; obtain ⟨hc, hf⟩ := bcell hb
  have hz : w.heap.size + 2 < w2.heap.size := by have := hb.size; simp at this; omega
  have hz1 : w.heap.size + 1 < w2.heap.size := by omega
  have hz0 : w.heap.size < w2.heap.size := by omega
  go_wp2_with fail
  repeat any_goals (first | (refine wp_loop_rounds 4 ?_; rw [rounds_succ]; go_wp2_with fail) | (rw [rounds_succ]; go_wp2_with fail) | (go_region; go_wp2_with fail))
  refine (refMayP (Tm.mk (te + ep) 2 (x) (y) (0)) h4.out _).mono ?_
  rintro e w5 ⟨rfl, hb5⟩
  have KB : Box w5 w2.heap.size (Tm.mk (te + ep) 2 (x) (y) (0)) := Box.later hb5 (by simp [Box, go_sem])
  have hb := Grow.trans' hb (Grow.trans' (by simp (maxDischargeDepth := 9) only [go_sem]) hb5)
  clear hb5 hc hf
  obtain ⟨k0, k1, k2, k3, k4⟩ := KB
  obtain ⟨hc, hf⟩ := bcell hb
  cases p
  · go_wp2
    refine bodyPost_ret (v := .tuple #[.agg #[.int .i64 0, .int .i64 0, .int .i64 0, .int .i64 0, .int .i64 0], .int .i64 4]) (by simp [results, Tryz.results25, go_sem, hc]) rfl ⟨rfl, ?_⟩
    iterate 5 refine Below.setCell ?_ (by simp; try omega) _
    exact Grow.trans' (Grow.trans' (Grow.trans' (Grow.alloc' _ _) (Grow.alloc' _ _)) (Grow.alloc' _ _)) hb
  · go_wp2
    refine bodyPost_ret (v := .tuple #[.agg #[.int .i64 (te + ep), .int .i64 2, .int .i64 (x), .int .i64 (y), .int .i64 (0)], .int .i64 0]) (by simp [results, Tryz.results25, go_sem, hc]) rfl ⟨rfl, ?_⟩
    iterate 5 refine Below.setCell ?_ (by simp; try omega) _
    exact Grow.trans' (Grow.trans' (Grow.trans' (Grow.alloc' _ _) (Grow.alloc' _ _)) (Grow.alloc' _ _)) hb
set_option maxHeartbeats 2000000 in
theorem refApply_2_1 (f ep x y z te tx ty tz : Int) (w : World) (h1 : Hid (mayS (Sm.mk f 2 1 ep x y z) = true)) (h2 : Hid (mayB (Tm.mk te f tx ty tz) = true)) (p : Bool) (h4 : Hid (mayB (Tm.mk (te + ep) 2 (tx + x) (y) (0)) = p)) :
    Calls Tryz.prog 25 #[.agg #[.int .i64 f, .int .i64 2, .int .i64 1, .int .i64 ep, .int .i64 x, .int .i64 y, .int .i64 z], .agg #[.int .i64 te, .int .i64 f, .int .i64 tx, .int .i64 ty, .int .i64 tz]] w fun e w' => e = .returned (.tuple #[cond p (.agg #[.int .i64 (te + ep), .int .i64 2, .int .i64 (tx + x), .int .i64 (y), .int .i64 (0)]) (.agg #[.int .i64 0, .int .i64 0, .int .i64 0, .int .i64 0, .int .i64 0]), .int .i64 (cond p 0 4)]) ∧ Below w.heap.size w w' := by
  obtain ⟨⟨a1, a2⟩, ⟨a3, a4⟩, ⟨a5, a6⟩, ⟨a7, a8⟩⟩ := may_small h2.out
  obtain ⟨⟨b1, b2⟩, ⟨b3, b4⟩, ⟨b5, b6⟩, ⟨b7, b8⟩⟩ := mayS_small h1.out
  dsimp only at a1 a2 a3 a4 a5 a6 a7 a8 b1 b2 b3 b4 b5 b6 b7 b8
  have we := wrap_small a1 a2 b1 b2 (Int.le_refl _)
  have wx := wrap_small a3 a4 b3 b4 (Int.le_refl _)
  have wy := wrap_small a5 a6 b5 b6 (Int.le_refl _)
  have wz := wrap_small a7 a8 b7 b8 (Int.le_refl _)
  clear a1 a2 a3 a4 a5 a6 a7 a8 b1 b2 b3 b4 b5 b6 b7 b8
  go_enter Tryz.func25, Tryz.ntmps25
  go_wp2_with fail
  refine (refMayQ (Sm.mk f 2 1 ep x y z) h1.out _).mono ?_
  rintro e w1 ⟨rfl, hb⟩
  obtain ⟨hc, hf⟩ := bcell hb
  go_wp2_with fail
  refine (refMayP (Tm.mk te f tx ty tz) h2.out _).mono ?_
  rintro e w2 ⟨rfl, hb2⟩
  have hb := Grow.trans' hb hb2; clear hb2 hc hf; obtain ⟨hc, hf⟩ := bcell hb
  have hz : w.heap.size + 2 < w2.heap.size := by have := hb.size; simp at this; omega
  have hz1 : w.heap.size + 1 < w2.heap.size := by omega
  have hz0 : w.heap.size < w2.heap.size := by omega
  go_wp2_with fail
  repeat any_goals (first | (refine wp_loop_rounds 4 ?_; rw [rounds_succ]; go_wp2_with fail) | (rw [rounds_succ]; go_wp2_with fail) | (go_region; go_wp2_with fail))
  refine (refMayP (Tm.mk (te + ep) 2 (tx + x) (y) (0)) h4.out _).mono ?_
  rintro e w5 ⟨rfl, hb5⟩
  have KB : Box w5 w2.heap.size (Tm.mk (te + ep) 2 (tx + x) (y) (0)) := Box.later hb5 (by simp [Box, go_sem])
  have hb := Grow.trans' hb (Grow.trans' (by simp (maxDischargeDepth := 9) only [go_sem]) hb5)
  clear hb5 hc hf
  obtain ⟨k0, k1, k2, k3, k4⟩ := KB
  obtain ⟨hc, hf⟩ := bcell hb
  cases p
  · go_wp2
    refine bodyPost_ret (v := .tuple #[.agg #[.int .i64 0, .int .i64 0, .int .i64 0, .int .i64 0, .int .i64 0], .int .i64 4]) (by simp [results, Tryz.results25, go_sem, hc]) rfl ⟨rfl, ?_⟩
    iterate 5 refine Below.setCell ?_ (by simp; try omega) _
    exact Grow.trans' (Grow.trans' (Grow.trans' (Grow.alloc' _ _) (Grow.alloc' _ _)) (Grow.alloc' _ _)) hb
  · go_wp2
    refine bodyPost_ret (v := .tuple #[.agg #[.int .i64 (te + ep), .int .i64 2, .int .i64 (tx + x), .int .i64 (y), .int .i64 (0)], .int .i64 0]) (by simp [results, Tryz.results25, go_sem, hc]) rfl ⟨rfl, ?_⟩
    iterate 5 refine Below.setCell ?_ (by simp; try omega) _
    exact Grow.trans' (Grow.trans' (Grow.trans' (Grow.alloc' _ _) (Grow.alloc' _ _)) (Grow.alloc' _ _)) hb
set_option maxHeartbeats 2000000 in
theorem refApply_2_2 (f ep x y z te tx ty tz : Int) (w : World) (h1 : Hid (mayS (Sm.mk f 2 2 ep x y z) = true)) (h2 : Hid (mayB (Tm.mk te f tx ty tz) = true)) (p : Bool) (h4 : Hid (mayB (Tm.mk (te + ep) 2 (tx + x) (ty + y) (0)) = p)) :
    Calls Tryz.prog 25 #[.agg #[.int .i64 f, .int .i64 2, .int .i64 2, .int .i64 ep, .int .i64 x, .int .i64 y, .int .i64 z], .agg #[.int .i64 te, .int .i64 f, .int .i64 tx, .int .i64 ty, .int .i64 tz]] w fun e w' => e = .returned (.tuple #[cond p (.agg #[.int .i64 (te + ep), .int .i64 2, .int .i64 (tx + x), .int .i64 (ty + y), .int .i64 (0)]) (.agg #[.int .i64 0, .int .i64 0, .int .i64 0, .int .i64 0, .int .i64 0]), .int .i64 (cond p 0 4)]) ∧ Below w.heap.size w w' := by
  obtain ⟨⟨a1, a2⟩, ⟨a3, a4⟩, ⟨a5, a6⟩, ⟨a7, a8⟩⟩ := may_small h2.out
  obtain ⟨⟨b1, b2⟩, ⟨b3, b4⟩, ⟨b5, b6⟩, ⟨b7, b8⟩⟩ := mayS_small h1.out
  dsimp only at a1 a2 a3 a4 a5 a6 a7 a8 b1 b2 b3 b4 b5 b6 b7 b8
  have we := wrap_small a1 a2 b1 b2 (Int.le_refl _)
  have wx := wrap_small a3 a4 b3 b4 (Int.le_refl _)
  have wy := wrap_small a5 a6 b5 b6 (Int.le_refl _)
  have wz := wrap_small a7 a8 b7 b8 (Int.le_refl _)
  clear a1 a2 a3 a4 a5 a6 a7 a8 b1 b2 b3 b4 b5 b6 b7 b8
  go_enter Tryz.func25, Tryz.ntmps25
  go_wp2_with fail
  refine (refMayQ (Sm.mk f 2 2 ep x y z) h1.out _).mono ?_
  rintro e w1 ⟨rfl, hb⟩
  obtain ⟨hc, hf⟩ := bcell hb
  go_wp2_with fail
  refine (refMayP (Tm.mk te f tx ty tz) h2.out _).mono ?_
  rintro e w2 ⟨rfl, hb2⟩
  have hb := Grow.trans' hb hb2; clear hb2 hc hf; obtain ⟨hc, hf⟩ := bcell hb
  have hz : w.heap.size + 2 < w2.heap.size := by have := hb.size; simp at this; omega
  have hz1 : w.heap.size + 1 < w2.heap.size := by omega
  have hz0 : w.heap.size < w2.heap.size := by omega
  go_wp2_with fail
  repeat any_goals (first | (refine wp_loop_rounds 4 ?_; rw [rounds_succ]; go_wp2_with fail) | (rw [rounds_succ]; go_wp2_with fail) | (go_region; go_wp2_with fail))
  refine (refMayP (Tm.mk (te + ep) 2 (tx + x) (ty + y) (0)) h4.out _).mono ?_
  rintro e w5 ⟨rfl, hb5⟩
  have KB : Box w5 w2.heap.size (Tm.mk (te + ep) 2 (tx + x) (ty + y) (0)) := Box.later hb5 (by simp [Box, go_sem])
  have hb := Grow.trans' hb (Grow.trans' (by simp (maxDischargeDepth := 9) only [go_sem]) hb5)
  clear hb5 hc hf
  obtain ⟨k0, k1, k2, k3, k4⟩ := KB
  obtain ⟨hc, hf⟩ := bcell hb
  cases p
  · go_wp2
    refine bodyPost_ret (v := .tuple #[.agg #[.int .i64 0, .int .i64 0, .int .i64 0, .int .i64 0, .int .i64 0], .int .i64 4]) (by simp [results, Tryz.results25, go_sem, hc]) rfl ⟨rfl, ?_⟩
    iterate 5 refine Below.setCell ?_ (by simp; try omega) _
    exact Grow.trans' (Grow.trans' (Grow.trans' (Grow.alloc' _ _) (Grow.alloc' _ _)) (Grow.alloc' _ _)) hb
  · go_wp2
    refine bodyPost_ret (v := .tuple #[.agg #[.int .i64 (te + ep), .int .i64 2, .int .i64 (tx + x), .int .i64 (ty + y), .int .i64 (0)], .int .i64 0]) (by simp [results, Tryz.results25, go_sem, hc]) rfl ⟨rfl, ?_⟩
    iterate 5 refine Below.setCell ?_ (by simp; try omega) _
    exact Grow.trans' (Grow.trans' (Grow.trans' (Grow.alloc' _ _) (Grow.alloc' _ _)) (Grow.alloc' _ _)) hb
set_option maxHeartbeats 2000000 in
theorem refApply_3_0 (f ep x y z te tx ty tz : Int) (w : World) (h1 : Hid (mayS (Sm.mk f 3 0 ep x y z) = true)) (h2 : Hid (mayB (Tm.mk te f tx ty tz) = true)) (p : Bool) (h4 : Hid (mayB (Tm.mk (te + ep) 3 (x) (y) (z)) = p)) :
    Calls Tryz.prog 25 #[.agg #[.int .i64 f, .int .i64 3, .int .i64 0, .int .i64 ep, .int .i64 x, .int .i64 y, .int .i64 z], .agg #[.int .i64 te, .int .i64 f, .int .i64 tx, .int .i64 ty, .int .i64 tz]] w fun e w' => e = .returned (.tuple #[cond p (.agg #[.int .i64 (te + ep), .int .i64 3, .int .i64 (x), .int .i64 (y), .int .i64 (z)]) (.agg #[.int .i64 0, .int .i64 0, .int .i64 0, .int .i64 0, .int .i64 0]), .int .i64 (cond p 0 4)]) ∧ Below w.heap.size w w' := by
  obtain ⟨⟨a1, a2⟩, ⟨a3, a4⟩, ⟨a5, a6⟩, ⟨a7, a8⟩⟩ := may_small h2.out
  obtain ⟨⟨b1, b2⟩, ⟨b3, b4⟩, ⟨b5, b6⟩, ⟨b7, b8⟩⟩ := mayS_small h1.out
  dsimp only at a1 a2 a3 a4 a5 a6 a7 a8 b1 b2 b3 b4 b5 b6 b7 b8
  have we := wrap_small a1 a2 b1 b2 (Int.le_refl _)
  have wx := wrap_small a3 a4 b3 b4 (Int.le_refl _)
  have wy := wrap_small a5 a6 b5 b6 (Int.le_refl _)
  have wz := wrap_small a7 a8 b7 b8 (Int.le_refl _)
  clear a1 a2 a3 a4 a5 a6 a7 a8 b1 b2 b3 b4 b5 b6 b7 b8
  go_enter Tryz.func25, Tryz.ntmps25
  go_wp2_with fail
  refine (refMayQ (Sm.mk f 3 0 ep x y z) h1.out _).mono ?_
  rintro e w1 ⟨rfl, hb⟩
  obtain ⟨hc, hf⟩ := bcell hb
  go_wp2_with fail
  refine (refMayP (Tm.mk te f tx ty tz) h2.out _).mono ?_
  rintro e w2 ⟨rfl, hb2⟩
  have hb := Grow.trans' hb hb2; clear hb2 hc hf; obtain ⟨hc, hf⟩ := bcell hb
  have hz : w.heap.size + 2 < w2.heap.size := by have := hb.size; simp at this; omega
  have hz1 : w.heap.size + 1 < w2.heap.size := by omega
  have hz0 : w.heap.size < w2.heap.size := by omega
  go_wp2_with fail
  repeat any_goals (first | (refine wp_loop_rounds 4 ?_; rw [rounds_succ]; go_wp2_with fail) | (rw [rounds_succ]; go_wp2_with fail) | (go_region; go_wp2_with fail))
  refine (refMayP (Tm.mk (te + ep) 3 (x) (y) (z)) h4.out _).mono ?_
  rintro e w5 ⟨rfl, hb5⟩
  have KB : Box w5 w2.heap.size (Tm.mk (te + ep) 3 (x) (y) (z)) := Box.later hb5 (by simp [Box, go_sem])
  have hb := Grow.trans' hb (Grow.trans' (by simp (maxDischargeDepth := 9) only [go_sem]) hb5)
  clear hb5 hc hf
  obtain ⟨k0, k1, k2, k3, k4⟩ := KB
  obtain ⟨hc, hf⟩ := bcell hb
  cases p
  · go_wp2
    refine bodyPost_ret (v := .tuple #[.agg #[.int .i64 0, .int .i64 0, .int .i64 0, .int .i64 0, .int .i64 0], .int .i64 4]) (by simp [results, Tryz.results25, go_sem, hc]) rfl ⟨rfl, ?_⟩
    iterate 5 refine Below.setCell ?_ (by simp; try omega) _
    exact Grow.trans' (Grow.trans' (Grow.trans' (Grow.alloc' _ _) (Grow.alloc' _ _)) (Grow.alloc' _ _)) hb
  · go_wp2
    refine bodyPost_ret (v := .tuple #[.agg #[.int .i64 (te + ep), .int .i64 3, .int .i64 (x), .int .i64 (y), .int .i64 (z)], .int .i64 0]) (by simp [results, Tryz.results25, go_sem, hc]) rfl ⟨rfl, ?_⟩
    iterate 5 refine Below.setCell ?_ (by simp; try omega) _
    exact Grow.trans' (Grow.trans' (Grow.trans' (Grow.alloc' _ _) (Grow.alloc' _ _)) (Grow.alloc' _ _)) hb
set_option maxHeartbeats 2000000 in
theorem refApply_3_1 (f ep x y z te tx ty tz : Int) (w : World) (h1 : Hid (mayS (Sm.mk f 3 1 ep x y z) = true)) (h2 : Hid (mayB (Tm.mk te f tx ty tz) = true)) (p : Bool) (h4 : Hid (mayB (Tm.mk (te + ep) 3 (tx + x) (y) (z)) = p)) :
    Calls Tryz.prog 25 #[.agg #[.int .i64 f, .int .i64 3, .int .i64 1, .int .i64 ep, .int .i64 x, .int .i64 y, .int .i64 z], .agg #[.int .i64 te, .int .i64 f, .int .i64 tx, .int .i64 ty, .int .i64 tz]] w fun e w' => e = .returned (.tuple #[cond p (.agg #[.int .i64 (te + ep), .int .i64 3, .int .i64 (tx + x), .int .i64 (y), .int .i64 (z)]) (.agg #[.int .i64 0, .int .i64 0, .int .i64 0, .int .i64 0, .int .i64 0]), .int .i64 (cond p 0 4)]) ∧ Below w.heap.size w w' := by
  obtain ⟨⟨a1, a2⟩, ⟨a3, a4⟩, ⟨a5, a6⟩, ⟨a7, a8⟩⟩ := may_small h2.out
  obtain ⟨⟨b1, b2⟩, ⟨b3, b4⟩, ⟨b5, b6⟩, ⟨b7, b8⟩⟩ := mayS_small h1.out
  dsimp only at a1 a2 a3 a4 a5 a6 a7 a8 b1 b2 b3 b4 b5 b6 b7 b8
  have we := wrap_small a1 a2 b1 b2 (Int.le_refl _)
  have wx := wrap_small a3 a4 b3 b4 (Int.le_refl _)
  have wy := wrap_small a5 a6 b5 b6 (Int.le_refl _)
  have wz := wrap_small a7 a8 b7 b8 (Int.le_refl _)
  clear a1 a2 a3 a4 a5 a6 a7 a8 b1 b2 b3 b4 b5 b6 b7 b8
  go_enter Tryz.func25, Tryz.ntmps25
  go_wp2_with fail
  refine (refMayQ (Sm.mk f 3 1 ep x y z) h1.out _).mono ?_
  rintro e w1 ⟨rfl, hb⟩
  obtain ⟨hc, hf⟩ := bcell hb
  go_wp2_with fail
  refine (refMayP (Tm.mk te f tx ty tz) h2.out _).mono ?_
  rintro e w2 ⟨rfl, hb2⟩
  have hb := Grow.trans' hb hb2; clear hb2 hc hf; obtain ⟨hc, hf⟩ := bcell hb
  have hz : w.heap.size + 2 < w2.heap.size := by have := hb.size; simp at this; omega
  have hz1 : w.heap.size + 1 < w2.heap.size := by omega
  have hz0 : w.heap.size < w2.heap.size := by omega
  go_wp2_with fail
  repeat any_goals (first | (refine wp_loop_rounds 4 ?_; rw [rounds_succ]; go_wp2_with fail) | (rw [rounds_succ]; go_wp2_with fail) | (go_region; go_wp2_with fail))
  refine (refMayP (Tm.mk (te + ep) 3 (tx + x) (y) (z)) h4.out _).mono ?_
  rintro e w5 ⟨rfl, hb5⟩
  have KB : Box w5 w2.heap.size (Tm.mk (te + ep) 3 (tx + x) (y) (z)) := Box.later hb5 (by simp [Box, go_sem])
  have hb := Grow.trans' hb (Grow.trans' (by simp (maxDischargeDepth := 9) only [go_sem]) hb5)
  clear hb5 hc hf
  obtain ⟨k0, k1, k2, k3, k4⟩ := KB
  obtain ⟨hc, hf⟩ := bcell hb
  cases p
  · go_wp2
    refine bodyPost_ret (v := .tuple #[.agg #[.int .i64 0, .int .i64 0, .int .i64 0, .int .i64 0, .int .i64 0], .int .i64 4]) (by simp [results, Tryz.results25, go_sem, hc]) rfl ⟨rfl, ?_⟩
    iterate 5 refine Below.setCell ?_ (by simp; try omega) _
    exact Grow.trans' (Grow.trans' (Grow.trans' (Grow.alloc' _ _) (Grow.alloc' _ _)) (Grow.alloc' _ _)) hb
  · go_wp2
    refine bodyPost_ret (v := .tuple #[.agg #[.int .i64 (te + ep), .int .i64 3, .int .i64 (tx + x), .int .i64 (y), .int .i64 (z)], .int .i64 0]) (by simp [results, Tryz.results25, go_sem, hc]) rfl ⟨rfl, ?_⟩
    iterate 5 refine Below.setCell ?_ (by simp; try omega) _
    exact Grow.trans' (Grow.trans' (Grow.trans' (Grow.alloc' _ _) (Grow.alloc' _ _)) (Grow.alloc' _ _)) hb
set_option maxHeartbeats 2000000 in
theorem refApply_3_2 (f ep x y z te tx ty tz : Int) (w : World) (h1 : Hid (mayS (Sm.mk f 3 2 ep x y z) = true)) (h2 : Hid (mayB (Tm.mk te f tx ty tz) = true)) (p : Bool) (h4 : Hid (mayB (Tm.mk (te + ep) 3 (tx + x) (ty + y) (z)) = p)) :
    Calls Tryz.prog 25 #[.agg #[.int .i64 f, .int .i64 3, .int .i64 2, .int .i64 ep, .int .i64 x, .int .i64 y, .int .i64 z], .agg #[.int .i64 te, .int .i64 f, .int .i64 tx, .int .i64 ty, .int .i64 tz]] w fun e w' => e = .returned (.tuple #[cond p (.agg #[.int .i64 (te + ep), .int .i64 3, .int .i64 (tx + x), .int .i64 (ty + y), .int .i64 (z)]) (.agg #[.int .i64 0, .int .i64 0, .int .i64 0, .int .i64 0, .int .i64 0]), .int .i64 (cond p 0 4)]) ∧ Below w.heap.size w w' := by
  obtain ⟨⟨a1, a2⟩, ⟨a3, a4⟩, ⟨a5, a6⟩, ⟨a7, a8⟩⟩ := may_small h2.out
  obtain ⟨⟨b1, b2⟩, ⟨b3, b4⟩, ⟨b5, b6⟩, ⟨b7, b8⟩⟩ := mayS_small h1.out
  dsimp only at a1 a2 a3 a4 a5 a6 a7 a8 b1 b2 b3 b4 b5 b6 b7 b8
  have we := wrap_small a1 a2 b1 b2 (Int.le_refl _)
  have wx := wrap_small a3 a4 b3 b4 (Int.le_refl _)
  have wy := wrap_small a5 a6 b5 b6 (Int.le_refl _)
  have wz := wrap_small a7 a8 b7 b8 (Int.le_refl _)
  clear a1 a2 a3 a4 a5 a6 a7 a8 b1 b2 b3 b4 b5 b6 b7 b8
  go_enter Tryz.func25, Tryz.ntmps25
  go_wp2_with fail
  refine (refMayQ (Sm.mk f 3 2 ep x y z) h1.out _).mono ?_
  rintro e w1 ⟨rfl, hb⟩
  obtain ⟨hc, hf⟩ := bcell hb
  go_wp2_with fail
  refine (refMayP (Tm.mk te f tx ty tz) h2.out _).mono ?_
  rintro e w2 ⟨rfl, hb2⟩
  have hb := Grow.trans' hb hb2; clear hb2 hc hf; obtain ⟨hc, hf⟩ := bcell hb
  have hz : w.heap.size + 2 < w2.heap.size := by have := hb.size; simp at this; omega
  have hz1 : w.heap.size + 1 < w2.heap.size := by omega
  have hz0 : w.heap.size < w2.heap.size := by omega
  go_wp2_with fail
  repeat any_goals (first | (refine wp_loop_rounds 4 ?_; rw [rounds_succ]; go_wp2_with fail) | (rw [rounds_succ]; go_wp2_with fail) | (go_region; go_wp2_with fail))
  refine (refMayP (Tm.mk (te + ep) 3 (tx + x) (ty + y) (z)) h4.out _).mono ?_
  rintro e w5 ⟨rfl, hb5⟩
  have KB : Box w5 w2.heap.size (Tm.mk (te + ep) 3 (tx + x) (ty + y) (z)) := Box.later hb5 (by simp [Box, go_sem])
  have hb := Grow.trans' hb (Grow.trans' (by simp (maxDischargeDepth := 9) only [go_sem]) hb5)
  clear hb5 hc hf
  obtain ⟨k0, k1, k2, k3, k4⟩ := KB
  obtain ⟨hc, hf⟩ := bcell hb
  cases p
  · go_wp2
    refine bodyPost_ret (v := .tuple #[.agg #[.int .i64 0, .int .i64 0, .int .i64 0, .int .i64 0, .int .i64 0], .int .i64 4]) (by simp [results, Tryz.results25, go_sem, hc]) rfl ⟨rfl, ?_⟩
    iterate 5 refine Below.setCell ?_ (by simp; try omega) _
    exact Grow.trans' (Grow.trans' (Grow.trans' (Grow.alloc' _ _) (Grow.alloc' _ _)) (Grow.alloc' _ _)) hb
  · go_wp2
    refine bodyPost_ret (v := .tuple #[.agg #[.int .i64 (te + ep), .int .i64 3, .int .i64 (tx + x), .int .i64 (ty + y), .int .i64 (z)], .int .i64 0]) (by simp [results, Tryz.results25, go_sem, hc]) rfl ⟨rfl, ?_⟩
    iterate 5 refine Below.setCell ?_ (by simp; try omega) _
    exact Grow.trans' (Grow.trans' (Grow.trans' (Grow.alloc' _ _) (Grow.alloc' _ _)) (Grow.alloc' _ _)) hb
set_option maxHeartbeats 2000000 in
theorem refApply_3_3 (f ep x y z te tx ty tz : Int) (w : World) (h1 : Hid (mayS (Sm.mk f 3 3 ep x y z) = true)) (h2 : Hid (mayB (Tm.mk te f tx ty tz) = true)) (p : Bool) (h4 : Hid (mayB (Tm.mk (te + ep) 3 (tx + x) (ty + y) (tz + z)) = p)) :
    Calls Tryz.prog 25 #[.agg #[.int .i64 f, .int .i64 3, .int .i64 3, .int .i64 ep, .int .i64 x, .int .i64 y, .int .i64 z], .agg #[.int .i64 te, .int .i64 f, .int .i64 tx, .int .i64 ty, .int .i64 tz]] w fun e w' => e = .returned (.tuple #[cond p (.agg #[.int .i64 (te + ep), .int .i64 3, .int .i64 (tx + x), .int .i64 (ty + y), .int .i64 (tz + z)]) (.agg #[.int .i64 0, .int .i64 0, .int .i64 0, .int .i64 0, .int .i64 0]), .int .i64 (cond p 0 4)]) ∧ Below w.heap.size w w' := by
  obtain ⟨⟨a1, a2⟩, ⟨a3, a4⟩, ⟨a5, a6⟩, ⟨a7, a8⟩⟩ := may_small h2.out
  obtain ⟨⟨b1, b2⟩, ⟨b3, b4⟩, ⟨b5, b6⟩, ⟨b7, b8⟩⟩ := mayS_small h1.out
  dsimp only at a1 a2 a3 a4 a5 a6 a7 a8 b1 b2 b3 b4 b5 b6 b7 b8
  have we := wrap_small a1 a2 b1 b2 (Int.le_refl _)
  have wx := wrap_small a3 a4 b3 b4 (Int.le_refl _)
  have wy := wrap_small a5 a6 b5 b6 (Int.le_refl _)
  have wz := wrap_small a7 a8 b7 b8 (Int.le_refl _)
  clear a1 a2 a3 a4 a5 a6 a7 a8 b1 b2 b3 b4 b5 b6 b7 b8
  go_enter Tryz.func25, Tryz.ntmps25
  go_wp2_with fail
  refine (refMayQ (Sm.mk f 3 3 ep x y z) h1.out _).mono ?_
  rintro e w1 ⟨rfl, hb⟩
  obtain ⟨hc, hf⟩ := bcell hb
  go_wp2_with fail
  refine (refMayP (Tm.mk te f tx ty tz) h2.out _).mono ?_
  rintro e w2 ⟨rfl, hb2⟩
  have hb := Grow.trans' hb hb2; clear hb2 hc hf; obtain ⟨hc, hf⟩ := bcell hb
  have hz : w.heap.size + 2 < w2.heap.size := by have := hb.size; simp at this; omega
  have hz1 : w.heap.size + 1 < w2.heap.size := by omega
  have hz0 : w.heap.size < w2.heap.size := by omega
  go_wp2_with fail
  repeat any_goals (first | (refine wp_loop_rounds 4 ?_; rw [rounds_succ]; go_wp2_with fail) | (rw [rounds_succ]; go_wp2_with fail) | (go_region; go_wp2_with fail))
  refine (refMayP (Tm.mk (te + ep) 3 (tx + x) (ty + y) (tz + z)) h4.out _).mono ?_
  rintro e w5 ⟨rfl, hb5⟩
  have KB : Box w5 w2.heap.size (Tm.mk (te + ep) 3 (tx + x) (ty + y) (tz + z)) := Box.later hb5 (by simp [Box, go_sem])
  have hb := Grow.trans' hb (Grow.trans' (by simp (maxDischargeDepth := 9) only [go_sem]) hb5)
  clear hb5 hc hf
  obtain ⟨k0, k1, k2, k3, k4⟩ := KB
  obtain ⟨hc, hf⟩ := bcell hb
  cases p
  · go_wp2
    refine bodyPost_ret (v := .tuple #[.agg #[.int .i64 0, .int .i64 0, .int .i64 0, .int .i64 0, .int .i64 0], .int .i64 4]) (by simp [results, Tryz.results25, go_sem, hc]) rfl ⟨rfl, ?_⟩
    iterate 5 refine Below.setCell ?_ (by simp; try omega) _
    exact Grow.trans' (Grow.trans' (Grow.trans' (Grow.alloc' _ _) (Grow.alloc' _ _)) (Grow.alloc' _ _)) hb
  · go_wp2
    refine bodyPost_ret (v := .tuple #[.agg #[.int .i64 (te + ep), .int .i64 3, .int .i64 (tx + x), .int .i64 (ty + y), .int .i64 (tz + z)], .int .i64 0]) (by simp [results, Tryz.results25, go_sem, hc]) rfl ⟨rfl, ?_⟩
    iterate 5 refine Below.setCell ?_ (by simp; try omega) _
    exact Grow.trans' (Grow.trans' (Grow.trans' (Grow.alloc' _ _) (Grow.alloc' _ _)) (Grow.alloc' _ _)) hb
theorem refApply_any (s : Sm) (t : Tm) (w : World) :
    Calls Tryz.prog 25 #[.agg #[.int .i64 s.f, .int .i64 s.t, .int .i64 s.k, .int .i64 s.ep, .int .i64 s.x, .int .i64 s.y, .int .i64 s.z], .agg #[.int .i64 t.e, .int .i64 t.d, .int .i64 t.x, .int .i64 t.y, .int .i64 t.z]] w fun e w' => e = .returned (.tuple #[.agg #[.int .i64 (applyT s t).e, .int .i64 (applyT s t).d, .int .i64 (applyT s t).x, .int .i64 (applyT s t).y, .int .i64 (applyT s t).z], .int .i64 (applyE s t)]) ∧ Below w.heap.size w w' := by
  cases h1 : mayS s
  · have : applyE s t = 1 := by simp [applyE, fitT, h1]
    cases h2 : mayB t
    · simpa [applyT, this] using refApply_00 s t w h1 h2
    · simpa [applyT, this] using refApply_01 s t w h1 h2
  cases h2 : mayB t
  · have : applyE s t = 1 := by simp [applyE, fitT, h1, h2]
    simpa [applyT, this] using refApply_10 s t w h1 h2
  by_cases h3 : t.d = s.f
  rotate_left
  · have : applyE s t = 1 := by simp [applyE, fitT, h1, h2, h3]
    simpa [applyT, this] using refApply_11 s t w h1 h2 h3
  have hE : applyE s t = cond (mayB (rawT s t)) 0 4 := by cases h4 : mayB (rawT s t) <;> simp [applyE, fitT, h1, h2, h3, h4]
  have hb := (mayS_iff s).1 h1
  obtain ⟨⟨_, _, _, _⟩, ⟨_, _, _⟩, -⟩ := hb
  obtain ⟨f, tt, k, ep, x, y, z⟩ := s
  obtain ⟨te, td, tx, ty, tz⟩ := t
  simp only at *
  subst h3
  have ht : tt = 0 ∧ k = 0 ∨ tt = 1 ∧ k = 0 ∨ tt = 1 ∧ k = 1 ∨ tt = 2 ∧ k = 0 ∨ tt = 2 ∧ k = 1 ∨ tt = 2 ∧ k = 2 ∨ tt = 3 ∧ k = 0 ∨ tt = 3 ∧ k = 1 ∨ tt = 3 ∧ k = 2 ∨ tt = 3 ∧ k = 3 := by omega
  rcases ht with ⟨rfl, rfl⟩ | ⟨rfl, rfl⟩ | ⟨rfl, rfl⟩ | ⟨rfl, rfl⟩ | ⟨rfl, rfl⟩ | ⟨rfl, rfl⟩ | ⟨rfl, rfl⟩ | ⟨rfl, rfl⟩ | ⟨rfl, rfl⟩ | ⟨rfl, rfl⟩
  · have h := refApply_0_0 _ ep x y z te tx ty tz w h1 h2 _ rfl
    have e : rawT (Sm.mk td 0 0 ep x y z) (Tm.mk te td tx ty tz) = (Tm.mk (te + ep) 0 (0) (0) (0)) := rfl
    unfold applyT
    rw [e] at hE ⊢
    revert h hE
    generalize mayB (Tm.mk (te + ep) 0 (0) (0) (0)) = p
    intro hE h
    cases p <;> simpa [hE] using h
  · have h := refApply_1_0 _ ep x y z te tx ty tz w h1 h2 _ rfl
    have e : rawT (Sm.mk td 1 0 ep x y z) (Tm.mk te td tx ty tz) = (Tm.mk (te + ep) 1 (x) (0) (0)) := rfl
    unfold applyT
    rw [e] at hE ⊢
    revert h hE
    generalize mayB (Tm.mk (te + ep) 1 (x) (0) (0)) = p
    intro hE h
    cases p <;> simpa [hE] using h
  · have h := refApply_1_1 _ ep x y z te tx ty tz w h1 h2 _ rfl
    have e : rawT (Sm.mk td 1 1 ep x y z) (Tm.mk te td tx ty tz) = (Tm.mk (te + ep) 1 (tx + x) (0) (0)) := rfl
    unfold applyT
    rw [e] at hE ⊢
    revert h hE
    generalize mayB (Tm.mk (te + ep) 1 (tx + x) (0) (0)) = p
    intro hE h
    cases p <;> simpa [hE] using h
  · have h := refApply_2_0 _ ep x y z te tx ty tz w h1 h2 _ rfl
    have e : rawT (Sm.mk td 2 0 ep x y z) (Tm.mk te td tx ty tz) = (Tm.mk (te + ep) 2 (x) (y) (0)) := rfl
    unfold applyT
    rw [e] at hE ⊢
    revert h hE
    generalize mayB (Tm.mk (te + ep) 2 (x) (y) (0)) = p
    intro hE h
    cases p <;> simpa [hE] using h
  · have h := refApply_2_1 _ ep x y z te tx ty tz w h1 h2 _ rfl
    have e : rawT (Sm.mk td 2 1 ep x y z) (Tm.mk te td tx ty tz) = (Tm.mk (te + ep) 2 (tx + x) (y) (0)) := rfl
    unfold applyT
    rw [e] at hE ⊢
    revert h hE
    generalize mayB (Tm.mk (te + ep) 2 (tx + x) (y) (0)) = p
    intro hE h
    cases p <;> simpa [hE] using h
  · have h := refApply_2_2 _ ep x y z te tx ty tz w h1 h2 _ rfl
    have e : rawT (Sm.mk td 2 2 ep x y z) (Tm.mk te td tx ty tz) = (Tm.mk (te + ep) 2 (tx + x) (ty + y) (0)) := rfl
    unfold applyT
    rw [e] at hE ⊢
    revert h hE
    generalize mayB (Tm.mk (te + ep) 2 (tx + x) (ty + y) (0)) = p
    intro hE h
    cases p <;> simpa [hE] using h
  · have h := refApply_3_0 _ ep x y z te tx ty tz w h1 h2 _ rfl
    have e : rawT (Sm.mk td 3 0 ep x y z) (Tm.mk te td tx ty tz) = (Tm.mk (te + ep) 3 (x) (y) (z)) := rfl
    unfold applyT
    rw [e] at hE ⊢
    revert h hE
    generalize mayB (Tm.mk (te + ep) 3 (x) (y) (z)) = p
    intro hE h
    cases p <;> simpa [hE] using h
  · have h := refApply_3_1 _ ep x y z te tx ty tz w h1 h2 _ rfl
    have e : rawT (Sm.mk td 3 1 ep x y z) (Tm.mk te td tx ty tz) = (Tm.mk (te + ep) 3 (tx + x) (y) (z)) := rfl
    unfold applyT
    rw [e] at hE ⊢
    revert h hE
    generalize mayB (Tm.mk (te + ep) 3 (tx + x) (y) (z)) = p
    intro hE h
    cases p <;> simpa [hE] using h
  · have h := refApply_3_2 _ ep x y z te tx ty tz w h1 h2 _ rfl
    have e : rawT (Sm.mk td 3 2 ep x y z) (Tm.mk te td tx ty tz) = (Tm.mk (te + ep) 3 (tx + x) (ty + y) (z)) := rfl
    unfold applyT
    rw [e] at hE ⊢
    revert h hE
    generalize mayB (Tm.mk (te + ep) 3 (tx + x) (ty + y) (z)) = p
    intro hE h
    cases p <;> simpa [hE] using h
  · have h := refApply_3_3 _ ep x y z te tx ty tz w h1 h2 _ rfl
    have e : rawT (Sm.mk td 3 3 ep x y z) (Tm.mk te td tx ty tz) = (Tm.mk (te + ep) 3 (tx + x) (ty + y) (tz + z)) := rfl
    unfold applyT
    rw [e] at hE ⊢
    revert h hE
    generalize mayB (Tm.mk (te + ep) 3 (tx + x) (ty + y) (tz + z)) = p
    intro hE h
    cases p <;> simpa [hE] using h

end Go.Proofs.YtehianjfpmbfpaaGreat
