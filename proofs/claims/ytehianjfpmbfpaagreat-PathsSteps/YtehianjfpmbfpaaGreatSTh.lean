/-
  What Then does to the world: for every two summaries the answer and the error; what was there stays as it was.
-/
import Derived.Test.YtehianjfpmbfpaaGreatSAp
namespace Go.Proofs.YtehianjfpmbfpaaGreat
open Go.RowKit
set_option linter.unusedVariables false
attribute [local go_sem ↓] run_minI

theorem heldS {W w' : World} {b b' : Nat} {s r : Sm} (hs : SBox W b s) (hr : SBox W b' r) (hg : Grow W w') :
    Grow W w' ∧ w'.cell? ⟨b, 0, none⟩ = some (.int .i64 s.f) ∧ w'.cell? ⟨b, 1, none⟩ = some (.int .i64 s.t) ∧ w'.cell? ⟨b, 2, none⟩ = some (.int .i64 s.k) ∧ w'.cell? ⟨b, 3, none⟩ = some (.int .i64 s.ep) ∧ w'.cell? ⟨b, 4, none⟩ = some (.int .i64 s.x) ∧ w'.cell? ⟨b, 5, none⟩ = some (.int .i64 s.y) ∧ w'.cell? ⟨b, 6, none⟩ = some (.int .i64 s.z) ∧ w'.cell? ⟨b', 0, none⟩ = some (.int .i64 r.f) ∧ w'.cell? ⟨b', 1, none⟩ = some (.int .i64 r.t) ∧ w'.cell? ⟨b', 2, none⟩ = some (.int .i64 r.k) ∧ w'.cell? ⟨b', 3, none⟩ = some (.int .i64 r.ep) ∧ w'.cell? ⟨b', 4, none⟩ = some (.int .i64 r.x) ∧ w'.cell? ⟨b', 5, none⟩ = some (.int .i64 r.y) ∧ w'.cell? ⟨b', 6, none⟩ = some (.int .i64 r.z) := by
  obtain ⟨a1, a2, a3, a4, a5, a6, a7⟩ := hs.later hg
  obtain ⟨b1, b2, b3, b4, b5, b6, b7⟩ := hr.later hg
  exact ⟨hg, a1, a2, a3, a4, a5, a6, a7, b1, b2, b3, b4, b5, b6, b7⟩

set_option maxHeartbeats 400000 in
theorem then_0 (s r : Sm) (w : World) (h1 : mayS s = false) :
    Calls Tryz.prog 82 #[.agg #[.int .i64 s.f, .int .i64 s.t, .int .i64 s.k, .int .i64 s.ep, .int .i64 s.x, .int .i64 s.y, .int .i64 s.z], .agg #[.int .i64 r.f, .int .i64 r.t, .int .i64 r.k, .int .i64 r.ep, .int .i64 r.x, .int .i64 r.y, .int .i64 r.z]] w fun e w' => e = .returned (.tuple #[.agg #[.int .i64 0, .int .i64 0, .int .i64 0, .int .i64 0, .int .i64 0, .int .i64 0, .int .i64 0], .int .i64 1]) ∧ Below w.heap.size w w' := by
  go_enter Tryz.func82, Tryz.ntmps82
  go_wp2_with fail
  refine (sMayP s h1 _).mono ?_
  rintro e w1 ⟨rfl, hb⟩
  obtain ⟨hc, hf⟩ := bcell hb
  go_wp2
  refine bodyPost_ret (v := .tuple #[.agg #[.int .i64 0, .int .i64 0, .int .i64 0, .int .i64 0, .int .i64 0, .int .i64 0, .int .i64 0], .int .i64 1]) (by simp [results, Tryz.results82, go_sem, hc]) rfl ⟨rfl, ?_⟩
  iterate 7 refine Below.setCell ?_ (by simp; try omega) _
  exact Grow.trans' (Grow.trans' (Grow.trans' (Grow.alloc' _ _) (Grow.alloc' _ _)) (Grow.alloc' _ _)) hb
set_option maxHeartbeats 400000 in
theorem then_1 (s r : Sm) (w : World) (h1 : Hid (mayS s = true)) (h2 : Hid (mayS r = false)) :
    Calls Tryz.prog 82 #[.agg #[.int .i64 s.f, .int .i64 s.t, .int .i64 s.k, .int .i64 s.ep, .int .i64 s.x, .int .i64 s.y, .int .i64 s.z], .agg #[.int .i64 r.f, .int .i64 r.t, .int .i64 r.k, .int .i64 r.ep, .int .i64 r.x, .int .i64 r.y, .int .i64 r.z]] w fun e w' => e = .returned (.tuple #[.agg #[.int .i64 0, .int .i64 0, .int .i64 0, .int .i64 0, .int .i64 0, .int .i64 0, .int .i64 0], .int .i64 1]) ∧ Below w.heap.size w w' := by
  go_enter Tryz.func82, Tryz.ntmps82
  go_wp2_with fail
  refine (sMayP s h1.out _).mono ?_
  rintro e w1 ⟨rfl, hb⟩
  obtain ⟨hc, hf⟩ := bcell hb
  go_wp2_with fail
  refine (sMayP r h2.out _).mono ?_
  rintro e w2 ⟨rfl, hb2⟩
  have hb := Grow.trans' hb hb2; clear hb2 hc hf; obtain ⟨hc, hf⟩ := bcell hb
  go_wp2
  refine bodyPost_ret (v := .tuple #[.agg #[.int .i64 0, .int .i64 0, .int .i64 0, .int .i64 0, .int .i64 0, .int .i64 0, .int .i64 0], .int .i64 1]) (by simp [results, Tryz.results82, go_sem, hc]) rfl ⟨rfl, ?_⟩
  iterate 7 refine Below.setCell ?_ (by simp; try omega) _
  exact Grow.trans' (Grow.trans' (Grow.trans' (Grow.alloc' _ _) (Grow.alloc' _ _)) (Grow.alloc' _ _)) hb
set_option maxHeartbeats 400000 in
theorem then_2 (s r : Sm) (w : World) (h1 : Hid (mayS s = true)) (h2 : Hid (mayS r = true)) (h3 : ¬ r.f = s.t) :
    Calls Tryz.prog 82 #[.agg #[.int .i64 s.f, .int .i64 s.t, .int .i64 s.k, .int .i64 s.ep, .int .i64 s.x, .int .i64 s.y, .int .i64 s.z], .agg #[.int .i64 r.f, .int .i64 r.t, .int .i64 r.k, .int .i64 r.ep, .int .i64 r.x, .int .i64 r.y, .int .i64 r.z]] w fun e w' => e = .returned (.tuple #[.agg #[.int .i64 0, .int .i64 0, .int .i64 0, .int .i64 0, .int .i64 0, .int .i64 0, .int .i64 0], .int .i64 1]) ∧ Below w.heap.size w w' := by
  go_enter Tryz.func82, Tryz.ntmps82
  go_wp2_with fail
  refine (sMayP s h1.out _).mono ?_
  rintro e w1 ⟨rfl, hb⟩
  obtain ⟨hc, hf⟩ := bcell hb
  go_wp2_with fail
  refine (sMayP r h2.out _).mono ?_
  rintro e w2 ⟨rfl, hb2⟩
  have hb := Grow.trans' hb hb2; clear hb2 hc hf; obtain ⟨hc, hf⟩ := bcell hb
  go_wp2
  refine bodyPost_ret (v := .tuple #[.agg #[.int .i64 0, .int .i64 0, .int .i64 0, .int .i64 0, .int .i64 0, .int .i64 0, .int .i64 0], .int .i64 1]) (by simp [results, Tryz.results82, go_sem, hc]) rfl ⟨rfl, ?_⟩
  iterate 7 refine Below.setCell ?_ (by simp; try omega) _
  exact Grow.trans' (Grow.trans' (Grow.trans' (Grow.alloc' _ _) (Grow.alloc' _ _)) (Grow.alloc' _ _)) hb
set_option maxHeartbeats 1000000 in
theorem then_3 (s : Sm) (rt rk rp rx ry rz : Int) (w : World) (h1 : Hid (mayS s = true)) (h2 : Hid (mayS (Sm.mk s.t rt rk rp rx ry rz) = true)) (h4 : Hid (mayS (rawS s (Sm.mk s.t rt rk rp rx ry rz)) = true)) :
    Calls Tryz.prog 82 #[.agg #[.int .i64 s.f, .int .i64 s.t, .int .i64 s.k, .int .i64 s.ep, .int .i64 s.x, .int .i64 s.y, .int .i64 s.z], .agg #[.int .i64 s.t, .int .i64 rt, .int .i64 rk, .int .i64 rp, .int .i64 rx, .int .i64 ry, .int .i64 rz]] w fun e w' => e = .returned (.tuple #[.agg #[.int .i64 (rawS s (Sm.mk s.t rt rk rp rx ry rz)).f, .int .i64 (rawS s (Sm.mk s.t rt rk rp rx ry rz)).t, .int .i64 (rawS s (Sm.mk s.t rt rk rp rx ry rz)).k, .int .i64 (rawS s (Sm.mk s.t rt rk rp rx ry rz)).ep, .int .i64 (rawS s (Sm.mk s.t rt rk rp rx ry rz)).x, .int .i64 (rawS s (Sm.mk s.t rt rk rp rx ry rz)).y, .int .i64 (rawS s (Sm.mk s.t rt rk rp rx ry rz)).z], .int .i64 0]) ∧ Below w.heap.size w w' := by
  obtain ⟨⟨a1, a2⟩, ⟨a3, a4⟩, ⟨a5, a6⟩, ⟨a7, a8⟩⟩ := mayS_small h1.out
  obtain ⟨⟨b1, b2⟩, ⟨b3, b4⟩, ⟨b5, b6⟩, ⟨b7, b8⟩⟩ := mayS_small h2.out
  dsimp only at b1 b2 b3 b4 b5 b6 b7 b8
  have we := wrap_small a1 a2 b1 b2 (Int.le_refl _)
  have wx := hide (wrap_small a3 a4 b3 b4 (Int.le_refl _))
  have wy := hide (wrap_small a5 a6 b5 b6 (Int.le_refl _))
  have wz := hide (wrap_small a7 a8 b7 b8 (Int.le_refl _))
  clear a1 a2 a3 a4 a5 a6 a7 a8 b1 b2 b3 b4 b5 b6 b7 b8
  go_enter Tryz.func82, Tryz.ntmps82
  go_wp2_with fail
  refine (sMayP s h1.out _).mono ?_
  rintro e w1 ⟨rfl, hb⟩
  obtain ⟨hc, hf⟩ := bcell hb
  go_wp2_with fail
  refine (sMayP (Sm.mk s.t rt rk rp rx ry rz) h2.out _).mono ?_
  rintro e w2 ⟨rfl, hb2⟩
  have hb := Grow.trans' hb hb2; clear hb2 hc hf; obtain ⟨hc, hf⟩ := bcell hb
  go_wp2_with fail
  have KS : Hid (SBox w2 w.heap.size s) := hide (by simp [SBox, hc, go_sem])
  have KR : Hid (SBox w2 (w.heap.size + 1) (Sm.mk s.t rt rk rp rx ry rz)) := hide (by simp [SBox, hc, go_sem])
  clear hc hf
  go_region_held3 (fun w' => Grow w2 w' ∧ w'.cell? ⟨w.heap.size, 0, none⟩ = some (.int .i64 s.f) ∧ w'.cell? ⟨w.heap.size, 1, none⟩ = some (.int .i64 s.t) ∧ w'.cell? ⟨w.heap.size, 2, none⟩ = some (.int .i64 s.k) ∧ w'.cell? ⟨w.heap.size, 3, none⟩ = some (.int .i64 s.ep) ∧ w'.cell? ⟨w.heap.size, 4, none⟩ = some (.int .i64 s.x) ∧ w'.cell? ⟨w.heap.size, 5, none⟩ = some (.int .i64 s.y) ∧ w'.cell? ⟨w.heap.size, 6, none⟩ = some (.int .i64 s.z) ∧ w'.cell? ⟨w.heap.size + 1, 0, none⟩ = some (.int .i64 s.t) ∧ w'.cell? ⟨w.heap.size + 1, 1, none⟩ = some (.int .i64 rt) ∧ w'.cell? ⟨w.heap.size + 1, 2, none⟩ = some (.int .i64 rk) ∧ w'.cell? ⟨w.heap.size + 1, 3, none⟩ = some (.int .i64 rp) ∧ w'.cell? ⟨w.heap.size + 1, 4, none⟩ = some (.int .i64 rx) ∧ w'.cell? ⟨w.heap.size + 1, 5, none⟩ = some (.int .i64 ry) ∧ w'.cell? ⟨w.heap.size + 1, 6, none⟩ = some (.int .i64 rz)) (first | (refine heldS KS.out KR.out ?_; simp only [growR, growA, growD]; done) | (refine heldS KS.out KR.out ?_; simp [growA, g3]; done) | (refine heldS KS.out KR.out ?_; exact (Below.setCell (Below.setCell (Below.setCell (Below.setCell (Below.setCell (Below.setCell (Below.setCell g3 (Nat.le_refl _) _) (Nat.le_refl _) _) (Nat.le_refl _) _) (Nat.le_refl _) _) (Nat.le_refl _) _) (Nat.le_refl _) _) (Nat.le_refl _) _))) (first | (go_at_call 94; refine (added_any (Sm.mk s.t rt rk rp rx ry rz) s.x s.y s.z _ h2.out wx.out wy.out wz.out).mono ?_; rintro e w3 ⟨rfl, hb3⟩; have g3 : Below w2.heap.size w2 w3 := Grow.trans' (by simp only [growR, growA, growD]) hb3; obtain ⟨hc3, hf3⟩ := bcell hb3))
  all_goals
    have hg := (‹Grow w2 _ ∧ _›).1
    have hb := Grow.trans' hb hg
    clear hg
    go_wp2_with fail
    refine (sMayP (rawS s (Sm.mk s.t rt rk rp rx ry rz)) h4.out _).mono ?_
    rintro e w5 ⟨rfl, hb5⟩
    first
      | (refine (fun KB : SBox w5 w3.heap.size (rawS s (Sm.mk s.t rt rk rp rx ry rz)) => ?_) (SBox.later hb5 ?_); rotate_left; focus (simp [SBox, go_sem, rawS]; done))
      | (refine (fun KB : SBox w5 w2.heap.size (rawS s (Sm.mk s.t rt rk rp rx ry rz)) => ?_) (SBox.later hb5 ?_); rotate_left; focus (simp [SBox, go_sem, rawS, hc3]; done))
    have hb := Grow.trans' hb hb5
    clear hb5 hb3 hc3 hf3 g3
    obtain ⟨k0, k1, k2, k3, k4, k5, k6⟩ := KB
    obtain ⟨hc, hf⟩ := bcell hb
    go_wp2
    refine bodyPost_ret (v := .tuple #[.agg #[.int .i64 (rawS s (Sm.mk s.t rt rk rp rx ry rz)).f, .int .i64 (rawS s (Sm.mk s.t rt rk rp rx ry rz)).t, .int .i64 (rawS s (Sm.mk s.t rt rk rp rx ry rz)).k, .int .i64 (rawS s (Sm.mk s.t rt rk rp rx ry rz)).ep, .int .i64 (rawS s (Sm.mk s.t rt rk rp rx ry rz)).x, .int .i64 (rawS s (Sm.mk s.t rt rk rp rx ry rz)).y, .int .i64 (rawS s (Sm.mk s.t rt rk rp rx ry rz)).z], .int .i64 0]) (by simp [results, Tryz.results82, go_sem, hc, rawS]) rfl ⟨rfl, ?_⟩
    iterate 7 refine Below.setCell ?_ (by simp; try omega) _
    exact Grow.trans' (Grow.trans' (Grow.trans' (Grow.alloc' _ _) (Grow.alloc' _ _)) (Grow.alloc' _ _)) hb
set_option maxHeartbeats 1000000 in
theorem then_4 (s : Sm) (rt rk rp rx ry rz : Int) (w : World) (h1 : Hid (mayS s = true)) (h2 : Hid (mayS (Sm.mk s.t rt rk rp rx ry rz) = true)) (h4 : Hid (mayS (rawS s (Sm.mk s.t rt rk rp rx ry rz)) = false)) :
    Calls Tryz.prog 82 #[.agg #[.int .i64 s.f, .int .i64 s.t, .int .i64 s.k, .int .i64 s.ep, .int .i64 s.x, .int .i64 s.y, .int .i64 s.z], .agg #[.int .i64 s.t, .int .i64 rt, .int .i64 rk, .int .i64 rp, .int .i64 rx, .int .i64 ry, .int .i64 rz]] w fun e w' => e = .returned (.tuple #[.agg #[.int .i64 0, .int .i64 0, .int .i64 0, .int .i64 0, .int .i64 0, .int .i64 0, .int .i64 0], .int .i64 4]) ∧ Below w.heap.size w w' := by
  obtain ⟨⟨a1, a2⟩, ⟨a3, a4⟩, ⟨a5, a6⟩, ⟨a7, a8⟩⟩ := mayS_small h1.out
  obtain ⟨⟨b1, b2⟩, ⟨b3, b4⟩, ⟨b5, b6⟩, ⟨b7, b8⟩⟩ := mayS_small h2.out
  dsimp only at b1 b2 b3 b4 b5 b6 b7 b8
  have we := wrap_small a1 a2 b1 b2 (Int.le_refl _)
  have wx := hide (wrap_small a3 a4 b3 b4 (Int.le_refl _))
  have wy := hide (wrap_small a5 a6 b5 b6 (Int.le_refl _))
  have wz := hide (wrap_small a7 a8 b7 b8 (Int.le_refl _))
  clear a1 a2 a3 a4 a5 a6 a7 a8 b1 b2 b3 b4 b5 b6 b7 b8
  go_enter Tryz.func82, Tryz.ntmps82
  go_wp2_with fail
  refine (sMayP s h1.out _).mono ?_
  rintro e w1 ⟨rfl, hb⟩
  obtain ⟨hc, hf⟩ := bcell hb
  go_wp2_with fail
  refine (sMayP (Sm.mk s.t rt rk rp rx ry rz) h2.out _).mono ?_
  rintro e w2 ⟨rfl, hb2⟩
  have hb := Grow.trans' hb hb2; clear hb2 hc hf; obtain ⟨hc, hf⟩ := bcell hb
  go_wp2_with fail
  have KS : Hid (SBox w2 w.heap.size s) := hide (by simp [SBox, hc, go_sem])
  have KR : Hid (SBox w2 (w.heap.size + 1) (Sm.mk s.t rt rk rp rx ry rz)) := hide (by simp [SBox, hc, go_sem])
  clear hc hf
  go_region_held3 (fun w' => Grow w2 w' ∧ w'.cell? ⟨w.heap.size, 0, none⟩ = some (.int .i64 s.f) ∧ w'.cell? ⟨w.heap.size, 1, none⟩ = some (.int .i64 s.t) ∧ w'.cell? ⟨w.heap.size, 2, none⟩ = some (.int .i64 s.k) ∧ w'.cell? ⟨w.heap.size, 3, none⟩ = some (.int .i64 s.ep) ∧ w'.cell? ⟨w.heap.size, 4, none⟩ = some (.int .i64 s.x) ∧ w'.cell? ⟨w.heap.size, 5, none⟩ = some (.int .i64 s.y) ∧ w'.cell? ⟨w.heap.size, 6, none⟩ = some (.int .i64 s.z) ∧ w'.cell? ⟨w.heap.size + 1, 0, none⟩ = some (.int .i64 s.t) ∧ w'.cell? ⟨w.heap.size + 1, 1, none⟩ = some (.int .i64 rt) ∧ w'.cell? ⟨w.heap.size + 1, 2, none⟩ = some (.int .i64 rk) ∧ w'.cell? ⟨w.heap.size + 1, 3, none⟩ = some (.int .i64 rp) ∧ w'.cell? ⟨w.heap.size + 1, 4, none⟩ = some (.int .i64 rx) ∧ w'.cell? ⟨w.heap.size + 1, 5, none⟩ = some (.int .i64 ry) ∧ w'.cell? ⟨w.heap.size + 1, 6, none⟩ = some (.int .i64 rz)) (first | (refine heldS KS.out KR.out ?_; simp only [growR, growA, growD]; done) | (refine heldS KS.out KR.out ?_; simp [growA, g3]; done) | (refine heldS KS.out KR.out ?_; exact (Below.setCell (Below.setCell (Below.setCell (Below.setCell (Below.setCell (Below.setCell (Below.setCell g3 (Nat.le_refl _) _) (Nat.le_refl _) _) (Nat.le_refl _) _) (Nat.le_refl _) _) (Nat.le_refl _) _) (Nat.le_refl _) _) (Nat.le_refl _) _))) (first | (go_at_call 94; refine (added_any (Sm.mk s.t rt rk rp rx ry rz) s.x s.y s.z _ h2.out wx.out wy.out wz.out).mono ?_; rintro e w3 ⟨rfl, hb3⟩; have g3 : Below w2.heap.size w2 w3 := Grow.trans' (by simp only [growR, growA, growD]) hb3; obtain ⟨hc3, hf3⟩ := bcell hb3))
  all_goals
    have hg := (‹Grow w2 _ ∧ _›).1
    have hb := Grow.trans' hb hg
    clear hg
    go_wp2_with fail
    refine (sMayP (rawS s (Sm.mk s.t rt rk rp rx ry rz)) h4.out _).mono ?_
    rintro e w5 ⟨rfl, hb5⟩
    first
      | (refine (fun KB : SBox w5 w3.heap.size (rawS s (Sm.mk s.t rt rk rp rx ry rz)) => ?_) (SBox.later hb5 ?_); rotate_left; focus (simp [SBox, go_sem, rawS]; done))
      | (refine (fun KB : SBox w5 w2.heap.size (rawS s (Sm.mk s.t rt rk rp rx ry rz)) => ?_) (SBox.later hb5 ?_); rotate_left; focus (simp [SBox, go_sem, rawS, hc3]; done))
    have hb := Grow.trans' hb hb5
    clear hb5 hb3 hc3 hf3 g3
    obtain ⟨k0, k1, k2, k3, k4, k5, k6⟩ := KB
    obtain ⟨hc, hf⟩ := bcell hb
    go_wp2
    refine bodyPost_ret (v := .tuple #[.agg #[.int .i64 0, .int .i64 0, .int .i64 0, .int .i64 0, .int .i64 0, .int .i64 0, .int .i64 0], .int .i64 4]) (by simp [results, Tryz.results82, go_sem, hc]) rfl ⟨rfl, ?_⟩
    iterate 7 refine Below.setCell ?_ (by simp; try omega) _
    exact Grow.trans' (Grow.trans' (Grow.trans' (Grow.alloc' _ _) (Grow.alloc' _ _)) (Grow.alloc' _ _)) hb

theorem then_any (s r : Sm) (w : World) :
    Calls Tryz.prog 82 #[.agg #[.int .i64 s.f, .int .i64 s.t, .int .i64 s.k, .int .i64 s.ep, .int .i64 s.x, .int .i64 s.y, .int .i64 s.z], .agg #[.int .i64 r.f, .int .i64 r.t, .int .i64 r.k, .int .i64 r.ep, .int .i64 r.x, .int .i64 r.y, .int .i64 r.z]] w fun e w' => e = .returned (.tuple #[.agg #[.int .i64 (thenS s r).f, .int .i64 (thenS s r).t, .int .i64 (thenS s r).k, .int .i64 (thenS s r).ep, .int .i64 (thenS s r).x, .int .i64 (thenS s r).y, .int .i64 (thenS s r).z], .int .i64 (thenE s r)]) ∧ Below w.heap.size w w' := by
  cases h1 : mayS s
  · have : thenE s r = 1 := by simp [thenE, fitS, h1]
    simpa [thenS, this] using then_0 s r w h1
  cases h2 : mayS r
  · have : thenE s r = 1 := by simp [thenE, fitS, h1, h2]
    simpa [thenS, this] using then_1 s r w h1 h2
  by_cases h3 : r.f = s.t
  · cases h4 : mayS (rawS s r)
    · have : thenE s r = 4 := by simp [thenE, fitS, h1, h2, h3, h4]
      obtain ⟨rf, rt, rk, rp, rx, ry, rz⟩ := r
      simp only at h3
      subst h3
      simpa [thenS, this] using then_4 s rt rk rp rx ry rz w h1 h2 h4
    · have : thenE s r = 0 := by simp [thenE, fitS, h1, h2, h3, h4]
      obtain ⟨rf, rt, rk, rp, rx, ry, rz⟩ := r
      simp only at h3
      subst h3
      simpa [thenS, this] using then_3 s rt rk rp rx ry rz w h1 h2 h4
  · have : thenE s r = 1 := by simp [thenE, fitS, h1, h2, Ne.symm h3]
    simpa [thenS, this] using then_2 s r w h1 h2 h3

end Go.Proofs.YtehianjfpmbfpaaGreat
