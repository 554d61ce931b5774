/-
  What Apply and Then do to the world: for every summary and time, and every two summaries, the answer and the error; what was there stays as it was.
-/
import Derived.Test.YtehianjfpmbfpaaGreatSAd
import Derived.Test.YtehianjfpmbfpaaGreatSBx
import Derived.Deep.RegionHeld3
namespace Go.Proofs.YtehianjfpmbfpaaGreat
open Go.RowKit
set_option linter.unusedVariables false
attribute [local go_sem ↓] run_minI

set_option maxHeartbeats 400000 in
theorem apply_0 (s : Sm) (t : Tm) (w : World) (h1 : mayS s = false) :
    Calls Tryz.prog 69 #[.agg #[.int .i64 s.f, .int .i64 s.t, .int .i64 s.k, .int .i64 s.ep, .int .i64 s.x, .int .i64 s.y, .int .i64 s.z], .agg #[.int .i64 t.e, .int .i64 t.d, .int .i64 t.x, .int .i64 t.y, .int .i64 t.z]] w fun e w' => e = .returned (.tuple #[.agg #[.int .i64 0, .int .i64 0, .int .i64 0, .int .i64 0, .int .i64 0], .int .i64 1]) ∧ Below w.heap.size w w' := by
  go_enter Tryz.func69, Tryz.ntmps69
  go_wp2_with fail
  refine (sMayP s h1 _).mono ?_
  rintro e w1 ⟨rfl, hb⟩
  obtain ⟨hc, hf⟩ := bcell hb
  go_wp2
  refine bodyPost_ret (v := .tuple #[.agg #[.int .i64 0, .int .i64 0, .int .i64 0, .int .i64 0, .int .i64 0], .int .i64 1]) (by simp [results, Tryz.results69, go_sem, hc]) rfl ⟨rfl, ?_⟩
  iterate 5 refine Below.setCell ?_ (by simp; try omega) _
  exact Grow.trans' (Grow.trans' (Grow.trans' (Grow.alloc' _ _) (Grow.alloc' _ _)) (Grow.alloc' _ _)) hb

set_option maxHeartbeats 400000 in
theorem apply_1 (s : Sm) (t : Tm) (w : World) (h1 : Hid (mayS s = true)) (h2 : Hid (mayB t = false)) :
    Calls Tryz.prog 69 #[.agg #[.int .i64 s.f, .int .i64 s.t, .int .i64 s.k, .int .i64 s.ep, .int .i64 s.x, .int .i64 s.y, .int .i64 s.z], .agg #[.int .i64 t.e, .int .i64 t.d, .int .i64 t.x, .int .i64 t.y, .int .i64 t.z]] w fun e w' => e = .returned (.tuple #[.agg #[.int .i64 0, .int .i64 0, .int .i64 0, .int .i64 0, .int .i64 0], .int .i64 1]) ∧ Below w.heap.size w w' := by
  go_enter Tryz.func69, Tryz.ntmps69
  go_wp2_with fail
  refine (sMayP s h1.out _).mono ?_
  rintro e w1 ⟨rfl, hb⟩
  obtain ⟨hc, hf⟩ := bcell hb
  go_wp2_with fail
  refine (mayP t h2.out _).mono ?_
  rintro e w2 ⟨rfl, hb2⟩
  have hb := Grow.trans' hb hb2; clear hb2 hc hf; obtain ⟨hc, hf⟩ := bcell hb
  go_wp2
  refine bodyPost_ret (v := .tuple #[.agg #[.int .i64 0, .int .i64 0, .int .i64 0, .int .i64 0, .int .i64 0], .int .i64 1]) (by simp [results, Tryz.results69, go_sem, hc]) rfl ⟨rfl, ?_⟩
  iterate 5 refine Below.setCell ?_ (by simp; try omega) _
  exact Grow.trans' (Grow.trans' (Grow.trans' (Grow.alloc' _ _) (Grow.alloc' _ _)) (Grow.alloc' _ _)) hb

set_option maxHeartbeats 400000 in
theorem apply_2 (s : Sm) (t : Tm) (w : World) (h1 : Hid (mayS s = true)) (h2 : Hid (mayB t = true)) (h3 : ¬ t.d = s.f) :
    Calls Tryz.prog 69 #[.agg #[.int .i64 s.f, .int .i64 s.t, .int .i64 s.k, .int .i64 s.ep, .int .i64 s.x, .int .i64 s.y, .int .i64 s.z], .agg #[.int .i64 t.e, .int .i64 t.d, .int .i64 t.x, .int .i64 t.y, .int .i64 t.z]] w fun e w' => e = .returned (.tuple #[.agg #[.int .i64 0, .int .i64 0, .int .i64 0, .int .i64 0, .int .i64 0], .int .i64 1]) ∧ Below w.heap.size w w' := by
  go_enter Tryz.func69, Tryz.ntmps69
  go_wp2_with fail
  refine (sMayP s h1.out _).mono ?_
  rintro e w1 ⟨rfl, hb⟩
  obtain ⟨hc, hf⟩ := bcell hb
  go_wp2_with fail
  refine (mayP t h2.out _).mono ?_
  rintro e w2 ⟨rfl, hb2⟩
  have hb := Grow.trans' hb hb2; clear hb2 hc hf; obtain ⟨hc, hf⟩ := bcell hb
  go_wp2
  refine bodyPost_ret (v := .tuple #[.agg #[.int .i64 0, .int .i64 0, .int .i64 0, .int .i64 0, .int .i64 0], .int .i64 1]) (by simp [results, Tryz.results69, go_sem, hc]) rfl ⟨rfl, ?_⟩
  iterate 5 refine Below.setCell ?_ (by simp; try omega) _
  exact Grow.trans' (Grow.trans' (Grow.trans' (Grow.alloc' _ _) (Grow.alloc' _ _)) (Grow.alloc' _ _)) hb

/-- The counters and the epoch do not go beyond an int. -/
theorem wrap_small {a b m : Int} (h0 : 0 ≤ a) (h1 : a ≤ m) (h2 : 0 ≤ b) (h3 : b ≤ m) (hm : m ≤ 1048576) : IntKind.i64.wrap (a + b) = a + b := by
  rw [IntKind.wrap_i64]; omega
theorem may_small {t : Tm} (h : mayB t = true) : (0 ≤ t.e ∧ t.e ≤ 1048576) ∧ (0 ≤ t.x ∧ t.x ≤ 1048576) ∧ (0 ≤ t.y ∧ t.y ≤ 1048576) ∧ (0 ≤ t.z ∧ t.z ≤ 1048576) := by
  obtain ⟨⟨h1, h2, _, _⟩, ⟨h3, h4, h5⟩, ⟨h6, h7, h8⟩, ⟨h9, h10, h11⟩⟩ := (may_iff' t).1 h
  refine ⟨⟨h1, h2⟩, ⟨h3, ?_⟩, ⟨h6, ?_⟩, ⟨h9, ?_⟩⟩
  · by_cases c : 0 < t.d
    · have := h4 c; omega
    · have := h5 (by omega); omega
  · by_cases c : 1 < t.d
    · have := h7 c; omega
    · have := h8 (by omega); omega
  · by_cases c : 2 < t.d
    · have := h10 c; omega
    · have := h11 (by omega); omega
theorem mayS_small {s : Sm} (h : mayS s = true) : (0 ≤ s.ep ∧ s.ep ≤ 1048576) ∧ (0 ≤ s.x ∧ s.x ≤ 1048576) ∧ (0 ≤ s.y ∧ s.y ≤ 1048576) ∧ (0 ≤ s.z ∧ s.z ≤ 1048576) := by
  obtain ⟨_, _, ⟨h1, h2⟩, ⟨h3, h4, h5⟩, ⟨h6, h7, h8⟩, ⟨h9, h10, h11⟩⟩ := (mayS_iff s).1 h
  refine ⟨⟨h1, h2⟩, ⟨h3, ?_⟩, ⟨h6, ?_⟩, ⟨h9, ?_⟩⟩
  · by_cases c : 0 < s.t
    · have := h4 c; omega
    · have := h5 (by omega); omega
  · by_cases c : 1 < s.t
    · have := h7 c; omega
    · have := h8 (by omega); omega
  · by_cases c : 2 < s.t
    · have := h10 c; omega
    · have := h11 (by omega); omega

theorem heldA {W w' : World} {b b' : Nat} {s : Sm} {te td tx ty tz : Int} (hs : SBox W b s) (ht : Box W b' ⟨te, td, tx, ty, tz⟩) (hg : Grow W w') :
    Grow W w' ∧ w'.cell? ⟨b, 0, none⟩ = some (.int .i64 s.f) ∧ w'.cell? ⟨b, 1, none⟩ = some (.int .i64 s.t) ∧ w'.cell? ⟨b, 2, none⟩ = some (.int .i64 s.k) ∧ w'.cell? ⟨b, 3, none⟩ = some (.int .i64 s.ep) ∧ w'.cell? ⟨b, 4, none⟩ = some (.int .i64 s.x) ∧ w'.cell? ⟨b, 5, none⟩ = some (.int .i64 s.y) ∧ w'.cell? ⟨b, 6, none⟩ = some (.int .i64 s.z) ∧ w'.cell? ⟨b', 0, none⟩ = some (.int .i64 te) ∧ w'.cell? ⟨b', 1, none⟩ = some (.int .i64 td) ∧ w'.cell? ⟨b', 2, none⟩ = some (.int .i64 tx) ∧ w'.cell? ⟨b', 3, none⟩ = some (.int .i64 ty) ∧ w'.cell? ⟨b', 4, none⟩ = some (.int .i64 tz) := by
  obtain ⟨a1, a2, a3, a4, a5, a6, a7⟩ := hs.later hg
  obtain ⟨b1, b2, b3, b4, b5⟩ := ht.later hg
  exact ⟨hg, a1, a2, a3, a4, a5, a6, a7, b1, b2, b3, b4, b5⟩
set_option maxHeartbeats 1000000 in
theorem apply_3 (s : Sm) (te tx ty tz : Int) (w : World) (h1 : Hid (mayS s = true)) (h2 : Hid (mayB (Tm.mk te s.f tx ty tz) = true)) (h4 : Hid (mayB (rawT s (Tm.mk te s.f tx ty tz)) = true)) :
    Calls Tryz.prog 69 #[.agg #[.int .i64 s.f, .int .i64 s.t, .int .i64 s.k, .int .i64 s.ep, .int .i64 s.x, .int .i64 s.y, .int .i64 s.z], .agg #[.int .i64 te, .int .i64 s.f, .int .i64 tx, .int .i64 ty, .int .i64 tz]] w fun e w' => e = .returned (.tuple #[.agg #[.int .i64 (rawT s (Tm.mk te s.f tx ty tz)).e, .int .i64 (rawT s (Tm.mk te s.f tx ty tz)).d, .int .i64 (rawT s (Tm.mk te s.f tx ty tz)).x, .int .i64 (rawT s (Tm.mk te s.f tx ty tz)).y, .int .i64 (rawT s (Tm.mk te s.f tx ty tz)).z], .int .i64 0]) ∧ Below w.heap.size w w' := by
  obtain ⟨⟨a1, a2⟩, ⟨a3, a4⟩, ⟨a5, a6⟩, ⟨a7, a8⟩⟩ := may_small h2.out
  obtain ⟨⟨b1, b2⟩, ⟨b3, b4⟩, ⟨b5, b6⟩, ⟨b7, b8⟩⟩ := mayS_small h1.out
  dsimp only at a1 a2 a3 a4 a5 a6 a7 a8
  have we := wrap_small a1 a2 b1 b2 (Int.le_refl _)
  have wx := hide (wrap_small a3 a4 b3 b4 (Int.le_refl _))
  have wy := hide (wrap_small a5 a6 b5 b6 (Int.le_refl _))
  have wz := hide (wrap_small a7 a8 b7 b8 (Int.le_refl _))
  clear a1 a2 a3 a4 a5 a6 a7 a8 b1 b2 b3 b4 b5 b6 b7 b8
  go_enter Tryz.func69, Tryz.ntmps69
  go_wp2_with fail
  refine (sMayP s h1.out _).mono ?_
  rintro e w1 ⟨rfl, hb⟩
  obtain ⟨hc, hf⟩ := bcell hb
  go_wp2_with fail
  refine (mayP (Tm.mk te s.f tx ty tz) h2.out _).mono ?_
  rintro e w2 ⟨rfl, hb2⟩
  have hb := Grow.trans' hb hb2; clear hb2 hc hf; obtain ⟨hc, hf⟩ := bcell hb
  go_wp2_with fail
  have KS : Hid (SBox w2 w.heap.size s) := hide (by simp [SBox, hc, go_sem])
  have KT : Hid (Box w2 (w.heap.size + 1) (Tm.mk te s.f tx ty tz)) := hide (by simp [Box, hc, go_sem])
  clear hc hf
  go_region_held3 (fun w' => Grow w2 w' ∧ w'.cell? ⟨w.heap.size, 0, none⟩ = some (.int .i64 s.f) ∧ w'.cell? ⟨w.heap.size, 1, none⟩ = some (.int .i64 s.t) ∧ w'.cell? ⟨w.heap.size, 2, none⟩ = some (.int .i64 s.k) ∧ w'.cell? ⟨w.heap.size, 3, none⟩ = some (.int .i64 s.ep) ∧ w'.cell? ⟨w.heap.size, 4, none⟩ = some (.int .i64 s.x) ∧ w'.cell? ⟨w.heap.size, 5, none⟩ = some (.int .i64 s.y) ∧ w'.cell? ⟨w.heap.size, 6, none⟩ = some (.int .i64 s.z) ∧ w'.cell? ⟨w.heap.size + 1, 0, none⟩ = some (.int .i64 te) ∧ w'.cell? ⟨w.heap.size + 1, 1, none⟩ = some (.int .i64 s.f) ∧ w'.cell? ⟨w.heap.size + 1, 2, none⟩ = some (.int .i64 tx) ∧ w'.cell? ⟨w.heap.size + 1, 3, none⟩ = some (.int .i64 ty) ∧ w'.cell? ⟨w.heap.size + 1, 4, none⟩ = some (.int .i64 tz)) (first | (refine heldA KS.out KT.out ?_; simp only [growR, growA, growD]; done) | (refine heldA KS.out KT.out ?_; simp [growA, g3]; done) | (refine heldA KS.out KT.out ?_; exact (Below.setCell (Below.setCell (Below.setCell (Below.setCell (Below.setCell g3 (Nat.le_refl _) _) (Nat.le_refl _) _) (Nat.le_refl _) _) (Nat.le_refl _) _) (Nat.le_refl _) _))) (first | (go_at_call 94; refine (added_any s tx ty tz _ h1.out wx.out wy.out wz.out).mono ?_; rintro e w3 ⟨rfl, hb3⟩; have g3 : Below w2.heap.size w2 w3 := Grow.trans' (by simp only [growR, growA, growD]) hb3; obtain ⟨hc3, hf3⟩ := bcell hb3))
  · have hg := (‹Grow w2 _ ∧ _›).1
    have hb := Grow.trans' hb hg
    clear hg
    go_wp2_with fail
    refine (mayP (rawT s (Tm.mk te s.f tx ty tz)) h4.out _).mono ?_
    rintro e w5 ⟨rfl, hb5⟩
    have KB : Box w5 w3.heap.size (rawT s (Tm.mk te s.f tx ty tz)) := Box.later hb5 (by simp [Box, go_sem, rawT])
    have hb := Grow.trans' hb hb5
    clear hb5 hb3 hc3 hf3 g3
    obtain ⟨k0, k1, k2, k3, k4⟩ := KB
    obtain ⟨hc, hf⟩ := bcell hb
    go_wp2
    refine bodyPost_ret (v := .tuple #[.agg #[.int .i64 (rawT s (Tm.mk te s.f tx ty tz)).e, .int .i64 (rawT s (Tm.mk te s.f tx ty tz)).d, .int .i64 (rawT s (Tm.mk te s.f tx ty tz)).x, .int .i64 (rawT s (Tm.mk te s.f tx ty tz)).y, .int .i64 (rawT s (Tm.mk te s.f tx ty tz)).z], .int .i64 0]) (by simp [results, Tryz.results69, go_sem, hc, rawT]) rfl ⟨rfl, ?_⟩
    iterate 5 refine Below.setCell ?_ (by simp; try omega) _
    exact Grow.trans' (Grow.trans' (Grow.trans' (Grow.alloc' _ _) (Grow.alloc' _ _)) (Grow.alloc' _ _)) hb
  · have hg := (‹Grow w2 _ ∧ _›).1
    have hb := Grow.trans' hb hg
    clear hg
    go_wp2_with fail
    refine (mayP (rawT s (Tm.mk te s.f tx ty tz)) h4.out _).mono ?_
    rintro e w5 ⟨rfl, hb5⟩
    have KB : Box w5 w2.heap.size (rawT s (Tm.mk te s.f tx ty tz)) := Box.later hb5 (by simp [Box, go_sem, rawT, hc3])
    have hb := Grow.trans' hb hb5
    clear hb5 hb3 hc3 hf3 g3
    obtain ⟨k0, k1, k2, k3, k4⟩ := KB
    obtain ⟨hc, hf⟩ := bcell hb
    go_wp2
    refine bodyPost_ret (v := .tuple #[.agg #[.int .i64 (rawT s (Tm.mk te s.f tx ty tz)).e, .int .i64 (rawT s (Tm.mk te s.f tx ty tz)).d, .int .i64 (rawT s (Tm.mk te s.f tx ty tz)).x, .int .i64 (rawT s (Tm.mk te s.f tx ty tz)).y, .int .i64 (rawT s (Tm.mk te s.f tx ty tz)).z], .int .i64 0]) (by simp [results, Tryz.results69, go_sem, hc, rawT]) rfl ⟨rfl, ?_⟩
    iterate 5 refine Below.setCell ?_ (by simp; try omega) _
    exact Grow.trans' (Grow.trans' (Grow.trans' (Grow.alloc' _ _) (Grow.alloc' _ _)) (Grow.alloc' _ _)) hb

set_option maxHeartbeats 1000000 in
theorem apply_4 (s : Sm) (te tx ty tz : Int) (w : World) (h1 : Hid (mayS s = true)) (h2 : Hid (mayB (Tm.mk te s.f tx ty tz) = true)) (h4 : Hid (mayB (rawT s (Tm.mk te s.f tx ty tz)) = false)) :
    Calls Tryz.prog 69 #[.agg #[.int .i64 s.f, .int .i64 s.t, .int .i64 s.k, .int .i64 s.ep, .int .i64 s.x, .int .i64 s.y, .int .i64 s.z], .agg #[.int .i64 te, .int .i64 s.f, .int .i64 tx, .int .i64 ty, .int .i64 tz]] w fun e w' => e = .returned (.tuple #[.agg #[.int .i64 0, .int .i64 0, .int .i64 0, .int .i64 0, .int .i64 0], .int .i64 4]) ∧ Below w.heap.size w w' := by
  obtain ⟨⟨a1, a2⟩, ⟨a3, a4⟩, ⟨a5, a6⟩, ⟨a7, a8⟩⟩ := may_small h2.out
  obtain ⟨⟨b1, b2⟩, ⟨b3, b4⟩, ⟨b5, b6⟩, ⟨b7, b8⟩⟩ := mayS_small h1.out
  dsimp only at a1 a2 a3 a4 a5 a6 a7 a8
  have we := wrap_small a1 a2 b1 b2 (Int.le_refl _)
  have wx := hide (wrap_small a3 a4 b3 b4 (Int.le_refl _))
  have wy := hide (wrap_small a5 a6 b5 b6 (Int.le_refl _))
  have wz := hide (wrap_small a7 a8 b7 b8 (Int.le_refl _))
  clear a1 a2 a3 a4 a5 a6 a7 a8 b1 b2 b3 b4 b5 b6 b7 b8
  go_enter Tryz.func69, Tryz.ntmps69
  go_wp2_with fail
  refine (sMayP s h1.out _).mono ?_
  rintro e w1 ⟨rfl, hb⟩
  obtain ⟨hc, hf⟩ := bcell hb
  go_wp2_with fail
  refine (mayP (Tm.mk te s.f tx ty tz) h2.out _).mono ?_
  rintro e w2 ⟨rfl, hb2⟩
  have hb := Grow.trans' hb hb2; clear hb2 hc hf; obtain ⟨hc, hf⟩ := bcell hb
  go_wp2_with fail
  have KS : Hid (SBox w2 w.heap.size s) := hide (by simp [SBox, hc, go_sem])
  have KT : Hid (Box w2 (w.heap.size + 1) (Tm.mk te s.f tx ty tz)) := hide (by simp [Box, hc, go_sem])
  clear hc hf
  go_region_held3 (fun w' => Grow w2 w' ∧ w'.cell? ⟨w.heap.size, 0, none⟩ = some (.int .i64 s.f) ∧ w'.cell? ⟨w.heap.size, 1, none⟩ = some (.int .i64 s.t) ∧ w'.cell? ⟨w.heap.size, 2, none⟩ = some (.int .i64 s.k) ∧ w'.cell? ⟨w.heap.size, 3, none⟩ = some (.int .i64 s.ep) ∧ w'.cell? ⟨w.heap.size, 4, none⟩ = some (.int .i64 s.x) ∧ w'.cell? ⟨w.heap.size, 5, none⟩ = some (.int .i64 s.y) ∧ w'.cell? ⟨w.heap.size, 6, none⟩ = some (.int .i64 s.z) ∧ w'.cell? ⟨w.heap.size + 1, 0, none⟩ = some (.int .i64 te) ∧ w'.cell? ⟨w.heap.size + 1, 1, none⟩ = some (.int .i64 s.f) ∧ w'.cell? ⟨w.heap.size + 1, 2, none⟩ = some (.int .i64 tx) ∧ w'.cell? ⟨w.heap.size + 1, 3, none⟩ = some (.int .i64 ty) ∧ w'.cell? ⟨w.heap.size + 1, 4, none⟩ = some (.int .i64 tz)) (first | (refine heldA KS.out KT.out ?_; simp only [growR, growA, growD]; done) | (refine heldA KS.out KT.out ?_; simp [growA, g3]; done) | (refine heldA KS.out KT.out ?_; exact (Below.setCell (Below.setCell (Below.setCell (Below.setCell (Below.setCell g3 (Nat.le_refl _) _) (Nat.le_refl _) _) (Nat.le_refl _) _) (Nat.le_refl _) _) (Nat.le_refl _) _))) (first | (go_at_call 94; refine (added_any s tx ty tz _ h1.out wx.out wy.out wz.out).mono ?_; rintro e w3 ⟨rfl, hb3⟩; have g3 : Below w2.heap.size w2 w3 := Grow.trans' (by simp only [growR, growA, growD]) hb3; obtain ⟨hc3, hf3⟩ := bcell hb3))
  · have hg := (‹Grow w2 _ ∧ _›).1
    have hb := Grow.trans' hb hg
    clear hg
    go_wp2_with fail
    refine (mayP (rawT s (Tm.mk te s.f tx ty tz)) h4.out _).mono ?_
    rintro e w5 ⟨rfl, hb5⟩
    have KB : Box w5 w3.heap.size (rawT s (Tm.mk te s.f tx ty tz)) := Box.later hb5 (by simp [Box, go_sem, rawT])
    have hb := Grow.trans' hb hb5
    clear hb5 hb3 hc3 hf3 g3
    obtain ⟨k0, k1, k2, k3, k4⟩ := KB
    obtain ⟨hc, hf⟩ := bcell hb
    go_wp2
    refine bodyPost_ret (v := .tuple #[.agg #[.int .i64 0, .int .i64 0, .int .i64 0, .int .i64 0, .int .i64 0], .int .i64 4]) (by simp [results, Tryz.results69, go_sem, hc]) rfl ⟨rfl, ?_⟩
    iterate 5 refine Below.setCell ?_ (by simp; try omega) _
    exact Grow.trans' (Grow.trans' (Grow.trans' (Grow.alloc' _ _) (Grow.alloc' _ _)) (Grow.alloc' _ _)) hb
  · have hg := (‹Grow w2 _ ∧ _›).1
    have hb := Grow.trans' hb hg
    clear hg
    go_wp2_with fail
    refine (mayP (rawT s (Tm.mk te s.f tx ty tz)) h4.out _).mono ?_
    rintro e w5 ⟨rfl, hb5⟩
    have KB : Box w5 w2.heap.size (rawT s (Tm.mk te s.f tx ty tz)) := Box.later hb5 (by simp [Box, go_sem, rawT, hc3])
    have hb := Grow.trans' hb hb5
    clear hb5 hb3 hc3 hf3 g3
    obtain ⟨k0, k1, k2, k3, k4⟩ := KB
    obtain ⟨hc, hf⟩ := bcell hb
    go_wp2
    refine bodyPost_ret (v := .tuple #[.agg #[.int .i64 0, .int .i64 0, .int .i64 0, .int .i64 0, .int .i64 0], .int .i64 4]) (by simp [results, Tryz.results69, go_sem, hc]) rfl ⟨rfl, ?_⟩
    iterate 5 refine Below.setCell ?_ (by simp; try omega) _
    exact Grow.trans' (Grow.trans' (Grow.trans' (Grow.alloc' _ _) (Grow.alloc' _ _)) (Grow.alloc' _ _)) hb

theorem apply_any (s : Sm) (t : Tm) (w : World) :
    Calls Tryz.prog 69 #[.agg #[.int .i64 s.f, .int .i64 s.t, .int .i64 s.k, .int .i64 s.ep, .int .i64 s.x, .int .i64 s.y, .int .i64 s.z], .agg #[.int .i64 t.e, .int .i64 t.d, .int .i64 t.x, .int .i64 t.y, .int .i64 t.z]] w fun e w' => e = .returned (.tuple #[.agg #[.int .i64 (applyT s t).e, .int .i64 (applyT s t).d, .int .i64 (applyT s t).x, .int .i64 (applyT s t).y, .int .i64 (applyT s t).z], .int .i64 (applyE s t)]) ∧ Below w.heap.size w w' := by
  cases h1 : mayS s
  · have : applyE s t = 1 := by simp [applyE, fitT, h1]
    simpa [applyT, this] using apply_0 s t w h1
  cases h2 : mayB t
  · have : applyE s t = 1 := by simp [applyE, fitT, h1, h2]
    simpa [applyT, this] using apply_1 s t w h1 h2
  by_cases h3 : t.d = s.f
  · cases h4 : mayB (rawT s t)
    · have : applyE s t = 4 := by simp [applyE, fitT, h1, h2, h3, h4]
      obtain ⟨te, td, tx, ty, tz⟩ := t
      simp only at h3
      subst h3
      simpa [applyT, this] using apply_4 s te tx ty tz w h1 h2 h4
    · have : applyE s t = 0 := by simp [applyE, fitT, h1, h2, h3, h4]
      obtain ⟨te, td, tx, ty, tz⟩ := t
      simp only at h3
      subst h3
      simpa [applyT, this] using apply_3 s te tx ty tz w h1 h2 h4
  · have : applyE s t = 1 := by simp [applyE, fitT, h1, h2, h3]
    simpa [applyT, this] using apply_2 s t w h1 h2 h3

end Go.Proofs.YtehianjfpmbfpaaGreat
