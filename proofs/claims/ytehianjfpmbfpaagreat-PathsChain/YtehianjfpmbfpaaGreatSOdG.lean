/-
  What summary.Order does to the world, said for the library's sort: it draws and lays blocks behind the world, and nothing else.
-/
import Derived.Test.YtehianjfpmbfpaaGreatSOd
import Derived.Test.YtehianjfpmbfpaaGreatOdG
namespace Go.Proofs.YtehianjfpmbfpaaGreat
open Go.RowKit Go.Sort
set_option linter.unusedVariables false

/-- The world has grown, and has drawn no less. -/
def Gro (w w' : World) : Prop := Below w.heap.size w w' ∧ w.drawn ≤ w'.drawn
theorem groR (a : World) : Gro a a := ⟨Below.refl _ _, Nat.le_refl _⟩
theorem groA {a w : World} (o : Obj) (h : Gro a w) : Gro a (w.alloc o) := ⟨growA o h.1, h.2⟩
theorem groD {a w : World} (h : Gro a w) : Gro a w.drew := ⟨growD h.1, Nat.le_succ_of_le h.2⟩
theorem groN {a w : World} (n : Nat) (h : Gro a w) : Gro a (w.drewN n) := ⟨below_drewN h.1 n, Nat.le_trans h.2 (Nat.le_add_right _ _)⟩
theorem setCell_drawn (w : World) (a : Addr) (v : Value) : (w.setCell a v).drawn = w.drawn := rfl
theorem groS {a w : World} (b o : Nat) (v : Value) (h : Gro a w) (hp : a.heap.size ≤ b) : Gro a (w.setCell ⟨b, o, none⟩ v) := ⟨growS b o v h.1 hp, by rw [setCell_drawn]; exact h.2⟩
theorem Gro.trans {a b c : World} (h : Gro a b) (k : Gro b c) : Gro a c := ⟨Grow.trans' h.1 k.1, Nat.le_trans h.2 k.2⟩
theorem Gro.size {a b : World} (h : Gro a b) : a.heap.size ≤ b.heap.size := h.1.size
theorem Gro.below {a b : World} (h : Gro a b) : Below a.heap.size a b := h.1
theorem Gro.growD {w w' : World} (h : Gro w w') : GrowD w w' := by
  obtain ⟨⟨h1, h2, h3, h4, h5⟩, h6⟩ := h
  refine ⟨w'.drawn - w.drawn, w'.heap.extract w.heap.size w'.heap.size, ?_⟩
  obtain ⟨H, T, D, O, U⟩ := w
  obtain ⟨H', T', D', O', U'⟩ := w'
  simp only at h1 h2 h3 h4 h5 h6
  subst h1 h2 h3
  simp only [grow, World.drewN, World.mk.injEq, and_true, true_and]
  refine ⟨?_, by omega⟩
  apply Array.ext_getElem?
  intro i
  by_cases hi : i < H.size
  · rw [Array.getElem?_append_left hi]; exact h5 i hi
  · rw [Array.getElem?_append_right (by omega), Array.getElem?_extract]
    by_cases hj : i < H'.size
    · rw [if_pos (by omega), show H.size + (i - H.size) = i by omega]
    · rw [if_neg (by omega), Array.getElem?_eq_none (by omega)]

set_option maxHeartbeats 2000000 in
theorem cmpSlices_gro (s r : Sm) (b c : Nat) (w : World) (hs : SBox w b s) (hr : SBox w c r) :
    Calls Tryz.prog 136 #[.slice (some ⟨b, 0, none⟩) 7 7, .slice (some ⟨c, 0, none⟩) 7 7] w fun e w' => e = .returned (.int .i64 (orderS s r)) ∧ Gro w w' := by
  obtain ⟨k0, k1, k2, k3, k4, k5, k6⟩ := hs
  obtain ⟨l0, l1, l2, l3, l4, l5, l6⟩ := hr
  obtain ⟨sf, st, sk, sp, sx, sy, sz⟩ := s
  obtain ⟨rf, rt, rk, rp, rx, ry, rz⟩ := r
  dsimp only at k0 k1 k2 k3 k4 k5 k6 l0 l1 l2 l3 l4 l5 l6
  go_enter Tryz.func136, Tryz.ntmps136
  go_wp2_with (go_at_call 111; refine (cmpInt_any _ _ _).mono ?_; rintro e w' ⟨rfl, rfl⟩)
  repeat any_goals (first | (refine wp_loop_rounds 8 ?_; rw [rounds_succ]; go_wp2_with (go_at_call 111; refine (cmpInt_any _ _ _).mono ?_; rintro e w' ⟨rfl, rfl⟩)) | (rw [rounds_succ]; go_wp2_with (go_at_call 111; refine (cmpInt_any _ _ _).mono ?_; rintro e w' ⟨rfl, rfl⟩)) | (go_quiet ((go_at_call 111; refine (cmpInt_any _ _ _).mono ?_; rintro e w' ⟨rfl, rfl⟩; exact ⟨rfl, _, rfl⟩)); go_wp2_with (go_at_call 111; refine (cmpInt_any _ _ _).mono ?_; rintro e w' ⟨rfl, rfl⟩)))
  all_goals go_ret
  all_goals refine ⟨ret_int ?_, ?_⟩
  all_goals clear k0 k1 k2 k3 k4 k5 k6 l0 l1 l2 l3 l4 l5 l6
  all_goals simp at *
  all_goals first | (simp [orderS, *]; done) | (repeat (first | exact groR _ | apply groN))

set_option maxHeartbeats 1000000 in
theorem numbers_gro (s : Sm) (w : World) :
    Calls Tryz.prog 135 #[.agg #[.int .i64 s.f, .int .i64 s.t, .int .i64 s.k, .int .i64 s.ep, .int .i64 s.x, .int .i64 s.y, .int .i64 s.z]] w fun e w' => e = .returned (.agg #[.int .i64 s.f, .int .i64 s.t, .int .i64 s.k, .int .i64 s.ep, .int .i64 s.x, .int .i64 s.y, .int .i64 s.z]) ∧ Gro w w' := by
  go_enter Tryz.func135, Tryz.ntmps135
  go_wp2
  repeat any_goals (go_region; try go_wp2)
  all_goals refine bodyPost_ret (v := .agg #[.int .i64 s.f, .int .i64 s.t, .int .i64 s.k, .int .i64 s.ep, .int .i64 s.x, .int .i64 s.y, .int .i64 s.z]) (by simp [results, Tryz.results135, go_sem]) rfl ⟨rfl, ?_⟩
  all_goals (repeat (first | exact groR _ | apply groN | apply groD | refine groA _ ?_))

theorem heldG {W w' : World} {b b' : Nat} {s r : Sm} (hs : SBox W b s) (hr : SBox W b' r) (hg : Gro W w') :
    Gro W w' ∧ w'.cell? ⟨b, 0, none⟩ = some (.int .i64 s.f) ∧ w'.cell? ⟨b, 1, none⟩ = some (.int .i64 s.t) ∧ w'.cell? ⟨b, 2, none⟩ = some (.int .i64 s.k) ∧ w'.cell? ⟨b, 3, none⟩ = some (.int .i64 s.ep) ∧ w'.cell? ⟨b, 4, none⟩ = some (.int .i64 s.x) ∧ w'.cell? ⟨b, 5, none⟩ = some (.int .i64 s.y) ∧ w'.cell? ⟨b, 6, none⟩ = some (.int .i64 s.z) ∧ w'.cell? ⟨b', 0, none⟩ = some (.int .i64 r.f) ∧ w'.cell? ⟨b', 1, none⟩ = some (.int .i64 r.t) ∧ w'.cell? ⟨b', 2, none⟩ = some (.int .i64 r.k) ∧ w'.cell? ⟨b', 3, none⟩ = some (.int .i64 r.ep) ∧ w'.cell? ⟨b', 4, none⟩ = some (.int .i64 r.x) ∧ w'.cell? ⟨b', 5, none⟩ = some (.int .i64 r.y) ∧ w'.cell? ⟨b', 6, none⟩ = some (.int .i64 r.z) := by
  obtain ⟨a1, a2, a3, a4, a5, a6, a7⟩ := hs.later hg.1
  obtain ⟨b1, b2, b3, b4, b5, b6, b7⟩ := hr.later hg.1
  exact ⟨hg, a1, a2, a3, a4, a5, a6, a7, b1, b2, b3, b4, b5, b6, b7⟩

set_option maxHeartbeats 4000000 in
theorem orderS_grow (s r : Sm) (w : World) :
    Calls Tryz.prog 120 #[.agg #[.int .i64 s.f, .int .i64 s.t, .int .i64 s.k, .int .i64 s.ep, .int .i64 s.x, .int .i64 s.y, .int .i64 s.z], .agg #[.int .i64 r.f, .int .i64 r.t, .int .i64 r.k, .int .i64 r.ep, .int .i64 r.x, .int .i64 r.y, .int .i64 r.z]] w fun e w' => e = .returned (.int .i64 (orderS s r)) ∧ GrowD w w' := by
  go_enter Tryz.func120, Tryz.ntmps120
  go_wp2_with fail
  generalize hw0 : (w.alloc (.cells #[.int .i64 s.f, .int .i64 s.t, .int .i64 s.k, .int .i64 s.ep, .int .i64 s.x, .int .i64 s.y, .int .i64 s.z] 68)).alloc (.cells #[.int .i64 r.f, .int .i64 r.t, .int .i64 r.k, .int .i64 r.ep, .int .i64 r.x, .int .i64 r.y, .int .i64 r.z] 68) = w0
  have KS : Hid (SBox w0 w.heap.size s) := hide (by rw [← hw0]; simp [SBox, go_sem])
  have KR : Hid (SBox w0 (w.heap.size + 1) r) := hide (by rw [← hw0]; simp [SBox, go_sem])
  have G0 : Hid (Gro w w0) := hide (by rw [← hw0]; exact groA _ (groA _ (groR _)))
  clear hw0
  go_region_held3 (fun w' => Gro w0 w' ∧ w'.cell? ⟨w.heap.size, 0, none⟩ = some (.int .i64 s.f) ∧ w'.cell? ⟨w.heap.size, 1, none⟩ = some (.int .i64 s.t) ∧ w'.cell? ⟨w.heap.size, 2, none⟩ = some (.int .i64 s.k) ∧ w'.cell? ⟨w.heap.size, 3, none⟩ = some (.int .i64 s.ep) ∧ w'.cell? ⟨w.heap.size, 4, none⟩ = some (.int .i64 s.x) ∧ w'.cell? ⟨w.heap.size, 5, none⟩ = some (.int .i64 s.y) ∧ w'.cell? ⟨w.heap.size, 6, none⟩ = some (.int .i64 s.z) ∧ w'.cell? ⟨w.heap.size + 1, 0, none⟩ = some (.int .i64 r.f) ∧ w'.cell? ⟨w.heap.size + 1, 1, none⟩ = some (.int .i64 r.t) ∧ w'.cell? ⟨w.heap.size + 1, 2, none⟩ = some (.int .i64 r.k) ∧ w'.cell? ⟨w.heap.size + 1, 3, none⟩ = some (.int .i64 r.ep) ∧ w'.cell? ⟨w.heap.size + 1, 4, none⟩ = some (.int .i64 r.x) ∧ w'.cell? ⟨w.heap.size + 1, 5, none⟩ = some (.int .i64 r.y) ∧ w'.cell? ⟨w.heap.size + 1, 6, none⟩ = some (.int .i64 r.z)) (first | (refine heldG KS.out KR.out ?_; simp (maxDischargeDepth := 30) [groR, groA, groD]; done) | (refine heldG KS.out KR.out ?_; simp (maxDischargeDepth := 30) [groA, g3]; done) | (refine heldG KS.out KR.out ?_; simp (maxDischargeDepth := 30) [groA, groS, z3, x3, g4]; done)) (first | (go_at_call 135; with_reducible show Calls _ _ #[.agg #[.int .i64 s.f, .int .i64 s.t, .int .i64 s.k, .int .i64 s.ep, .int .i64 s.x, .int .i64 s.y, .int .i64 s.z]] _ _; refine (numbers_gro s _).mono ?_; rintro e w3 ⟨rfl, hb3⟩; have gH := (‹Gro w0 _ ∧ _›).1; have g3 : Gro w0 w3 := Gro.trans gH hb3; clear gH; have z3 := Gro.size g3; have x3 := Nat.le_succ_of_le z3; have y3 := Gro.size hb3; (try simp at y3); (try (refine (fun u0 : w0.heap.size < w3.heap.size => ?_) ?_; rotate_left; focus omega)); (try (refine (fun u1 : w0.heap.size + 1 < w3.heap.size => ?_) ?_; rotate_left; focus omega)); obtain ⟨hc3, hf3⟩ := bcell (Gro.below hb3)) | (go_at_call 135; with_reducible show Calls _ _ #[.agg #[.int .i64 r.f, .int .i64 r.t, .int .i64 r.k, .int .i64 r.ep, .int .i64 r.x, .int .i64 r.y, .int .i64 r.z]] _ _; refine (numbers_gro r _).mono ?_; rintro e w4 ⟨rfl, hb4⟩; have gH := (‹Gro w0 _ ∧ _›).1; have g4 : Gro w0 w4 := Gro.trans gH hb4; clear gH; have z4 := Gro.size g4; have y4 := Gro.size hb4; (try simp at y4); (try (refine (fun v0 : w0.heap.size < w4.heap.size => ?_) ?_; rotate_left; focus omega)); (try (refine (fun v1 : w0.heap.size + 1 < w4.heap.size => ?_) ?_; rotate_left; focus omega)); (try (refine (fun v2 : w3.heap.size < w4.heap.size => ?_) ?_; rotate_left; focus omega)); (try (refine (fun v3 : w3.heap.size + 1 < w4.heap.size => ?_) ?_; rotate_left; focus omega)); obtain ⟨hc4, hf4⟩ := bcell (Gro.below hb4)))
  all_goals
    have hg := hide (‹Gro w0 _ ∧ _›).1
    go_wp2_with fail
    go_region_held3 (fun _ => True) (trivial) (first | (go_at_call 136; refine (cmpSlices_gro s r _ _ _ ?_ ?_).mono ?_; (focus (simp (maxDischargeDepth := 30) [SBox, go_sem, *]; done)); (focus (simp (maxDischargeDepth := 30) [SBox, go_sem, *]; done)); rintro e w5 ⟨rfl, hb5⟩))
    go_wp2_with fail
    go_ret
    exact ⟨rfl, Gro.growD (Gro.trans (groD (Gro.trans G0.out hg.out)) hb5)⟩

end Go.Proofs.YtehianjfpmbfpaaGreat
