/-
  What valid's small functions do to the world: begin, end, isEdge, needsRoute, low, and the document's own low; each returns its plain answer, and what was there stays as it was.
-/
import Derived.Test.YtjebipagehhkjaaGreatVPl
import Derived.Test.YtjebipagehhkjaaGreatHIs
import Derived.Test.YtjebipagehhkjaaGreatHNx
namespace Go.Proofs.YtjebipagehhkjaaGreat
set_option maxRecDepth 100000
open Go.RowKit Go.Sort
set_option linter.unusedVariables false
set_option linter.unusedSimpArgs false
attribute [local go_sem ↓] eqLc run_minI

theorem vbegin_any (x : Ed) (w : World) :
    Calls Tryz.prog 53 #[.agg #[.int .i64 x.f, .int .i64 x.t, .int .i64 x.p]] w fun e w' => e = .returned (.agg #[.int .i64 (⟨x.f, -1⟩ : Lc).n, .int .i64 (⟨x.f, -1⟩ : Lc).p]) ∧ Grow w w' := by
  have G0 : Hid (Grow w ((w.alloc (.cells #[.int .i64 x.f, .int .i64 x.t, .int .i64 x.p] 39)).alloc (.cells #[.int .i64 0, .int .i64 0] 72))) := hide (Grow.trans' (Grow.alloc' _ _) (Grow.alloc' _ _))
  have hz : (w.alloc (.cells #[.int .i64 x.f, .int .i64 x.t, .int .i64 x.p] 39)).heap.size = w.heap.size + 1 := by simp
  have KR : Hid (BlkL ((w.alloc (.cells #[.int .i64 x.f, .int .i64 x.t, .int .i64 x.p] 39)).alloc (.cells #[.int .i64 0, .int .i64 0] 72)) (w.heap.size + 1)) := hide (by rw [← hz]; exact BlkL.new _)
  clear hz
  go_enter Tryz.func53, Tryz.ntmps53
  go_wp2_with (refine wpList_storeL rfl _ _ rfl (w.heap.size + 1) ⟨x.f, -1⟩ rfl rfl KR.out ?_)
  exact bodyPost_ret (resultsL (fn := Tryz.f53) (i := 2) rfl _ _ (b := w.heap.size + 1) (t := ⟨x.f, -1⟩) rfl (KR.out.box ⟨x.f, -1⟩)) rfl ⟨rfl, grow_setRow G0.out (Nat.le_succ _) _⟩
theorem vend_any (x : Ed) (w : World) :
    Calls Tryz.prog 54 #[.agg #[.int .i64 x.f, .int .i64 x.t, .int .i64 x.p]] w fun e w' => e = .returned (.agg #[.int .i64 (⟨x.t, x.p⟩ : Lc).n, .int .i64 (⟨x.t, x.p⟩ : Lc).p]) ∧ Grow w w' := by
  have G0 : Hid (Grow w ((w.alloc (.cells #[.int .i64 x.f, .int .i64 x.t, .int .i64 x.p] 39)).alloc (.cells #[.int .i64 0, .int .i64 0] 72))) := hide (Grow.trans' (Grow.alloc' _ _) (Grow.alloc' _ _))
  have hz : (w.alloc (.cells #[.int .i64 x.f, .int .i64 x.t, .int .i64 x.p] 39)).heap.size = w.heap.size + 1 := by simp
  have KR : Hid (BlkL ((w.alloc (.cells #[.int .i64 x.f, .int .i64 x.t, .int .i64 x.p] 39)).alloc (.cells #[.int .i64 0, .int .i64 0] 72)) (w.heap.size + 1)) := hide (by rw [← hz]; exact BlkL.new _)
  clear hz
  go_enter Tryz.func54, Tryz.ntmps54
  go_wp2_with (refine wpList_storeL rfl _ _ rfl (w.heap.size + 1) ⟨x.t, x.p⟩ rfl rfl KR.out ?_)
  exact bodyPost_ret (resultsL (fn := Tryz.f54) (i := 2) rfl _ _ (b := w.heap.size + 1) (t := ⟨x.t, x.p⟩) rfl (KR.out.box ⟨x.t, x.p⟩)) rfl ⟨rfl, grow_setRow G0.out (Nat.le_succ _) _⟩
theorem needs_at (k a b d : Int) {p : Bool} (hp : (decide (k = 6) || decide (k = 7)) = p) (w : World) :
    Calls Tryz.prog 62 #[.agg #[.int .i64 k, .int .i64 a, .int .i64 b, .int .i64 d]] w fun e w' => e = .returned (.bool p) ∧ Grow w w' := by
  subst hp
  by_cases h : k = 6
  all_goals
    go_enter Tryz.func62, Tryz.ntmps62
    go_wp2_with fail
    go_ret
    exact ⟨ret_bool (by simp [*]), Grow.alloc' _ _⟩
set_option maxHeartbeats 1000000 in
theorem low_at (k a b d : Int) {z : Int} (hz : lowP ⟨k, a, b, d⟩ = z) (w : World) :
    Calls Tryz.prog 83 #[.agg #[.int .i64 k, .int .i64 a, .int .i64 b, .int .i64 d]] w fun e w' => e = .returned (.int .i64 z) ∧ Grow w w' := by
  obtain ⟨i, hi⟩ : ∃ i, inDP ⟨k, a, b, d⟩ = i := ⟨_, rfl⟩
  have HZ : Hid (minI i d = z) := hide (by rw [← hz, ← hi]; rfl)
  have C1 := hide (fun w => inD_at k a b d hi w)
  clear hz hi
  have GG : Hid (Grow w (w.alloc (.cells #[.int .i64 k, .int .i64 a, .int .i64 b, .int .i64 d] 37))) := hide (Grow.alloc' _ _)
  have KN : Hid (BoxN (w.alloc (.cells #[.int .i64 k, .int .i64 a, .int .i64 b, .int .i64 d] 37)) w.heap.size ⟨k, a, b, d⟩) := hide (BoxN.new w ⟨k, a, b, d⟩)
  go_enter Tryz.func83, Tryz.ntmps83
  go_wp2_with fail
  generalize w.alloc (.cells #[.int .i64 k, .int .i64 a, .int .i64 b, .int .i64 d] 37) = w0 at *
  generalize w.heap.size = P at *
  obtain ⟨k0, k1, k2, k3⟩ := KN.out
  dsimp only at k0 k1 k2 k3
  have s0 := cell_regrown k0
  have s1 := cell_regrown k1
  have s2 := cell_regrown k2
  have s3 := cell_regrown k3
  have Q1 := hide (fun dd os => Calls.regrown_of (C1.out (grow (redrawn w0 dd) os)))
  refine wp_region_quiet_below (by kernel_rfl) (by kernel_rfl) ?_
  repeat (go_big_quiet_step ((go_at_call 75; exact Q1.out _ _)))
  refine wpQuiet_nil ?_
  intro _ hw'
  obtain ⟨⟨dq, osq⟩, hw''⟩ := hw'
  subst hw''
  have G2 := hide (Grow.trans' GG.out (below_regrown w0 dq osq))
  clear s0 s1 s2 s3 k0 k1 k2 k3
  go_wp2_with fail
  go_ret
  exact ⟨ret_int HZ.out, G2.out⟩
set_option maxHeartbeats 1000000 in
theorem rlow_at (k a b d : Int) {z : Int} (hz : lowP ⟨k, a, b, d⟩ = z) (w : World) :
    Calls Tryz.prog 38 #[.agg #[.int .i64 k, .int .i64 a, .int .i64 b, .int .i64 d]] w fun e w' => e = .returned (.int .i64 z) ∧ Grow w w' := by
  obtain ⟨i, hi⟩ : ∃ i, inDP ⟨k, a, b, d⟩ = i := ⟨_, rfl⟩
  have HZ : Hid (minI i d = z) := hide (by rw [← hz, ← hi]; rfl)
  have C1 := hide (fun w => rinD_at k a b d hi w)
  clear hz hi
  have GG : Hid (Grow w (w.alloc (.cells #[.int .i64 k, .int .i64 a, .int .i64 b, .int .i64 d] 37))) := hide (Grow.alloc' _ _)
  have KN : Hid (BoxN (w.alloc (.cells #[.int .i64 k, .int .i64 a, .int .i64 b, .int .i64 d] 37)) w.heap.size ⟨k, a, b, d⟩) := hide (BoxN.new w ⟨k, a, b, d⟩)
  go_enter Tryz.func38, Tryz.ntmps38
  go_wp2_with fail
  generalize w.alloc (.cells #[.int .i64 k, .int .i64 a, .int .i64 b, .int .i64 d] 37) = w0 at *
  generalize w.heap.size = P at *
  obtain ⟨k0, k1, k2, k3⟩ := KN.out
  dsimp only at k0 k1 k2 k3
  have s0 := cell_regrown k0
  have s1 := cell_regrown k1
  have s2 := cell_regrown k2
  have s3 := cell_regrown k3
  have Q1 := hide (fun dd os => Calls.regrown_of (C1.out (grow (redrawn w0 dd) os)))
  refine wp_region_quiet_below (by kernel_rfl) (by kernel_rfl) ?_
  repeat (go_big_quiet_step ((go_at_call 35; exact Q1.out _ _)))
  refine wpQuiet_nil ?_
  intro _ hw'
  obtain ⟨⟨dq, osq⟩, hw''⟩ := hw'
  subst hw''
  have G2 := hide (Grow.trans' GG.out (below_regrown w0 dq osq))
  clear s0 s1 s2 s3 k0 k1 k2 k3
  go_wp2_with fail
  go_ret
  exact ⟨ret_int HZ.out, G2.out⟩
set_option maxHeartbeats 2000000 in
theorem isEdge_raw (gs : Option Addr) (gn gc : Nat) (gt : Option Addr) (gm gq : Nat) (N : List Nd) (x : Ed) {r : Bool} (hr : edgeB N x = r) (w : World) (hn : gn ≤ 20) (hg : IsNds w gs gn gc N) :
    Calls Tryz.prog 49 #[.agg #[.slice gs gn gc, .slice gt gm gq], .agg #[.int .i64 x.f, .int .i64 x.t, .int .i64 x.p]] w fun e w' => e = .returned (.bool r) ∧ Grow w w' := by
  have GG : Hid (Grow w ((w.alloc (.cells #[.slice gs gn gc, .slice gt gm gq] 27)).alloc (.cells #[.int .i64 x.f, .int .i64 x.t, .int .i64 x.p] 39))) := hide (Grow.trans' (Grow.alloc' _ _) (Grow.alloc' _ _))
  have KG : Hid (BoxG ((w.alloc (.cells #[.slice gs gn gc, .slice gt gm gq] 27)).alloc (.cells #[.int .i64 x.f, .int .i64 x.t, .int .i64 x.p] 39)) w.heap.size ⟨gs, gn, gc, gt, gm, gq, [], []⟩) := hide ((BoxG.new w ⟨gs, gn, gc, gt, gm, gq, [], []⟩).later (Grow.alloc' _ _))
  have hz1 : (w.alloc (.cells #[.slice gs gn gc, .slice gt gm gq] 27)).heap.size = w.heap.size + 1 := by simp
  have KE : Hid (BoxE ((w.alloc (.cells #[.slice gs gn gc, .slice gt gm gq] 27)).alloc (.cells #[.int .i64 x.f, .int .i64 x.t, .int .i64 x.p] 39)) (w.heap.size + 1) x) := hide (by rw [← hz1]; exact BoxE.new _ x)
  have HI := hide (hg.later GG.out)
  clear hg hz1
  subst hr
  unfold edgeB
  obtain ⟨a, ha⟩ : ∃ a, isP N ⟨x.f, -1⟩ = a := ⟨_, rfl⟩
  obtain ⟨b, hb⟩ : ∃ b, isP N ⟨x.t, x.p⟩ = b := ⟨_, rfl⟩
  have C1 := hide (fun w h => is_raw gs gn gc gt gm gq N x.f (-1) w (by omega) h)
  have C2 := hide (fun w h => is_raw gs gn gc gt gm gq N x.t x.p w (by omega) h)
  rw [ha] at C1
  rw [hb] at C2
  rw [ha, hb]
  clear ha hb
  obtain ⟨xf, xt, xp⟩ := x
  dsimp only at GG KG KE HI C1 C2 ⊢
  have D1 := hide (fun w => vbegin_any ⟨xf, xt, xp⟩ w)
  have D2 := hide (fun w => vend_any ⟨xf, xt, xp⟩ w)
  dsimp only at D1 D2
  cases a <;> cases b
  all_goals
    go_enter Tryz.func49, Tryz.ntmps49
    go_wp2_with fail
    generalize (w.alloc (.cells #[.slice gs gn gc, .slice gt gm gq] 27)).alloc (.cells #[.int .i64 xf, .int .i64 xt, .int .i64 xp] 39) = w0 at *
    generalize w.heap.size = P at *
    obtain ⟨g0, g1⟩ := KG.out
    obtain ⟨k0, k1, k2⟩ := KE.out
    dsimp only at g0 g1 k0 k1 k2
    have sg0 := cell_regrown g0
    have sg1 := cell_regrown g1
    have s0 := cell_regrown k0
    have s1 := cell_regrown k1
    have s2 := cell_regrown k2
    have Q1 := hide (fun dd os => Calls.regrown_of (C1.out (grow (redrawn w0 dd) os) (HI.out.later (below_regrown w0 dd os))))
    have Q2 := hide (fun dd os => Calls.regrown_of (C2.out (grow (redrawn w0 dd) os) (HI.out.later (below_regrown w0 dd os))))
    have Q3 := hide (fun dd os => Calls.regrown_of (D1.out (grow (redrawn w0 dd) os)))
    have Q4 := hide (fun dd os => Calls.regrown_of (D2.out (grow (redrawn w0 dd) os)))
    refine wp_region_quiet_below (by kernel_rfl) (by kernel_rfl) ?_
    repeat (go_big_quiet_step (first | (go_at_call 74; first | with_reducible exact Q1.out _ _ | with_reducible exact Q2.out _ _) | (go_at_call 53; exact Q3.out _ _) | (go_at_call 54; exact Q4.out _ _)))
    refine wpQuiet_nil ?_
    intro _ hw'
    obtain ⟨⟨dq, osq⟩, hw''⟩ := hw'
    subst hw''
    have G2 := hide (Grow.trans' GG.out (below_regrown w0 dq osq))
    clear sg0 sg1 s0 s1 s2 g0 g1 k0 k1 k2
    go_wp2_with fail
    go_ret
    exact ⟨ret_bool (by simp), G2.out⟩

end Go.Proofs.YtjebipagehhkjaaGreat
