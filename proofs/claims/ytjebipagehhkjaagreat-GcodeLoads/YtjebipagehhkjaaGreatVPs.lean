/-
  What the closure of valid.hasUnfedWay (may a way go through a node?) does to the world: it returns its plain answer, and what was there stays as it was.
-/
import Derived.Test.YtjebipagehhkjaaGreatVSm
namespace Go.Proofs.YtjebipagehhkjaaGreat
set_option maxRecDepth 100000
open Go.RowKit Go.Sort
set_option linter.unusedVariables false
set_option linter.unusedSimpArgs false

set_option maxHeartbeats 2000000 in
theorem pass_raw (gs : Option Addr) (gn gc : Nat) (gt : Option Addr) (gm gq : Nat) (N : List Nd) (t : Nat) (own : Int) (bg bo : Nat) {r : Bool} (hr : okT N own t = r) (w : World) (ht : t < N.length) (hG : BoxG w bg ⟨gs, gn, gc, gt, gm, gq, [], []⟩) (ho : w.cell? ⟨bo, 0, none⟩ = some (.int .i64 own)) (hg : IsNds w gs gn gc N) :
    Calls Tryz.prog 84 #[.int .i64 (t : Int), .pointer (some ⟨bg, 0, none⟩), .pointer (some ⟨bo, 0, none⟩)] w fun e w' => e = .returned (.bool r) ∧ Grow w w' := by
  have hkd := ht
  have hne : ¬ N = [] := fun h => by rw [h] at hkd; simp at hkd
  obtain ⟨b, o, rfl, hr1⟩ := hg.2.2.resolve_left hne
  obtain ⟨p0, p1, p2, p3⟩ := hr1.at t hkd
  rw [← nth_get N t hkd] at p0 p1 p2 p3
  have hi1 : (0 : Int) ≤ (t : Int) := by omega
  have hi2 : (t : Int) < (gn : Int) := by rw [hg.1] at hkd; omega
  unfold okT at hr
  obtain ⟨x, hx⟩ : ∃ x, x = nth N t := ⟨_, rfl⟩
  rw [← hx] at p0 p1 p2 p3 hr
  obtain ⟨xk, xa, xb, xd⟩ := x
  dsimp only at p0 p1 p2 p3 hr
  obtain ⟨z, hz⟩ : ∃ z, lowP ⟨xk, xa, xb, xd⟩ = z := ⟨_, rfl⟩
  have C1 := hide (fun w => low_at xk xa xb xd hz w)
  rw [hz] at hr
  have HR := hide hr
  obtain ⟨g0, g1⟩ := hG
  dsimp only at g0 g1
  have HO := hide ho
  clear hx hz hne hr1 hkd ht hg hr ho
  go_enter Tryz.func84, Tryz.ntmps84
  go_wp2_with (refine wpList_putN rfl _ _ rfl w.heap.size ⟨xk, xa, xb, xd⟩ rfl rfl (BlkN.new w) w (Grow.alloc' _ _) (Nat.le_refl _) ?_)
  intro w0 hg2 hb2
  have G0 := hide hg2
  obtain ⟨k0, k1, k2, k3⟩ := hb2
  dsimp only at k0 k1 k2 k3
  have o0 := cell_later hg2 HO.out
  clear p0 p1 p2 p3 g0 g1 hg2 HO
  generalize w.heap.size = P at *
  go_wp2_with fail
  have s0 := cell_regrown k0
  have s1 := cell_regrown k1
  have s2 := cell_regrown k2
  have s3 := cell_regrown k3
  have so := cell_regrown o0
  have Q1 := hide (fun dd os => Calls.regrown_of (C1.out (grow (redrawn w0 dd) os)))
  cases h1 : decide (own ≤ z)
  · have HE : Hid (r = false) := hide (by rw [← HR.out]; simp at h1; simp [h1])
    refine wp_region_quiet_below (by kernel_rfl) (by kernel_rfl) ?_
    repeat (go_big_quiet_step ((go_at_call 83; exact Q1.out _ _)))
    refine wpQuiet_nil ?_
    intro _ hw'
    obtain ⟨⟨dq, osq⟩, hw''⟩ := hw'
    subst hw''
    have G2 := hide (Grow.trans' G0.out (below_regrown w0 dq osq))
    clear s0 s1 s2 s3 k0 k1 k2 k3 o0 so
    go_wp2_with fail
    go_ret
    exact ⟨ret_bool (by rw [HE.out]), G2.out⟩
  cases h2 : (xk == 10)
  · have HE : Hid (r = true) := hide (by rw [← HR.out]; simp at h1 h2; simp [h2]; omega)
    refine wp_region_quiet_below (by kernel_rfl) (by kernel_rfl) ?_
    repeat (go_big_quiet_step ((go_at_call 83; exact Q1.out _ _)))
    refine wpQuiet_nil ?_
    intro _ hw'
    obtain ⟨⟨dq, osq⟩, hw''⟩ := hw'
    subst hw''
    have G2 := hide (Grow.trans' G0.out (below_regrown w0 dq osq))
    clear s0 s1 s2 s3 k0 k1 k2 k3 o0 so
    go_wp2_with fail
    go_ret
    exact ⟨ret_bool (by rw [HE.out]), G2.out⟩
  have HE : Hid (r = !(xd == own)) := hide (by
    rw [← HR.out]
    simp at h1 h2
    have h3 : ¬ z < own := by omega
    simp [h2, h3]; rfl)
  refine wp_region_quiet_below (by kernel_rfl) (by kernel_rfl) ?_
  repeat (go_big_quiet_step ((go_at_call 83; exact Q1.out _ _)))
  refine wpQuiet_nil ?_
  intro _ hw'
  obtain ⟨⟨dq, osq⟩, hw''⟩ := hw'
  subst hw''
  have G2 := hide (Grow.trans' G0.out (below_regrown w0 dq osq))
  clear s0 s1 s2 s3 k0 k1 k2 k3 o0 so
  go_wp2_with fail
  go_ret
  exact ⟨ret_bool (by rw [HE.out]), G2.out⟩

end Go.Proofs.YtjebipagehhkjaaGreat
