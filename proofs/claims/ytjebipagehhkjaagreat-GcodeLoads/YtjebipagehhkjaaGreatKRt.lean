/-
  What the document's own number does to the world: the number of two bytes; what was there stays as it was.
-/
import Derived.Test.YtjebipagehhkjaaGreatKTa
namespace Go.Proofs.YtjebipagehhkjaaGreat
set_option maxRecDepth 100000
open Go.ChangeShapes Go.WideShapes Go.ChangeAt Go.RowKit Go.Deep Go.Sort
set_option linter.unusedVariables false
set_option linter.unusedSimpArgs false

set_option maxHeartbeats 2000000 in
theorem number_at (s : Option Addr) (n c : Nat) (d : List UInt8) (k : Nat) (w : World) (hI : IsBy w s n c d) (hk : k + 1 < n) (hn : n ≤ 100000) {z : Int} (hz : num (atB d k) (atB d (k + 1)) = z) :
    Calls Tryz.prog 15 #[.slice s n c, .int .i64 (k : Int)] w fun r w' => r = .returned (.int .i64 z) ∧ Grow w w' := by
  obtain ⟨bb, o, rfl, x0⟩ := hI.at k (by omega)
  obtain ⟨bb', o', e', x1⟩ := hI.at (k + 1) hk
  obtain ⟨rfl, rfl⟩ : bb = bb' ∧ o = o' := by simpa using e'
  obtain ⟨k1, hk1⟩ : ∃ k1, k1 = k + 1 := ⟨_, rfl⟩
  have q1 : wrap64 ((k : Int) + 1) = (k1 : Int) := by rw [IntWalk.wrap64_in _ (by omega), hk1]; omega
  obtain ⟨h1, h2⟩ := num_of (atB d k) (atB d (k + 1))
  have hu := toNat_u8 (atB d k)
  have hv := toNat_u8 (atB d (k + 1))
  rw [← hk1] at x1
  obtain ⟨u, hu'⟩ : ∃ u : Int, u = ((atB d k).toNat : Int) := ⟨_, rfl⟩
  obtain ⟨v, hv'⟩ : ∃ v : Int, v = ((atB d (k + 1)).toNat : Int) := ⟨_, rfl⟩
  rw [hz, ← hu', ← hv'] at h1 h2
  rw [hk1, ← hv', ← hk1] at x1
  rw [← hu'] at x0 hu
  rw [← hv'] at hv
  have H1 := hide h1
  have H2 := hide h2
  have b0 : (0 : Int) ≤ (k : Int) := by omega
  have b1 : (k : Int) < (n : Int) := by omega
  have b2 : (0 : Int) ≤ (k1 : Int) := by omega
  have b3 : (k1 : Int) < (n : Int) := by omega
  have u0 := hu.1
  have u1 := hu.2
  have v0 := hv.1
  have v1 := hv.2
  clear h1 h2 hI hk hn hk1 hu' hv' hu hv e' hz
  by_cases hx : 256 * u + v > 32767
  · have E := hide (H2.out hx)
    go_enter Tryz.func15, Tryz.ntmps15
    go_wp2_with fail
    go_quiet (fail)
    have HG := hide (below_drewN (Below.refl w.heap.size w) nq)
    generalize w.drewN nq = wz at *
    go_wp2_with fail
    go_ret
    exact ⟨ret_int E.out.symm, HG.out⟩
  · have E := hide (H1.out hx)
    go_enter Tryz.func15, Tryz.ntmps15
    go_wp2_with fail
    go_quiet (fail)
    have HG := hide (below_drewN (Below.refl w.heap.size w) nq)
    generalize w.drewN nq = wz at *
    go_wp2_with fail
    go_ret
    exact ⟨ret_int E.out.symm, HG.out⟩
end Go.Proofs.YtjebipagehhkjaaGreat
