/-
  What valid's small functions do to the world: begin, end, isEdge, needsRoute, low, and the document's own low; each returns its plain answer, and what was there stays as it was.
-/
import Derived.Test.YtehianjfpmbfpaaGreatVPl
import Derived.Test.YtehianjfpmbfpaaGreatHIs
import Derived.Test.YtehianjfpmbfpaaGreatHNx
namespace Go.Proofs.YtehianjfpmbfpaaGreat
set_option maxRecDepth 100000
open Go.RowKit Go.Sort
set_option linter.unusedVariables false
set_option linter.unusedSimpArgs false
attribute [local go_sem ↓] eqLc run_minI

set_option maxHeartbeats 1000000 in
theorem rlow_at (k a b d : Int) {z : Int} (hz : lowP ⟨k, a, b, d⟩ = z) (w : World) :
    Calls Tryz.prog 77 #[.agg #[.int .i64 k, .int .i64 a, .int .i64 b, .int .i64 d]] w fun e w' => e = .returned (.int .i64 z) ∧ Grow w w' := by
  obtain ⟨i, hi⟩ : ∃ i, inDP ⟨k, a, b, d⟩ = i := ⟨_, rfl⟩
  have HZ : Hid (minI i d = z) := hide (by rw [← hz, ← hi]; rfl)
  have C1 := hide (fun w => rinD_at k a b d hi w)
  clear hz hi
  have GG : Hid (Grow w (w.alloc (.cells #[.int .i64 k, .int .i64 a, .int .i64 b, .int .i64 d] 63))) := hide (Grow.alloc' _ _)
  have KN : Hid (BoxN (w.alloc (.cells #[.int .i64 k, .int .i64 a, .int .i64 b, .int .i64 d] 63)) w.heap.size ⟨k, a, b, d⟩) := hide (BoxN.new w ⟨k, a, b, d⟩)
  go_enter Tryz.func77, Tryz.ntmps77
  go_wp2_with fail
  generalize w.alloc (.cells #[.int .i64 k, .int .i64 a, .int .i64 b, .int .i64 d] 63) = w0 at *
  generalize w.heap.size = P at *
  obtain ⟨k0, k1, k2, k3⟩ := KN.out
  dsimp only at k0 k1 k2 k3
  have s0 := cell_regrown k0
  have s1 := cell_regrown k1
  have s2 := cell_regrown k2
  have s3 := cell_regrown k3
  have Q1 := hide (fun dd os => Calls.regrown_of (C1.out (grow (redrawn w0 dd) os)))
  refine wp_region_quiet_below (by kernel_rfl) (by kernel_rfl) ?_
  repeat (go_big_quiet_step ((go_at_call 42; exact Q1.out _ _)))
  refine wpQuiet_nil ?_
  intro _ hw'
  obtain ⟨⟨dq, osq⟩, hw''⟩ := hw'
  subst hw''
  have G2 := hide (Grow.trans' GG.out (below_regrown w0 dq osq))
  clear s0 s1 s2 s3 k0 k1 k2 k3
  go_wp2_with fail
  go_ret
  exact ⟨ret_int HZ.out, G2.out⟩
end Go.Proofs.YtehianjfpmbfpaaGreat
