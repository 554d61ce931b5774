/-
  What ts.Less and the document's own Less do to the world.
-/
import Derived.Test.YtbohgfcndclbjabLe
namespace Go.Proofs.Ytbohgfcndclbjab
open Go.RowKit

set_option maxHeartbeats 400000 in
theorem less_any (a b : Tm) (w : World) :
    Calls Try.prog 11 #[.agg #[.int .i64 a.e, .int .i64 a.d, .int .i64 a.x, .int .i64 a.y, .int .i64 a.z], .agg #[.int .i64 b.e, .int .i64 b.d, .int .i64 b.x, .int .i64 b.y, .int .i64 b.z]] w fun e w' => e = .returned (.bool (lessB a b)) ∧ Below w.heap.size w w' := by
  have k1 := lessEq_any a b
  have k2 := lessEq_any b a
  unfold lessB
  generalize leB a b = p at *
  generalize leB b a = q at *
  have K1 := hide k1
  have K2 := hide k2
  clear k1 k2
  cases p
  · go_enter Try.func11, Try.ntmps11
    go_wp2_with fail
    refine (K1.out _).mono ?_
    rintro e w1 ⟨rfl, hb⟩
    obtain ⟨hc, hf⟩ := bcell hb
    go_wp2
    go_ret
    exact ⟨rfl, below1 hb⟩
  · go_enter Try.func11, Try.ntmps11
    go_wp2_with fail
    refine (K1.out _).mono ?_
    rintro e w1 ⟨rfl, hb⟩
    obtain ⟨hc, hf⟩ := bcell hb
    go_wp2_with fail
    refine (K2.out _).mono ?_
    rintro e w2 ⟨rfl, hb2⟩
    go_wp2
    go_ret
    exact ⟨by simp, below2 hb hb2⟩


end Go.Proofs.Ytbohgfcndclbjab
