/-
  What ts.Less and the document's own Less do to the world.
-/
import Derived.Test.YtehianjfpmbfpaaGreatLe
namespace Go.Proofs.YtehianjfpmbfpaaGreat
open Go.RowKit


set_option maxHeartbeats 400000 in
theorem refLess_any (a b : Tm) (w : World) :
    Calls Tryz.prog 49 #[.agg #[.int .i64 a.e, .int .i64 a.d, .int .i64 a.x, .int .i64 a.y, .int .i64 a.z], .agg #[.int .i64 b.e, .int .i64 b.d, .int .i64 b.x, .int .i64 b.y, .int .i64 b.z]] w fun e w' => e = .returned (.bool (lessB a b)) ∧ Below w.heap.size w w' := by
  have k1 := refLessEq_any a b
  have k2 := refLessEq_any b a
  unfold lessB
  generalize leB a b = p at *
  generalize leB b a = q at *
  have K1 := hide k1
  have K2 := hide k2
  clear k1 k2
  cases p <;> cases q
  all_goals
    go_enter Tryz.func49, Tryz.ntmps49
    go_wp2_with fail
    refine (K1.out _).mono ?_
    rintro e w1 ⟨rfl, hb⟩
    obtain ⟨hc, hf⟩ := bcell hb
    go_wp2_with fail
    refine (K2.out _).mono ?_
    rintro e w2 ⟨rfl, hb2⟩
    go_wp2
    go_ret
    exact ⟨rfl, below2 hb hb2⟩

end Go.Proofs.YtehianjfpmbfpaaGreat
