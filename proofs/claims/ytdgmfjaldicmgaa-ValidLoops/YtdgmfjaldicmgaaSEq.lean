/-
  What Go's == says of two summaries: for every two, whether all seven numbers are the same.
-/
import Derived.Test.YtdgmfjaldicmgaaEq
import Derived.Test.YtdgmfjaldicmgaaHSum
namespace Go.Proofs.Ytdgmfjaldicmgaa
open Go.RowKit
attribute [local go_sem ↓] eqArr

set_option maxHeartbeats 1000000 in
theorem eqSm (a b : Sm) (w : World) : (Op.equalIn 10000 37 (.agg #[.int .i64 a.f, .int .i64 a.t, .int .i64 a.k, .int .i64 a.ep, .int .i64 a.x, .int .i64 a.y, .int .i64 a.z]) (.agg #[.int .i64 b.f, .int .i64 b.t, .int .i64 b.k, .int .i64 b.ep, .int .i64 b.x, .int .i64 b.y, .int .i64 b.z])).run Try.prog w = .ok (eqS a b) w := by
  have u3 := Try.underlying3
  have a3 := Try.isAgg3
  have z3 := Try.sizeOf3
  have a23 := Try.isAgg35
  have z23 := Try.sizeOf35
  have hS : Try.prog.underlying 37 = some (.struct (Try.prog.fieldsOf 37)) := by kernel_rfl
  rw [show (10000 : Nat) = 9999 + 1 from rfl, run_equalIn_agg w 9999 37 _ _ hS (by kernel_rfl)]
  simp only [Program.fieldsOf, Try.underlying37]
  go_simp
  unfold eqS
  by_cases h1 : a.f = b.f
  rotate_left
  · simp [h1]
  by_cases h2 : a.t = b.t
  rotate_left
  · simp [h1, h2]
  by_cases h3 : a.k = b.k
  rotate_left
  · simp [h1, h2, h3]
  by_cases h4 : a.ep = b.ep
  rotate_left
  · simp [h1, h2, h3, h4]
  by_cases h5 : a.x = b.x <;> by_cases h6 : a.y = b.y <;> by_cases h7 : a.z = b.z <;> simp [h1, h2, h3, h4, h5, h6, h7]

end Go.Proofs.Ytdgmfjaldicmgaa
