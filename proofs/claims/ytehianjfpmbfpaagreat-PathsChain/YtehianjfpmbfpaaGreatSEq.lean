/-
  What Go's == says of two summaries: for every two, whether all seven numbers are the same.
-/
import Derived.Test.YtehianjfpmbfpaaGreatEq
import Derived.Test.YtehianjfpmbfpaaGreatSBase
import Derived.Test.YtehianjfpmbfpaaGreatHSum
namespace Go.Proofs.YtehianjfpmbfpaaGreat
open Go.RowKit
attribute [local go_sem ↓] eqArr

set_option maxHeartbeats 1000000 in
theorem eqSm (a b : Sm) (w : World) : (Op.equalIn 10000 68 (.agg #[.int .i64 a.f, .int .i64 a.t, .int .i64 a.k, .int .i64 a.ep, .int .i64 a.x, .int .i64 a.y, .int .i64 a.z]) (.agg #[.int .i64 b.f, .int .i64 b.t, .int .i64 b.k, .int .i64 b.ep, .int .i64 b.x, .int .i64 b.y, .int .i64 b.z])).run Tryz.prog w = .ok (eqS a b) w := by
  have u3 := Tryz.underlying3
  have a3 := Tryz.isAgg3
  have z3 := Tryz.sizeOf3
  have a23 := Tryz.isAgg41
  have z23 := Tryz.sizeOf41
  have hS : Tryz.prog.underlying 68 = some (.struct (Tryz.prog.fieldsOf 68)) := by kernel_rfl
  rw [show (10000 : Nat) = 9999 + 1 from rfl, run_equalIn_agg w 9999 68 _ _ hS (by kernel_rfl)]
  simp only [Program.fieldsOf, Tryz.underlying68]
  go_simp
  unfold eqS
  by_cases h1 : a.f = b.f
  rotate_left
  · simp [h1]
  by_cases h2 : a.t = b.t
  rotate_left
  · simp [h1, h2]
  by_cases h3 : a.k = b.k
  rotate_left
  · simp [h1, h2, h3]
  by_cases h4 : a.ep = b.ep
  rotate_left
  · simp [h1, h2, h3, h4]
  by_cases h5 : a.x = b.x <;> by_cases h6 : a.y = b.y <;> by_cases h7 : a.z = b.z <;> simp [h1, h2, h3, h4, h5, h6, h7]

end Go.Proofs.YtehianjfpmbfpaaGreat
