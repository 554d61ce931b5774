/-
  What Go's == says of two times: for every two, whether all five numbers are the same.
-/
import Derived.Test.YtehianjfpmbfpaaGreatBase
namespace Go.Proofs.YtehianjfpmbfpaaGreat
open Go.RowKit

def eqB (a b : Tm) : Bool := a.e == b.e && a.d == b.d && a.x == b.x && a.y == b.y && a.z == b.z

theorem eqArr (a b c a' b' c' : Int) (w : World) : (Op.equalIn 9999 41 (.agg #[.int .i64 a, .int .i64 b, .int .i64 c]) (.agg #[.int .i64 a', .int .i64 b', .int .i64 c'])).run Tryz.prog w = .ok (a == a' && b == b' && c == c') w := by
  have u3 := Tryz.underlying3
  have a3 := Tryz.isAgg3
  have z3 := Tryz.sizeOf3
  rw [show (9999 : Nat) = 9998 + 1 from rfl, Op.equalIn]
  simp only [Sem.run_bind, run_underlying Tryz.underlying41, Result.andThen_ok]
  simp only [Std.Legacy.Range.forIn_eq_forIn_range', Std.Legacy.Range.size, Nat.sub_zero, Nat.add_sub_cancel, Nat.div_one, List.range'_succ, List.range'_zero, List.forIn_cons, List.forIn_nil]
  go_simp
  by_cases h1 : a = a' <;> by_cases h2 : b = b' <;> by_cases h3 : c = c' <;> simp [h1, h2, h3]

attribute [local go_sem ↓] eqArr
theorem eqTm (a b : Tm) (w : World) : (Op.equalIn 10000 43 (.agg #[.int .i64 a.e, .int .i64 a.d, .int .i64 a.x, .int .i64 a.y, .int .i64 a.z]) (.agg #[.int .i64 b.e, .int .i64 b.d, .int .i64 b.x, .int .i64 b.y, .int .i64 b.z])).run Tryz.prog w = .ok (eqB a b) w := by
  have u3 := Tryz.underlying3
  have a3 := Tryz.isAgg3
  have z3 := Tryz.sizeOf3
  have a23 := Tryz.isAgg41
  have z23 := Tryz.sizeOf41
  have hS : Tryz.prog.underlying 43 = some (.struct (Tryz.prog.fieldsOf 43)) := by kernel_rfl
  rw [show (10000 : Nat) = 9999 + 1 from rfl, run_equalIn_agg w 9999 43 _ _ hS (by kernel_rfl)]
  simp only [Program.fieldsOf, Tryz.underlying43]
  go_simp
  unfold eqB
  by_cases h1 : a.e = b.e <;> by_cases h2 : a.d = b.d <;> by_cases h3 : a.x = b.x <;> by_cases h4 : a.y = b.y <;> by_cases h5 : a.z = b.z <;> simp [h1, h2, h3, h4, h5]

end Go.Proofs.YtehianjfpmbfpaaGreat
