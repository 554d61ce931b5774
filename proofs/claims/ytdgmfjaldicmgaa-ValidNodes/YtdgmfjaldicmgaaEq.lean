/-
  What Go's == says of two times: for every two, whether all five numbers are the same.
-/
import Derived.Test.YtdgmfjaldicmgaaBase
namespace Go.Proofs.Ytdgmfjaldicmgaa
open Go.RowKit

def eqB (a b : Tm) : Bool := a.e == b.e && a.d == b.d && a.x == b.x && a.y == b.y && a.z == b.z

theorem eqArr (a b c a' b' c' : Int) (w : World) : (Op.equalIn 9999 35 (.agg #[.int .i64 a, .int .i64 b, .int .i64 c]) (.agg #[.int .i64 a', .int .i64 b', .int .i64 c'])).run Try.prog w = .ok (a == a' && b == b' && c == c') w := by
  have u3 := Try.underlying3
  have a3 := Try.isAgg3
  have z3 := Try.sizeOf3
  rw [show (9999 : Nat) = 9998 + 1 from rfl, Op.equalIn]
  simp only [Sem.run_bind, run_underlying Try.underlying35, Result.andThen_ok]
  simp only [Std.Legacy.Range.forIn_eq_forIn_range', Std.Legacy.Range.size, Nat.sub_zero, Nat.add_sub_cancel, Nat.div_one, List.range'_succ, List.range'_zero, List.forIn_cons, List.forIn_nil]
  go_simp
  by_cases h1 : a = a' <;> by_cases h2 : b = b' <;> by_cases h3 : c = c' <;> simp [h1, h2, h3]


end Go.Proofs.Ytdgmfjaldicmgaa
