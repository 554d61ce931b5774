/-
  The document's own May, LessEq, Order of times and of summaries, with the answer named.
-/
import Derived.Test.YtpkhmhigoafklaaChF
import Derived.Test.YtpkhmhigoafklaaLe
import Derived.Test.YtpkhmhigoafklaaMy
import Derived.Test.YtpkhmhigoafklaaOd
namespace Go.Proofs.Ytpkhmhigoafklaa
open Go.RowKit
set_option linter.unusedVariables false

theorem refMayT_at (x : Tm) {p : Bool} (h : kinT.may x = p) (w : World) : Calls Try.prog 20 #[.agg #[.int .i64 x.e, .int .i64 x.d, .int .i64 x.x, .int .i64 x.y, .int .i64 x.z]] w fun e w' => e = .returned (.bool p) ∧ Grow w w' := by
  rw [← h]; exact refMay_any x w
theorem refLeT_at (x y : Tm) {p : Bool} (h : kinT.le x y = p) (w : World) : Calls Try.prog 43 #[.agg #[.int .i64 x.e, .int .i64 x.d, .int .i64 x.x, .int .i64 x.y, .int .i64 x.z], .agg #[.int .i64 y.e, .int .i64 y.d, .int .i64 y.x, .int .i64 y.y, .int .i64 y.z]] w fun e w' => e = .returned (.bool p) ∧ Grow w w' := by
  rw [← h]; exact refLessEq_any x y w
theorem refOrderT_at (x y : Tm) {r : Int} (h : kinT.ord x y = r) (w : World) : Calls Try.prog 29 #[.agg #[.int .i64 x.e, .int .i64 x.d, .int .i64 x.x, .int .i64 x.y, .int .i64 x.z], .agg #[.int .i64 y.e, .int .i64 y.d, .int .i64 y.x, .int .i64 y.y, .int .i64 y.z]] w fun e w' => e = .returned (.int .i64 r) ∧ Grow w w' := by
  rw [← h]; exact refOrder_any x y w
theorem refOrderT_neg (x y : Tm) (h : kinT.ord x y < 0) (w : World) : Calls Try.prog 29 #[.agg #[.int .i64 x.e, .int .i64 x.d, .int .i64 x.x, .int .i64 x.y, .int .i64 x.z], .agg #[.int .i64 y.e, .int .i64 y.d, .int .i64 y.x, .int .i64 y.y, .int .i64 y.z]] w fun e w' => e = .returned (.int .i64 (-1)) ∧ Grow w w' :=
  refOrderT_at x y (orderI_neg x y h) w

end Go.Proofs.Ytpkhmhigoafklaa
