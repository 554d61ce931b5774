/-
  The document's own May, LessEq, Order of times and of summaries, with the answer named.
-/
import Derived.Test.YtehianjfpmbfpaaGreatChFZ
import Derived.Test.YtehianjfpmbfpaaGreatLe
import Derived.Test.YtehianjfpmbfpaaGreatMy
import Derived.Test.YtehianjfpmbfpaaGreatOd
import Derived.Test.YtehianjfpmbfpaaGreatSLe
import Derived.Test.YtehianjfpmbfpaaGreatSROd
namespace Go.Proofs.YtehianjfpmbfpaaGreat
open Go.RowKit
set_option linter.unusedVariables false

theorem refMayT_at (x : Tm) {p : Bool} (h : kinT.may x = p) (w : World) : Calls Tryz.prog 22 #[.agg #[.int .i64 x.e, .int .i64 x.d, .int .i64 x.x, .int .i64 x.y, .int .i64 x.z]] w fun e w' => e = .returned (.bool p) ∧ Grow w w' := by
  rw [← h]; exact refMay_any x w
theorem refMayM_at (x : Sm) {p : Bool} (h : kinS.may x = p) (w : World) : Calls Tryz.prog 44 #[.agg #[.int .i64 x.f, .int .i64 x.t, .int .i64 x.k, .int .i64 x.ep, .int .i64 x.x, .int .i64 x.y, .int .i64 x.z]] w fun e w' => e = .returned (.bool p) ∧ Grow w w' := by
  rw [← h]; exact refMayS_any x w
theorem refLeT_at (x y : Tm) {p : Bool} (h : kinT.le x y = p) (w : World) : Calls Tryz.prog 24 #[.agg #[.int .i64 x.e, .int .i64 x.d, .int .i64 x.x, .int .i64 x.y, .int .i64 x.z], .agg #[.int .i64 y.e, .int .i64 y.d, .int .i64 y.x, .int .i64 y.y, .int .i64 y.z]] w fun e w' => e = .returned (.bool p) ∧ Grow w w' := by
  rw [← h]; exact refLessEq_any x y w
theorem refLeM_at (x y : Sm) {p : Bool} (h : kinS.le x y = p) (w : World) : Calls Tryz.prog 105 #[.agg #[.int .i64 x.f, .int .i64 x.t, .int .i64 x.k, .int .i64 x.ep, .int .i64 x.x, .int .i64 x.y, .int .i64 x.z], .agg #[.int .i64 y.f, .int .i64 y.t, .int .i64 y.k, .int .i64 y.ep, .int .i64 y.x, .int .i64 y.y, .int .i64 y.z]] w fun e w' => e = .returned (.bool p) ∧ Grow w w' := by
  rw [← h]; exact refLeS_any x y w
theorem refOrderT_at (x y : Tm) {r : Int} (h : kinT.ord x y = r) (w : World) : Calls Tryz.prog 71 #[.agg #[.int .i64 x.e, .int .i64 x.d, .int .i64 x.x, .int .i64 x.y, .int .i64 x.z], .agg #[.int .i64 y.e, .int .i64 y.d, .int .i64 y.x, .int .i64 y.y, .int .i64 y.z]] w fun e w' => e = .returned (.int .i64 r) ∧ Grow w w' := by
  rw [← h]; exact refOrder_any x y w
theorem refOrderT_neg (x y : Tm) (h : kinT.ord x y < 0) (w : World) : Calls Tryz.prog 71 #[.agg #[.int .i64 x.e, .int .i64 x.d, .int .i64 x.x, .int .i64 x.y, .int .i64 x.z], .agg #[.int .i64 y.e, .int .i64 y.d, .int .i64 y.x, .int .i64 y.y, .int .i64 y.z]] w fun e w' => e = .returned (.int .i64 (-1)) ∧ Grow w w' :=
  refOrderT_at x y (orderI_neg x y h) w
theorem refOrderM_at (x y : Sm) {r : Int} (h : kinS.ord x y = r) (w : World) : Calls Tryz.prog 107 #[.agg #[.int .i64 x.f, .int .i64 x.t, .int .i64 x.k, .int .i64 x.ep, .int .i64 x.x, .int .i64 x.y, .int .i64 x.z], .agg #[.int .i64 y.f, .int .i64 y.t, .int .i64 y.k, .int .i64 y.ep, .int .i64 y.x, .int .i64 y.y, .int .i64 y.z]] w fun e w' => e = .returned (.int .i64 r) ∧ Grow w w' := by
  rw [← h]; exact refOrderS_any x y w
theorem refOrderM_neg (x y : Sm) (h : kinS.ord x y < 0) (w : World) : Calls Tryz.prog 107 #[.agg #[.int .i64 x.f, .int .i64 x.t, .int .i64 x.k, .int .i64 x.ep, .int .i64 x.x, .int .i64 x.y, .int .i64 x.z], .agg #[.int .i64 y.f, .int .i64 y.t, .int .i64 y.k, .int .i64 y.ep, .int .i64 y.x, .int .i64 y.y, .int .i64 y.z]] w fun e w' => e = .returned (.int .i64 (-1)) ∧ Grow w w' :=
  refOrderM_at x y (orderS_neg x y h) w

end Go.Proofs.YtehianjfpmbfpaaGreat
