/-
  Summaries as plain data, for a program without times: what nodes do; what summary's own small functions, within and depthMay, and the document's own depth, do to the world.
-/
import Derived.Test.YtehianjfpmbfpaaGreatBase
import Derived.Test.YtehianjfpmbfpaaGreatInv
import Derived.Test.YtehianjfpmbfpaaGreatSBase
import Derived.Test.YtehianjfpmbfpaaGreatBox
namespace Go.Proofs.YtehianjfpmbfpaaGreat
open Go.RowKit
set_option linter.unusedVariables false

theorem eqS_self (s : Sm) : eqS s s = true := by simp [eqS]

end Go.Proofs.YtehianjfpmbfpaaGreat
