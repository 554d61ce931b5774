/-
  What graph's small functions, and the document's own, do to the world: Ins, HasOut, InDepth, Inner, Order, and cmp.Compare: each returns its plain answer, and what was there stays as it was; what Go's == says of two places.
-/
import Derived.Test.YtjebipagehhkjaaHRow
namespace Go.Proofs.Ytjebipagehhkjaa
set_option maxRecDepth 100000
open Go.RowKit
set_option linter.unusedVariables false
set_option linter.unusedSimpArgs false


end Go.Proofs.Ytjebipagehhkjaa
