/-
  What the document's own May of summaries does to the world: for every summary it returns its plain answer, and what was there stays as it was.
-/
import Derived.Test.YthidpjjphieedabSMy
namespace Go.Proofs.Ythidpjjphieedab
open Go.RowKit
set_option linter.unusedVariables false


end Go.Proofs.Ythidpjjphieedab
