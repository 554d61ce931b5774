/-
  What ts.Less and the document's own Less do to the world.
-/
import Derived.Test.YtehianjfpmbfpabGreatLe
namespace Go.Proofs.YtehianjfpmbfpabGreat
open Go.RowKit



end Go.Proofs.YtehianjfpmbfpabGreat
