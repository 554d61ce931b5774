/-
  Which numbers may be of a Map, a Filter, a Reduce, as plain data (FPl's, for a program without bags). No program is named here.
-/
import Derived.Test.YtehianjfpmbfpaaGreatBase
namespace Go.Proofs.YtehianjfpmbfpaaGreat
set_option linter.unusedVariables false

def mayMapB (a b : Int) : Bool := decide (1 ≤ a) && decide (a ≤ 5) && decide (-1000 ≤ b) && decide (b ≤ 1000) && (decide (a ≠ 3) || decide (1 ≤ b))
def mayFilB (a b : Int) : Bool := decide (1 ≤ a) && decide (a ≤ 4) && decide (-1000 ≤ b) && decide (b ≤ 1000) && (decide (a ≠ 3) || decide (1 ≤ b))
def mayRedB (a : Int) : Bool := decide (1 ≤ a) && decide (a ≤ 4)

end Go.Proofs.YtehianjfpmbfpaaGreat
