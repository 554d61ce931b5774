/-
  No cell of these rows narrows 'for every input' (looked for: loops, veiled, ifaces, maps, wideKeys, modest, calm, conditions, laid).
  DERIVED. THE GIVEN ROWS OF THIS SEAT. 6 by the template 'for every input the law returns true; each argument reads behind the call as it read before'; 0 by the template 'total and deterministic' (their statements: YtehianjfpmbfpaaGreatTotals.lean).
  GIVEN WITH THE SEED: the statements are not yours to turn. If you find one false, say at which input.
  Laid BY PROGRAM, IN A SANDBOX (cutbox-rows.mjs): the forced cells as the released guide's own fill.sh prints them over the translation 1a08fd02d1ba4223… (all of the seat's roots in one cut). By AI agents, Wed Nov 11 2026. No macro, syntax, notation, axiom, sorry.
-/
import Derived.Test.YtehianjfpmbfpaaGreatChecked
import GoSem.Claim
import GoSem.ClaimJoined
import GoSem.ClaimMapViews
import Derived.JoinedTies
import Derived.KernelRfl
namespace Go.Proofs.YtehianjfpmbfpaaGreat
/- THE CELL 'sum', in the pinned program and in every row, IS THE sha256 OF THE DUMP (.gsa) THAT YtehianjfpmbfpaaGreatProg.lean LOADS. Nothing in Lean hashes anything: it is a label: what it is worth is what the hold of that sum in a sandbox is worth. -/
noncomputable def Tryz.pinned : Pinned := { name := "ytehianjfpmbfpaagreat", sum := "1a08fd02d1ba42232e441d3aa697538b09dd9ce9fad2d30f61a0073d3a72c172", checked := Tryz.checked }
namespace Rows
def none {H : Type} : Left H := { results := [], args := [] }

/-- 'meanderlaw11.PathsSums': WHATEVER THE INPUT: true; the input reads as it did. -/
def pathsSumsSpec : ChangeSpec := { name := "pathsSums", fn := fun _ => fun
  | [d1, d2, d3] => { results := [.lit (.bool true)], args := [d1, d2, d3] }
  | _ => none }
def pathsSumsRow : OpenClaim := { program := "ytehianjfpmbfpaagreat", sum := "1a08fd02d1ba42232e441d3aa697538b09dd9ce9fad2d30f61a0073d3a72c172", func := "meander/meanderlaw11.PathsSums", spec := "pathsSums", unfollowed := true, recurses := true, plainKeys := false, apart := false }
def PathsSumsSaid : Prop := pathsSumsRow.holds Tryz.pinned (OpenSpec.ofChange pathsSumsSpec)

/-- ITS FALSE NEIGHBOUR: 'it returns false'. Refute it at one input. -/
def pathsSumsWrong : ChangeSpec := { name := "pathsSums", fn := fun _ => fun
  | [d1, d2, d3] => { results := [.lit (.bool false)], args := [d1, d2, d3] }
  | _ => none }
def PathsSumsWrongFalsely : Prop := pathsSumsRow.holds Tryz.pinned (OpenSpec.ofChange pathsSumsWrong)

/-- 'meanderlaw11.PathsCould': WHATEVER THE INPUT: true; the input reads as it did. -/
def pathsCouldSpec : ChangeSpec := { name := "pathsCould", fn := fun _ => fun
  | [d1, d2, d3] => { results := [.lit (.bool true)], args := [d1, d2, d3] }
  | _ => none }
def pathsCouldRow : OpenClaim := { program := "ytehianjfpmbfpaagreat", sum := "1a08fd02d1ba42232e441d3aa697538b09dd9ce9fad2d30f61a0073d3a72c172", func := "meander/meanderlaw11.PathsCould", spec := "pathsCould", unfollowed := true, recurses := true, plainKeys := false, apart := false }
def PathsCouldSaid : Prop := pathsCouldRow.holds Tryz.pinned (OpenSpec.ofChange pathsCouldSpec)

/-- ITS FALSE NEIGHBOUR: 'it returns false'. Refute it at one input. -/
def pathsCouldWrong : ChangeSpec := { name := "pathsCould", fn := fun _ => fun
  | [d1, d2, d3] => { results := [.lit (.bool false)], args := [d1, d2, d3] }
  | _ => none }
def PathsCouldWrongFalsely : Prop := pathsCouldRow.holds Tryz.pinned (OpenSpec.ofChange pathsCouldWrong)

/-- 'meanderlaw11.PathsChain': WHATEVER THE INPUT: true; the input reads as it did. -/
def pathsChainSpec : ChangeSpec := { name := "pathsChain", fn := fun _ => fun
  | [d1, d2, d3] => { results := [.lit (.bool true)], args := [d1, d2, d3] }
  | _ => none }
def pathsChainRow : OpenClaim := { program := "ytehianjfpmbfpaagreat", sum := "1a08fd02d1ba42232e441d3aa697538b09dd9ce9fad2d30f61a0073d3a72c172", func := "meander/meanderlaw11.PathsChain", spec := "pathsChain", unfollowed := true, recurses := true, plainKeys := false, apart := false }
def PathsChainSaid : Prop := pathsChainRow.holds Tryz.pinned (OpenSpec.ofChange pathsChainSpec)

/-- ITS FALSE NEIGHBOUR: 'it returns false'. Refute it at one input. -/
def pathsChainWrong : ChangeSpec := { name := "pathsChain", fn := fun _ => fun
  | [d1, d2, d3] => { results := [.lit (.bool false)], args := [d1, d2, d3] }
  | _ => none }
def PathsChainWrongFalsely : Prop := pathsChainRow.holds Tryz.pinned (OpenSpec.ofChange pathsChainWrong)

/-- 'meanderlaw11.PathsSelf': WHATEVER THE INPUT: true; the input reads as it did. -/
def pathsSelfSpec : ChangeSpec := { name := "pathsSelf", fn := fun _ => fun
  | [d1, d2, d3] => { results := [.lit (.bool true)], args := [d1, d2, d3] }
  | _ => none }
def pathsSelfRow : OpenClaim := { program := "ytehianjfpmbfpaagreat", sum := "1a08fd02d1ba42232e441d3aa697538b09dd9ce9fad2d30f61a0073d3a72c172", func := "meander/meanderlaw11.PathsSelf", spec := "pathsSelf", unfollowed := true, recurses := true, plainKeys := false, apart := false }
def PathsSelfSaid : Prop := pathsSelfRow.holds Tryz.pinned (OpenSpec.ofChange pathsSelfSpec)

/-- ITS FALSE NEIGHBOUR: 'it returns false'. Refute it at one input. -/
def pathsSelfWrong : ChangeSpec := { name := "pathsSelf", fn := fun _ => fun
  | [d1, d2, d3] => { results := [.lit (.bool false)], args := [d1, d2, d3] }
  | _ => none }
def PathsSelfWrongFalsely : Prop := pathsSelfRow.holds Tryz.pinned (OpenSpec.ofChange pathsSelfWrong)

/-- 'meanderlaw11.PathsSteps': WHATEVER THE INPUT: true; the input reads as it did. -/
def pathsStepsSpec : ChangeSpec := { name := "pathsSteps", fn := fun _ => fun
  | [d1, d2, d3] => { results := [.lit (.bool true)], args := [d1, d2, d3] }
  | _ => none }
def pathsStepsRow : OpenClaim := { program := "ytehianjfpmbfpaagreat", sum := "1a08fd02d1ba42232e441d3aa697538b09dd9ce9fad2d30f61a0073d3a72c172", func := "meander/meanderlaw11.PathsSteps", spec := "pathsSteps", unfollowed := true, recurses := true, plainKeys := false, apart := false }
def PathsStepsSaid : Prop := pathsStepsRow.holds Tryz.pinned (OpenSpec.ofChange pathsStepsSpec)

/-- ITS FALSE NEIGHBOUR: 'it returns false'. Refute it at one input. -/
def pathsStepsWrong : ChangeSpec := { name := "pathsSteps", fn := fun _ => fun
  | [d1, d2, d3] => { results := [.lit (.bool false)], args := [d1, d2, d3] }
  | _ => none }
def PathsStepsWrongFalsely : Prop := pathsStepsRow.holds Tryz.pinned (OpenSpec.ofChange pathsStepsWrong)

/-- 'meanderlaw11.PathsFronts': WHATEVER THE INPUT: true; the input reads as it did. -/
def pathsFrontsSpec : ChangeSpec := { name := "pathsFronts", fn := fun _ => fun
  | [d1, d2, d3] => { results := [.lit (.bool true)], args := [d1, d2, d3] }
  | _ => none }
def pathsFrontsRow : OpenClaim := { program := "ytehianjfpmbfpaagreat", sum := "1a08fd02d1ba42232e441d3aa697538b09dd9ce9fad2d30f61a0073d3a72c172", func := "meander/meanderlaw11.PathsFronts", spec := "pathsFronts", unfollowed := true, recurses := true, plainKeys := false, apart := false }
def PathsFrontsSaid : Prop := pathsFrontsRow.holds Tryz.pinned (OpenSpec.ofChange pathsFrontsSpec)

/-- ITS FALSE NEIGHBOUR: 'it returns false'. Refute it at one input. -/
def pathsFrontsWrong : ChangeSpec := { name := "pathsFronts", fn := fun _ => fun
  | [d1, d2, d3] => { results := [.lit (.bool false)], args := [d1, d2, d3] }
  | _ => none }
def PathsFrontsWrongFalsely : Prop := pathsFrontsRow.holds Tryz.pinned (OpenSpec.ofChange pathsFrontsWrong)

/- THE SECOND FORM. 'bulk': how many values and letters a reading holds, each counted each time it is reached (what is shared counts as often as it is met; a slice's spare places count too). A statement '..UptoSaid' is the law's where the arguments, and the package variables that the reading takes, are together of bulk at most 1048576: NARROWER than '..Said'. Prove '..Said' where nothing that the law and all that it calls make is longer than what came in: it says more and counts as full. Else prove '..UptoSaid'. A law counts once. -/
mutual
def uptoBulk {H : Type} : DataW H → Nat
  | .lit (.string bytes) => bytes.length + 1
  | .lit _ => 1
  | .nil => 1
  | .ptr d => uptoBulk d + 1
  | .slice elems spare => uptoBulkAll elems + uptoBulkAll spare + 1
  | .agg parts => uptoBulkAll parts + 1
  | .iface _ d => uptoBulk d + 1
  | .map entries => uptoBulkEntries entries + 1
  | .held _ => 1
def uptoBulkAll {H : Type} : List (DataW H) → Nat
  | [] => 0
  | d :: r => uptoBulk d + uptoBulkAll r
def uptoBulkEntries {H : Type} : List (Lit × DataW H) → Nat
  | [] => 0
  | x :: r => uptoBulkEntry x + uptoBulkEntries r
def uptoBulkEntry {H : Type} : Lit × DataW H → Nat
  | (.string bytes, d) => bytes.length + uptoBulk d + 1
  | (_, d) => uptoBulk d + 1
 end
def uptoSmall : (H : Type) → List (DataW H) → Bool := fun _ ds => decide (uptoBulkAll ds ≤ 1048576)
def OpenSpec.upto (s : _root_.Go.ChangeSpec) : _root_.Go.OpenSpec := { _root_.Go.OpenSpec.ofChange s with cond := some uptoSmall }

/-- 'meanderlaw11.PathsSums', WHERE WHAT IT READS IS OF BULK AT MOST 1048576: true; the input reads as it did. -/
def pathsSumsUptoRow : OpenClaim := { program := "ytehianjfpmbfpaagreat", sum := "1a08fd02d1ba42232e441d3aa697538b09dd9ce9fad2d30f61a0073d3a72c172", func := "meander/meanderlaw11.PathsSums", spec := "pathsSums", unfollowed := true, recurses := true, plainKeys := false, apart := false, narrowed := true }
def PathsSumsUptoSaid : Prop := pathsSumsUptoRow.holds Tryz.pinned (OpenSpec.upto pathsSumsSpec)

/-- 'meanderlaw11.PathsCould', WHERE WHAT IT READS IS OF BULK AT MOST 1048576: true; the input reads as it did. -/
def pathsCouldUptoRow : OpenClaim := { program := "ytehianjfpmbfpaagreat", sum := "1a08fd02d1ba42232e441d3aa697538b09dd9ce9fad2d30f61a0073d3a72c172", func := "meander/meanderlaw11.PathsCould", spec := "pathsCould", unfollowed := true, recurses := true, plainKeys := false, apart := false, narrowed := true }
def PathsCouldUptoSaid : Prop := pathsCouldUptoRow.holds Tryz.pinned (OpenSpec.upto pathsCouldSpec)

/-- 'meanderlaw11.PathsChain', WHERE WHAT IT READS IS OF BULK AT MOST 1048576: true; the input reads as it did. -/
def pathsChainUptoRow : OpenClaim := { program := "ytehianjfpmbfpaagreat", sum := "1a08fd02d1ba42232e441d3aa697538b09dd9ce9fad2d30f61a0073d3a72c172", func := "meander/meanderlaw11.PathsChain", spec := "pathsChain", unfollowed := true, recurses := true, plainKeys := false, apart := false, narrowed := true }
def PathsChainUptoSaid : Prop := pathsChainUptoRow.holds Tryz.pinned (OpenSpec.upto pathsChainSpec)

/-- 'meanderlaw11.PathsSelf', WHERE WHAT IT READS IS OF BULK AT MOST 1048576: true; the input reads as it did. -/
def pathsSelfUptoRow : OpenClaim := { program := "ytehianjfpmbfpaagreat", sum := "1a08fd02d1ba42232e441d3aa697538b09dd9ce9fad2d30f61a0073d3a72c172", func := "meander/meanderlaw11.PathsSelf", spec := "pathsSelf", unfollowed := true, recurses := true, plainKeys := false, apart := false, narrowed := true }
def PathsSelfUptoSaid : Prop := pathsSelfUptoRow.holds Tryz.pinned (OpenSpec.upto pathsSelfSpec)

/-- 'meanderlaw11.PathsSteps', WHERE WHAT IT READS IS OF BULK AT MOST 1048576: true; the input reads as it did. -/
def pathsStepsUptoRow : OpenClaim := { program := "ytehianjfpmbfpaagreat", sum := "1a08fd02d1ba42232e441d3aa697538b09dd9ce9fad2d30f61a0073d3a72c172", func := "meander/meanderlaw11.PathsSteps", spec := "pathsSteps", unfollowed := true, recurses := true, plainKeys := false, apart := false, narrowed := true }
def PathsStepsUptoSaid : Prop := pathsStepsUptoRow.holds Tryz.pinned (OpenSpec.upto pathsStepsSpec)

/-- 'meanderlaw11.PathsFronts', WHERE WHAT IT READS IS OF BULK AT MOST 1048576: true; the input reads as it did. -/
def pathsFrontsUptoRow : OpenClaim := { program := "ytehianjfpmbfpaagreat", sum := "1a08fd02d1ba42232e441d3aa697538b09dd9ce9fad2d30f61a0073d3a72c172", func := "meander/meanderlaw11.PathsFronts", spec := "pathsFronts", unfollowed := true, recurses := true, plainKeys := false, apart := false, narrowed := true }
def PathsFrontsUptoSaid : Prop := pathsFrontsUptoRow.holds Tryz.pinned (OpenSpec.upto pathsFrontsSpec)

end Rows
end Go.Proofs.YtehianjfpmbfpaaGreat
