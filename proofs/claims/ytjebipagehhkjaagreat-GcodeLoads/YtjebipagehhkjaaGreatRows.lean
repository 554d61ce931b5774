/-
  No cell of these rows narrows 'for every input' (looked for: loops, veiled, ifaces, maps, wideKeys, modest, calm, conditions, laid).
  DERIVED. THE GIVEN ROWS OF THIS SEAT. 2 by the template 'for every input the law returns true; each argument reads behind the call as it read before'; 0 by the template 'total and deterministic' (their statements: YtjebipagehhkjaaGreatTotals.lean).
  GIVEN WITH THE SEED: the statements are not yours to turn. If you find one false, say at which input.
  Laid BY PROGRAM, IN A SANDBOX (cutbox-rows.mjs): the forced cells as the released guide's own fill.sh prints them over the translation a755048b5646ee78… (all of the seat's roots in one cut). By AI agents, Wed Nov 11 2026. No macro, syntax, notation, axiom, sorry.
-/
import Derived.Test.YtjebipagehhkjaaGreatChecked
import GoSem.Claim
import GoSem.ClaimJoined
import GoSem.ClaimMapViews
import Derived.JoinedTies
import Derived.KernelRfl
namespace Go.Proofs.YtjebipagehhkjaaGreat
/- THE CELL 'sum', in the pinned program and in every row, IS THE sha256 OF THE DUMP (.gsa) THAT YtjebipagehhkjaaGreatProg.lean LOADS. Nothing in Lean hashes anything: it is a label: what it is worth is what the hold of that sum in a sandbox is worth. -/
noncomputable def Tryz.pinned : Pinned := { name := "ytjebipagehhkjaagreat", sum := "a755048b5646ee7818556711f13b9e568f57e1185a54c10dc84ed6348dc9ac5f", checked := Tryz.checked }
namespace Rows
def none {H : Type} : Left H := { results := [], args := [] }

/-- 'meanderlaw10.GcodeTakes': WHATEVER THE INPUT: true; the input reads as it did. -/
def gcodeTakesSpec : ChangeSpec := { name := "gcodeTakes", fn := fun _ => fun
  | [d] => { results := [.lit (.bool true)], args := [d] }
  | _ => none }
def gcodeTakesRow : OpenClaim := { program := "ytjebipagehhkjaagreat", sum := "a755048b5646ee7818556711f13b9e568f57e1185a54c10dc84ed6348dc9ac5f", func := "meander/meanderlaw10.GcodeTakes", spec := "gcodeTakes", unfollowed := true, recurses := true, apart := false }
def GcodeTakesSaid : Prop := gcodeTakesRow.holds Tryz.pinned (OpenSpec.ofChange gcodeTakesSpec)

/-- ITS FALSE NEIGHBOUR: 'it returns false'. Refute it at one input. -/
def gcodeTakesWrong : ChangeSpec := { name := "gcodeTakes", fn := fun _ => fun
  | [d] => { results := [.lit (.bool false)], args := [d] }
  | _ => none }
def GcodeTakesWrongFalsely : Prop := gcodeTakesRow.holds Tryz.pinned (OpenSpec.ofChange gcodeTakesWrong)

/-- 'meanderlaw10.GcodeLoads': WHATEVER THE INPUT: true; the input reads as it did. -/
def gcodeLoadsSpec : ChangeSpec := { name := "gcodeLoads", fn := fun _ => fun
  | [d] => { results := [.lit (.bool true)], args := [d] }
  | _ => none }
def gcodeLoadsRow : OpenClaim := { program := "ytjebipagehhkjaagreat", sum := "a755048b5646ee7818556711f13b9e568f57e1185a54c10dc84ed6348dc9ac5f", func := "meander/meanderlaw10.GcodeLoads", spec := "gcodeLoads", unfollowed := true, recurses := true, apart := false }
def GcodeLoadsSaid : Prop := gcodeLoadsRow.holds Tryz.pinned (OpenSpec.ofChange gcodeLoadsSpec)

/-- ITS FALSE NEIGHBOUR: 'it returns false'. Refute it at one input. -/
def gcodeLoadsWrong : ChangeSpec := { name := "gcodeLoads", fn := fun _ => fun
  | [d] => { results := [.lit (.bool false)], args := [d] }
  | _ => none }
def GcodeLoadsWrongFalsely : Prop := gcodeLoadsRow.holds Tryz.pinned (OpenSpec.ofChange gcodeLoadsWrong)

/- THE SECOND FORM. 'bulk': how many values and letters a reading holds, each counted each time it is reached (what is shared counts as often as it is met; a slice's spare places count too). A statement '..UptoSaid' is the law's where the arguments, and the package variables that the reading takes, are together of bulk at most 1048576: NARROWER than '..Said'. Prove '..Said' where nothing that the law and all that it calls make is longer than what came in: it says more and counts as full. Else prove '..UptoSaid'. A law counts once. -/
mutual
def uptoBulk {H : Type} : DataW H → Nat
  | .lit (.string bytes) => bytes.length + 1
  | .lit _ => 1
  | .nil => 1
  | .ptr d => uptoBulk d + 1
  | .slice elems spare => uptoBulkAll elems + uptoBulkAll spare + 1
  | .agg parts => uptoBulkAll parts + 1
  | .iface _ d => uptoBulk d + 1
  | .map entries => uptoBulkEntries entries + 1
  | .held _ => 1
def uptoBulkAll {H : Type} : List (DataW H) → Nat
  | [] => 0
  | d :: r => uptoBulk d + uptoBulkAll r
def uptoBulkEntries {H : Type} : List (Lit × DataW H) → Nat
  | [] => 0
  | x :: r => uptoBulkEntry x + uptoBulkEntries r
def uptoBulkEntry {H : Type} : Lit × DataW H → Nat
  | (.string bytes, d) => bytes.length + uptoBulk d + 1
  | (_, d) => uptoBulk d + 1
 end
def uptoSmall : (H : Type) → List (DataW H) → Bool := fun _ ds => decide (uptoBulkAll ds ≤ 1048576)
def OpenSpec.upto (s : _root_.Go.ChangeSpec) : _root_.Go.OpenSpec := { _root_.Go.OpenSpec.ofChange s with cond := some uptoSmall }

/-- 'meanderlaw10.GcodeTakes', WHERE WHAT IT READS IS OF BULK AT MOST 1048576: true; the input reads as it did. -/
def gcodeTakesUptoRow : OpenClaim := { program := "ytjebipagehhkjaagreat", sum := "a755048b5646ee7818556711f13b9e568f57e1185a54c10dc84ed6348dc9ac5f", func := "meander/meanderlaw10.GcodeTakes", spec := "gcodeTakes", unfollowed := true, recurses := true, apart := false, narrowed := true }
def GcodeTakesUptoSaid : Prop := gcodeTakesUptoRow.holds Tryz.pinned (OpenSpec.upto gcodeTakesSpec)

/-- 'meanderlaw10.GcodeLoads', WHERE WHAT IT READS IS OF BULK AT MOST 1048576: true; the input reads as it did. -/
def gcodeLoadsUptoRow : OpenClaim := { program := "ytjebipagehhkjaagreat", sum := "a755048b5646ee7818556711f13b9e568f57e1185a54c10dc84ed6348dc9ac5f", func := "meander/meanderlaw10.GcodeLoads", spec := "gcodeLoads", unfollowed := true, recurses := true, apart := false, narrowed := true }
def GcodeLoadsUptoSaid : Prop := gcodeLoadsUptoRow.holds Tryz.pinned (OpenSpec.upto gcodeLoadsSpec)

end Rows
end Go.Proofs.YtjebipagehhkjaaGreat
