/-
  No cell of these rows narrows 'for every input' (looked for: loops, veiled, ifaces, maps, wideKeys, modest, calm, conditions, laid).
  DERIVED. THE GIVEN ROWS OF THIS SEAT. 3 by the template 'for every input the law returns true; each argument reads behind the call as it read before'; 0 by the template 'total and deterministic' (their statements: YtjebipagehhkjaaTotals.lean).
  GIVEN WITH THE SEED: the statements are not yours to turn. If you find one false, say at which input.
  Laid BY PROGRAM, IN A SANDBOX (cutbox-rows.mjs): the forced cells as the released guide's own fill.sh prints them over the translation 4881dfb0c33c1519… (all of the seat's roots in one cut). By AI agents, Wed Nov 11 2026. No macro, syntax, notation, axiom, sorry.
-/
import Derived.Test.YtjebipagehhkjaaChecked
import GoSem.Claim
import GoSem.ClaimJoined
import GoSem.ClaimMapViews
import Derived.JoinedTies
import Derived.KernelRfl
namespace Go.Proofs.Ytjebipagehhkjaa
/- THE CELL 'sum', in the pinned program and in every row, IS THE sha256 OF THE DUMP (.gsa) THAT YtjebipagehhkjaaProg.lean LOADS. Nothing in Lean hashes anything: it is a label: what it is worth is what the hold of that sum in a sandbox is worth. -/
noncomputable def Try.pinned : Pinned := { name := "ytjebipagehhkjaa", sum := "4881dfb0c33c151944529424e58733d1e63428eeb9b9b8ff05f9a73515527e40", checked := Try.checked }
namespace Rows
def none {H : Type} : Left H := { results := [], args := [] }

/-- 'meanderlaw10.GcodePuts': WHATEVER THE INPUT: true; the input reads as it did. -/
def gcodePutsSpec : ChangeSpec := { name := "gcodePuts", fn := fun _ => fun
  | [d] => { results := [.lit (.bool true)], args := [d] }
  | _ => none }
def gcodePutsRow : OpenClaim := { program := "ytjebipagehhkjaa", sum := "4881dfb0c33c151944529424e58733d1e63428eeb9b9b8ff05f9a73515527e40", func := "meander/meanderlaw10.GcodePuts", spec := "gcodePuts", apart := false }
def GcodePutsSaid : Prop := gcodePutsRow.holds Try.pinned (OpenSpec.ofChange gcodePutsSpec)

/-- ITS FALSE NEIGHBOUR: 'it returns false'. Refute it at one input. -/
def gcodePutsWrong : ChangeSpec := { name := "gcodePuts", fn := fun _ => fun
  | [d] => { results := [.lit (.bool false)], args := [d] }
  | _ => none }
def GcodePutsWrongFalsely : Prop := gcodePutsRow.holds Try.pinned (OpenSpec.ofChange gcodePutsWrong)

/-- 'meanderlaw10.GcodeBack': WHATEVER THE INPUT: true; the input reads as it did. -/
def gcodeBackSpec : ChangeSpec := { name := "gcodeBack", fn := fun _ => fun
  | [d1, d2, d3] => { results := [.lit (.bool true)], args := [d1, d2, d3] }
  | _ => none }
def gcodeBackRow : OpenClaim := { program := "ytjebipagehhkjaa", sum := "4881dfb0c33c151944529424e58733d1e63428eeb9b9b8ff05f9a73515527e40", func := "meander/meanderlaw10.GcodeBack", spec := "gcodeBack", apart := false }
def GcodeBackSaid : Prop := gcodeBackRow.holds Try.pinned (OpenSpec.ofChange gcodeBackSpec)

/-- ITS FALSE NEIGHBOUR: 'it returns false'. Refute it at one input. -/
def gcodeBackWrong : ChangeSpec := { name := "gcodeBack", fn := fun _ => fun
  | [d1, d2, d3] => { results := [.lit (.bool false)], args := [d1, d2, d3] }
  | _ => none }
def GcodeBackWrongFalsely : Prop := gcodeBackRow.holds Try.pinned (OpenSpec.ofChange gcodeBackWrong)

/-- 'meanderlaw10.GcodeSizes': WHATEVER THE INPUT: true; the input reads as it did. -/
def gcodeSizesSpec : ChangeSpec := { name := "gcodeSizes", fn := fun _ => fun
  | [d1, d2] => { results := [.lit (.bool true)], args := [d1, d2] }
  | _ => none }
def gcodeSizesRow : OpenClaim := { program := "ytjebipagehhkjaa", sum := "4881dfb0c33c151944529424e58733d1e63428eeb9b9b8ff05f9a73515527e40", func := "meander/meanderlaw10.GcodeSizes", spec := "gcodeSizes", apart := false }
def GcodeSizesSaid : Prop := gcodeSizesRow.holds Try.pinned (OpenSpec.ofChange gcodeSizesSpec)

/-- ITS FALSE NEIGHBOUR: 'it returns false'. Refute it at one input. -/
def gcodeSizesWrong : ChangeSpec := { name := "gcodeSizes", fn := fun _ => fun
  | [d1, d2] => { results := [.lit (.bool false)], args := [d1, d2] }
  | _ => none }
def GcodeSizesWrongFalsely : Prop := gcodeSizesRow.holds Try.pinned (OpenSpec.ofChange gcodeSizesWrong)

/- THE SECOND FORM. 'bulk': how many values and letters a reading holds, each counted each time it is reached (what is shared counts as often as it is met; a slice's spare places count too). A statement '..UptoSaid' is the law's where the arguments, and the package variables that the reading takes, are together of bulk at most 1048576: NARROWER than '..Said'. Prove '..Said' where nothing that the law and all that it calls make is longer than what came in: it says more and counts as full. Else prove '..UptoSaid'. A law counts once. -/
mutual
def uptoBulk {H : Type} : DataW H → Nat
  | .lit (.string bytes) => bytes.length + 1
  | .lit _ => 1
  | .nil => 1
  | .ptr d => uptoBulk d + 1
  | .slice elems spare => uptoBulkAll elems + uptoBulkAll spare + 1
  | .agg parts => uptoBulkAll parts + 1
  | .iface _ d => uptoBulk d + 1
  | .map entries => uptoBulkEntries entries + 1
  | .held _ => 1
def uptoBulkAll {H : Type} : List (DataW H) → Nat
  | [] => 0
  | d :: r => uptoBulk d + uptoBulkAll r
def uptoBulkEntries {H : Type} : List (Lit × DataW H) → Nat
  | [] => 0
  | x :: r => uptoBulkEntry x + uptoBulkEntries r
def uptoBulkEntry {H : Type} : Lit × DataW H → Nat
  | (.string bytes, d) => bytes.length + uptoBulk d + 1
  | (_, d) => uptoBulk d + 1
 end
def uptoSmall : (H : Type) → List (DataW H) → Bool := fun _ ds => decide (uptoBulkAll ds ≤ 1048576)
def OpenSpec.upto (s : _root_.Go.ChangeSpec) : _root_.Go.OpenSpec := { _root_.Go.OpenSpec.ofChange s with cond := some uptoSmall }

/-- 'meanderlaw10.GcodePuts', WHERE WHAT IT READS IS OF BULK AT MOST 1048576: true; the input reads as it did. -/
def gcodePutsUptoRow : OpenClaim := { program := "ytjebipagehhkjaa", sum := "4881dfb0c33c151944529424e58733d1e63428eeb9b9b8ff05f9a73515527e40", func := "meander/meanderlaw10.GcodePuts", spec := "gcodePuts", apart := false, narrowed := true }
def GcodePutsUptoSaid : Prop := gcodePutsUptoRow.holds Try.pinned (OpenSpec.upto gcodePutsSpec)

/-- 'meanderlaw10.GcodeBack', WHERE WHAT IT READS IS OF BULK AT MOST 1048576: true; the input reads as it did. -/
def gcodeBackUptoRow : OpenClaim := { program := "ytjebipagehhkjaa", sum := "4881dfb0c33c151944529424e58733d1e63428eeb9b9b8ff05f9a73515527e40", func := "meander/meanderlaw10.GcodeBack", spec := "gcodeBack", apart := false, narrowed := true }
def GcodeBackUptoSaid : Prop := gcodeBackUptoRow.holds Try.pinned (OpenSpec.upto gcodeBackSpec)

/-- 'meanderlaw10.GcodeSizes', WHERE WHAT IT READS IS OF BULK AT MOST 1048576: true; the input reads as it did. -/
def gcodeSizesUptoRow : OpenClaim := { program := "ytjebipagehhkjaa", sum := "4881dfb0c33c151944529424e58733d1e63428eeb9b9b8ff05f9a73515527e40", func := "meander/meanderlaw10.GcodeSizes", spec := "gcodeSizes", apart := false, narrowed := true }
def GcodeSizesUptoSaid : Prop := gcodeSizesUptoRow.holds Try.pinned (OpenSpec.upto gcodeSizesSpec)

end Rows
end Go.Proofs.Ytjebipagehhkjaa
