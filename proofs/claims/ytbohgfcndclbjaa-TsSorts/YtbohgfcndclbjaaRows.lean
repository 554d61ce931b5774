/-
  No cell of these rows narrows 'for every input' (looked for: loops, veiled, ifaces, maps, wideKeys, modest, calm, conditions, laid).
  DERIVED. THE GIVEN ROWS OF THIS SEAT. 6 by the template 'for every input the law returns true; each argument reads behind the call as it read before'; 0 by the template 'total and deterministic' (their statements: YtbohgfcndclbjaaTotals.lean).
  GIVEN WITH THE SEED: the statements are not yours to turn. If you find one false, say at which input.
  Laid BY PROGRAM, IN A SANDBOX (cutbox-rows.mjs): the forced cells as the released guide's own fill.sh prints them over the translation 1f8a7dee2774da8d… (all of the seat's roots in one cut). By AI agents, Wed Nov 11 2026. No macro, syntax, notation, axiom, sorry.
-/
import Derived.Test.YtbohgfcndclbjaaChecked
import GoSem.Claim
import GoSem.ClaimJoined
import GoSem.ClaimMapViews
import Derived.JoinedTies
import Derived.KernelRfl
namespace Go.Proofs.Ytbohgfcndclbjaa
/- THE CELL 'sum', in the pinned program and in every row, IS THE sha256 OF THE DUMP (.gsa) THAT YtbohgfcndclbjaaProg.lean LOADS. Nothing in Lean hashes anything: it is a label: what it is worth is what the hold of that sum in a sandbox is worth. -/
noncomputable def Try.pinned : Pinned := { name := "ytbohgfcndclbjaa", sum := "1f8a7dee2774da8da1efc297f1c457b13f12188d0b904c5b535327f95742ce7a", checked := Try.checked }
namespace Rows
def none {H : Type} : Left H := { results := [], args := [] }

/-- 'meanderlaw01.TsMakes': WHATEVER THE INPUT: true; the input reads as it did. -/
def tsMakesSpec : ChangeSpec := { name := "tsMakes", fn := fun _ => fun
  | [d1, d2, d3] => { results := [.lit (.bool true)], args := [d1, d2, d3] }
  | _ => none }
def tsMakesRow : OpenClaim := { program := "ytbohgfcndclbjaa", sum := "1f8a7dee2774da8da1efc297f1c457b13f12188d0b904c5b535327f95742ce7a", func := "meander/meanderlaw01.TsMakes", spec := "tsMakes", apart := false }
def TsMakesSaid : Prop := tsMakesRow.holds Try.pinned (OpenSpec.ofChange tsMakesSpec)

/-- ITS FALSE NEIGHBOUR: 'it returns false'. Refute it at one input. -/
def tsMakesWrong : ChangeSpec := { name := "tsMakes", fn := fun _ => fun
  | [d1, d2, d3] => { results := [.lit (.bool false)], args := [d1, d2, d3] }
  | _ => none }
def TsMakesWrongFalsely : Prop := tsMakesRow.holds Try.pinned (OpenSpec.ofChange tsMakesWrong)

/-- 'meanderlaw01.TsOrders': WHATEVER THE INPUT: true; the input reads as it did. -/
def tsOrdersSpec : ChangeSpec := { name := "tsOrders", fn := fun _ => fun
  | [d1, d2] => { results := [.lit (.bool true)], args := [d1, d2] }
  | _ => none }
def tsOrdersRow : OpenClaim := { program := "ytbohgfcndclbjaa", sum := "1f8a7dee2774da8da1efc297f1c457b13f12188d0b904c5b535327f95742ce7a", func := "meander/meanderlaw01.TsOrders", spec := "tsOrders", apart := false }
def TsOrdersSaid : Prop := tsOrdersRow.holds Try.pinned (OpenSpec.ofChange tsOrdersSpec)

/-- ITS FALSE NEIGHBOUR: 'it returns false'. Refute it at one input. -/
def tsOrdersWrong : ChangeSpec := { name := "tsOrders", fn := fun _ => fun
  | [d1, d2] => { results := [.lit (.bool false)], args := [d1, d2] }
  | _ => none }
def TsOrdersWrongFalsely : Prop := tsOrdersRow.holds Try.pinned (OpenSpec.ofChange tsOrdersWrong)

/-- 'meanderlaw01.TsSorts': WHATEVER THE INPUT: true; the input reads as it did. -/
def tsSortsSpec : ChangeSpec := { name := "tsSorts", fn := fun _ => fun
  | [d] => { results := [.lit (.bool true)], args := [d] }
  | _ => none }
def tsSortsRow : OpenClaim := { program := "ytbohgfcndclbjaa", sum := "1f8a7dee2774da8da1efc297f1c457b13f12188d0b904c5b535327f95742ce7a", func := "meander/meanderlaw01.TsSorts", spec := "tsSorts", unfollowed := true, recurses := true, apart := false }
def TsSortsSaid : Prop := tsSortsRow.holds Try.pinned (OpenSpec.ofChange tsSortsSpec)

/-- ITS FALSE NEIGHBOUR: 'it returns false'. Refute it at one input. -/
def tsSortsWrong : ChangeSpec := { name := "tsSorts", fn := fun _ => fun
  | [d] => { results := [.lit (.bool false)], args := [d] }
  | _ => none }
def TsSortsWrongFalsely : Prop := tsSortsRow.holds Try.pinned (OpenSpec.ofChange tsSortsWrong)

/-- 'meanderlaw01.TsPartial': WHATEVER THE INPUT: true; the input reads as it did. -/
def tsPartialSpec : ChangeSpec := { name := "tsPartial", fn := fun _ => fun
  | [d1, d2, d3] => { results := [.lit (.bool true)], args := [d1, d2, d3] }
  | _ => none }
def tsPartialRow : OpenClaim := { program := "ytbohgfcndclbjaa", sum := "1f8a7dee2774da8da1efc297f1c457b13f12188d0b904c5b535327f95742ce7a", func := "meander/meanderlaw01.TsPartial", spec := "tsPartial", apart := false }
def TsPartialSaid : Prop := tsPartialRow.holds Try.pinned (OpenSpec.ofChange tsPartialSpec)

/-- ITS FALSE NEIGHBOUR: 'it returns false'. Refute it at one input. -/
def tsPartialWrong : ChangeSpec := { name := "tsPartial", fn := fun _ => fun
  | [d1, d2, d3] => { results := [.lit (.bool false)], args := [d1, d2, d3] }
  | _ => none }
def TsPartialWrongFalsely : Prop := tsPartialRow.holds Try.pinned (OpenSpec.ofChange tsPartialWrong)

/-- 'meanderlaw01.TsBounds': WHATEVER THE INPUT: true; the input reads as it did. -/
def tsBoundsSpec : ChangeSpec := { name := "tsBounds", fn := fun _ => fun
  | [d1, d2, d3] => { results := [.lit (.bool true)], args := [d1, d2, d3] }
  | _ => none }
def tsBoundsRow : OpenClaim := { program := "ytbohgfcndclbjaa", sum := "1f8a7dee2774da8da1efc297f1c457b13f12188d0b904c5b535327f95742ce7a", func := "meander/meanderlaw01.TsBounds", spec := "tsBounds", apart := false }
def TsBoundsSaid : Prop := tsBoundsRow.holds Try.pinned (OpenSpec.ofChange tsBoundsSpec)

/-- ITS FALSE NEIGHBOUR: 'it returns false'. Refute it at one input. -/
def tsBoundsWrong : ChangeSpec := { name := "tsBounds", fn := fun _ => fun
  | [d1, d2, d3] => { results := [.lit (.bool false)], args := [d1, d2, d3] }
  | _ => none }
def TsBoundsWrongFalsely : Prop := tsBoundsRow.holds Try.pinned (OpenSpec.ofChange tsBoundsWrong)

/-- 'meanderlaw01.TsMakesLoops': WHATEVER THE INPUT: true; the input reads as it did. -/
def tsMakesLoopsSpec : ChangeSpec := { name := "tsMakesLoops", fn := fun _ => fun
  | [d1, d2, d3] => { results := [.lit (.bool true)], args := [d1, d2, d3] }
  | _ => none }
def tsMakesLoopsRow : OpenClaim := { program := "ytbohgfcndclbjaa", sum := "1f8a7dee2774da8da1efc297f1c457b13f12188d0b904c5b535327f95742ce7a", func := "meander/meanderlaw01.TsMakesLoops", spec := "tsMakesLoops", apart := false }
def TsMakesLoopsSaid : Prop := tsMakesLoopsRow.holds Try.pinned (OpenSpec.ofChange tsMakesLoopsSpec)

/-- ITS FALSE NEIGHBOUR: 'it returns false'. Refute it at one input. -/
def tsMakesLoopsWrong : ChangeSpec := { name := "tsMakesLoops", fn := fun _ => fun
  | [d1, d2, d3] => { results := [.lit (.bool false)], args := [d1, d2, d3] }
  | _ => none }
def TsMakesLoopsWrongFalsely : Prop := tsMakesLoopsRow.holds Try.pinned (OpenSpec.ofChange tsMakesLoopsWrong)

/- THE SECOND FORM. 'bulk': how many values and letters a reading holds, each counted each time it is reached (what is shared counts as often as it is met; a slice's spare places count too). A statement '..UptoSaid' is the law's where the arguments, and the package variables that the reading takes, are together of bulk at most 1048576: NARROWER than '..Said'. Prove '..Said' where nothing that the law and all that it calls make is longer than what came in: it says more and counts as full. Else prove '..UptoSaid'. A law counts once. -/
mutual
def uptoBulk {H : Type} : DataW H → Nat
  | .lit (.string bytes) => bytes.length + 1
  | .lit _ => 1
  | .nil => 1
  | .ptr d => uptoBulk d + 1
  | .slice elems spare => uptoBulkAll elems + uptoBulkAll spare + 1
  | .agg parts => uptoBulkAll parts + 1
  | .iface _ d => uptoBulk d + 1
  | .map entries => uptoBulkEntries entries + 1
  | .held _ => 1
def uptoBulkAll {H : Type} : List (DataW H) → Nat
  | [] => 0
  | d :: r => uptoBulk d + uptoBulkAll r
def uptoBulkEntries {H : Type} : List (Lit × DataW H) → Nat
  | [] => 0
  | x :: r => uptoBulkEntry x + uptoBulkEntries r
def uptoBulkEntry {H : Type} : Lit × DataW H → Nat
  | (.string bytes, d) => bytes.length + uptoBulk d + 1
  | (_, d) => uptoBulk d + 1
 end
def uptoSmall : (H : Type) → List (DataW H) → Bool := fun _ ds => decide (uptoBulkAll ds ≤ 1048576)
def OpenSpec.upto (s : _root_.Go.ChangeSpec) : _root_.Go.OpenSpec := { _root_.Go.OpenSpec.ofChange s with cond := some uptoSmall }

/-- 'meanderlaw01.TsMakes', WHERE WHAT IT READS IS OF BULK AT MOST 1048576: true; the input reads as it did. -/
def tsMakesUptoRow : OpenClaim := { program := "ytbohgfcndclbjaa", sum := "1f8a7dee2774da8da1efc297f1c457b13f12188d0b904c5b535327f95742ce7a", func := "meander/meanderlaw01.TsMakes", spec := "tsMakes", apart := false, narrowed := true }
def TsMakesUptoSaid : Prop := tsMakesUptoRow.holds Try.pinned (OpenSpec.upto tsMakesSpec)

/-- 'meanderlaw01.TsOrders', WHERE WHAT IT READS IS OF BULK AT MOST 1048576: true; the input reads as it did. -/
def tsOrdersUptoRow : OpenClaim := { program := "ytbohgfcndclbjaa", sum := "1f8a7dee2774da8da1efc297f1c457b13f12188d0b904c5b535327f95742ce7a", func := "meander/meanderlaw01.TsOrders", spec := "tsOrders", apart := false, narrowed := true }
def TsOrdersUptoSaid : Prop := tsOrdersUptoRow.holds Try.pinned (OpenSpec.upto tsOrdersSpec)

/-- 'meanderlaw01.TsSorts', WHERE WHAT IT READS IS OF BULK AT MOST 1048576: true; the input reads as it did. -/
def tsSortsUptoRow : OpenClaim := { program := "ytbohgfcndclbjaa", sum := "1f8a7dee2774da8da1efc297f1c457b13f12188d0b904c5b535327f95742ce7a", func := "meander/meanderlaw01.TsSorts", spec := "tsSorts", unfollowed := true, recurses := true, apart := false, narrowed := true }
def TsSortsUptoSaid : Prop := tsSortsUptoRow.holds Try.pinned (OpenSpec.upto tsSortsSpec)

/-- 'meanderlaw01.TsPartial', WHERE WHAT IT READS IS OF BULK AT MOST 1048576: true; the input reads as it did. -/
def tsPartialUptoRow : OpenClaim := { program := "ytbohgfcndclbjaa", sum := "1f8a7dee2774da8da1efc297f1c457b13f12188d0b904c5b535327f95742ce7a", func := "meander/meanderlaw01.TsPartial", spec := "tsPartial", apart := false, narrowed := true }
def TsPartialUptoSaid : Prop := tsPartialUptoRow.holds Try.pinned (OpenSpec.upto tsPartialSpec)

/-- 'meanderlaw01.TsBounds', WHERE WHAT IT READS IS OF BULK AT MOST 1048576: true; the input reads as it did. -/
def tsBoundsUptoRow : OpenClaim := { program := "ytbohgfcndclbjaa", sum := "1f8a7dee2774da8da1efc297f1c457b13f12188d0b904c5b535327f95742ce7a", func := "meander/meanderlaw01.TsBounds", spec := "tsBounds", apart := false, narrowed := true }
def TsBoundsUptoSaid : Prop := tsBoundsUptoRow.holds Try.pinned (OpenSpec.upto tsBoundsSpec)

/-- 'meanderlaw01.TsMakesLoops', WHERE WHAT IT READS IS OF BULK AT MOST 1048576: true; the input reads as it did. -/
def tsMakesLoopsUptoRow : OpenClaim := { program := "ytbohgfcndclbjaa", sum := "1f8a7dee2774da8da1efc297f1c457b13f12188d0b904c5b535327f95742ce7a", func := "meander/meanderlaw01.TsMakesLoops", spec := "tsMakesLoops", apart := false, narrowed := true }
def TsMakesLoopsUptoSaid : Prop := tsMakesLoopsUptoRow.holds Try.pinned (OpenSpec.upto tsMakesLoopsSpec)

end Rows
end Go.Proofs.Ytbohgfcndclbjaa
