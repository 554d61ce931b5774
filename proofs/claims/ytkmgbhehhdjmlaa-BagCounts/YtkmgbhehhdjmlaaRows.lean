/-
  No cell of these rows narrows 'for every input' (looked for: loops, veiled, ifaces, maps, wideKeys, modest, calm, conditions, laid).
  DERIVED. THE GIVEN ROWS OF THIS SEAT. 5 by the template 'for every input the law returns true; each argument reads behind the call as it read before'; 0 by the template 'total and deterministic' (their statements: YtkmgbhehhdjmlaaTotals.lean).
  GIVEN WITH THE SEED: the statements are not yours to turn. If you find one false, say at which input.
  Laid BY PROGRAM, IN A SANDBOX (cutbox-rows.mjs): the forced cells as the released guide's own fill.sh prints them over the translation 02df5cee334fea13… (all of the seat's roots in one cut). By AI agents, Wed Nov 11 2026. No macro, syntax, notation, axiom, sorry.
-/
import Derived.Test.YtkmgbhehhdjmlaaChecked
import GoSem.Claim
import GoSem.ClaimJoined
import GoSem.ClaimMapViews
import Derived.JoinedTies
import Derived.KernelRfl
namespace Go.Proofs.Ytkmgbhehhdjmlaa
/- THE CELL 'sum', in the pinned program and in every row, IS THE sha256 OF THE DUMP (.gsa) THAT YtkmgbhehhdjmlaaProg.lean LOADS. Nothing in Lean hashes anything: it is a label: what it is worth is what the hold of that sum in a sandbox is worth. -/
noncomputable def Try.pinned : Pinned := { name := "ytkmgbhehhdjmlaa", sum := "02df5cee334fea13874eea563b146a3c44e0f57063e3babc395acc8c99cf910f", checked := Try.checked }
namespace Rows
def none {H : Type} : Left H := { results := [], args := [] }

/-- 'meanderlaw05.BagSorts': WHATEVER THE INPUT: true; the input reads as it did. -/
def bagSortsSpec : ChangeSpec := { name := "bagSorts", fn := fun _ => fun
  | [d1, d2, d3] => { results := [.lit (.bool true)], args := [d1, d2, d3] }
  | _ => none }
def bagSortsRow : OpenClaim := { program := "ytkmgbhehhdjmlaa", sum := "02df5cee334fea13874eea563b146a3c44e0f57063e3babc395acc8c99cf910f", func := "meander/meanderlaw05.BagSorts", spec := "bagSorts", unfollowed := true, recurses := true, plainKeys := false, apart := false }
def BagSortsSaid : Prop := bagSortsRow.holds Try.pinned (OpenSpec.ofChange bagSortsSpec)

/-- ITS FALSE NEIGHBOUR: 'it returns false'. Refute it at one input. -/
def bagSortsWrong : ChangeSpec := { name := "bagSorts", fn := fun _ => fun
  | [d1, d2, d3] => { results := [.lit (.bool false)], args := [d1, d2, d3] }
  | _ => none }
def BagSortsWrongFalsely : Prop := bagSortsRow.holds Try.pinned (OpenSpec.ofChange bagSortsWrong)

/-- 'meanderlaw05.BagTwo': WHATEVER THE INPUT: true; the input reads as it did. -/
def bagTwoSpec : ChangeSpec := { name := "bagTwo", fn := fun _ => fun
  | [d1, d2] => { results := [.lit (.bool true)], args := [d1, d2] }
  | _ => none }
def bagTwoRow : OpenClaim := { program := "ytkmgbhehhdjmlaa", sum := "02df5cee334fea13874eea563b146a3c44e0f57063e3babc395acc8c99cf910f", func := "meander/meanderlaw05.BagTwo", spec := "bagTwo", unfollowed := true, recurses := true, plainKeys := false, apart := false }
def BagTwoSaid : Prop := bagTwoRow.holds Try.pinned (OpenSpec.ofChange bagTwoSpec)

/-- ITS FALSE NEIGHBOUR: 'it returns false'. Refute it at one input. -/
def bagTwoWrong : ChangeSpec := { name := "bagTwo", fn := fun _ => fun
  | [d1, d2] => { results := [.lit (.bool false)], args := [d1, d2] }
  | _ => none }
def BagTwoWrongFalsely : Prop := bagTwoRow.holds Try.pinned (OpenSpec.ofChange bagTwoWrong)

/-- 'meanderlaw05.BagLaws': WHATEVER THE INPUT: true; the input reads as it did. -/
def bagLawsSpec : ChangeSpec := { name := "bagLaws", fn := fun _ => fun
  | [d1, d2, d3] => { results := [.lit (.bool true)], args := [d1, d2, d3] }
  | _ => none }
def bagLawsRow : OpenClaim := { program := "ytkmgbhehhdjmlaa", sum := "02df5cee334fea13874eea563b146a3c44e0f57063e3babc395acc8c99cf910f", func := "meander/meanderlaw05.BagLaws", spec := "bagLaws", unfollowed := true, recurses := true, plainKeys := false, apart := false }
def BagLawsSaid : Prop := bagLawsRow.holds Try.pinned (OpenSpec.ofChange bagLawsSpec)

/-- ITS FALSE NEIGHBOUR: 'it returns false'. Refute it at one input. -/
def bagLawsWrong : ChangeSpec := { name := "bagLaws", fn := fun _ => fun
  | [d1, d2, d3] => { results := [.lit (.bool false)], args := [d1, d2, d3] }
  | _ => none }
def BagLawsWrongFalsely : Prop := bagLawsRow.holds Try.pinned (OpenSpec.ofChange bagLawsWrong)

/-- 'meanderlaw05.BagCounts': WHATEVER THE INPUT: true; the input reads as it did. -/
def bagCountsSpec : ChangeSpec := { name := "bagCounts", fn := fun _ => fun
  | [d1, d2] => { results := [.lit (.bool true)], args := [d1, d2] }
  | _ => none }
def bagCountsRow : OpenClaim := { program := "ytkmgbhehhdjmlaa", sum := "02df5cee334fea13874eea563b146a3c44e0f57063e3babc395acc8c99cf910f", func := "meander/meanderlaw05.BagCounts", spec := "bagCounts", unfollowed := true, recurses := true, plainKeys := false, apart := false }
def BagCountsSaid : Prop := bagCountsRow.holds Try.pinned (OpenSpec.ofChange bagCountsSpec)

/-- ITS FALSE NEIGHBOUR: 'it returns false'. Refute it at one input. -/
def bagCountsWrong : ChangeSpec := { name := "bagCounts", fn := fun _ => fun
  | [d1, d2] => { results := [.lit (.bool false)], args := [d1, d2] }
  | _ => none }
def BagCountsWrongFalsely : Prop := bagCountsRow.holds Try.pinned (OpenSpec.ofChange bagCountsWrong)

/-- 'meanderlaw05.BagKeys': WHATEVER THE INPUT: true; the input reads as it did. -/
def bagKeysSpec : ChangeSpec := { name := "bagKeys", fn := fun _ => fun
  | [d] => { results := [.lit (.bool true)], args := [d] }
  | _ => none }
def bagKeysRow : OpenClaim := { program := "ytkmgbhehhdjmlaa", sum := "02df5cee334fea13874eea563b146a3c44e0f57063e3babc395acc8c99cf910f", func := "meander/meanderlaw05.BagKeys", spec := "bagKeys", unfollowed := true, recurses := true, plainKeys := false, apart := false }
def BagKeysSaid : Prop := bagKeysRow.holds Try.pinned (OpenSpec.ofChange bagKeysSpec)

/-- ITS FALSE NEIGHBOUR: 'it returns false'. Refute it at one input. -/
def bagKeysWrong : ChangeSpec := { name := "bagKeys", fn := fun _ => fun
  | [d] => { results := [.lit (.bool false)], args := [d] }
  | _ => none }
def BagKeysWrongFalsely : Prop := bagKeysRow.holds Try.pinned (OpenSpec.ofChange bagKeysWrong)

/- THE SECOND FORM. 'bulk': how many values and letters a reading holds, each counted each time it is reached (what is shared counts as often as it is met; a slice's spare places count too). A statement '..UptoSaid' is the law's where the arguments, and the package variables that the reading takes, are together of bulk at most 1048576: NARROWER than '..Said'. Prove '..Said' where nothing that the law and all that it calls make is longer than what came in: it says more and counts as full. Else prove '..UptoSaid'. A law counts once. -/
mutual
def uptoBulk {H : Type} : DataW H → Nat
  | .lit (.string bytes) => bytes.length + 1
  | .lit _ => 1
  | .nil => 1
  | .ptr d => uptoBulk d + 1
  | .slice elems spare => uptoBulkAll elems + uptoBulkAll spare + 1
  | .agg parts => uptoBulkAll parts + 1
  | .iface _ d => uptoBulk d + 1
  | .map entries => uptoBulkEntries entries + 1
  | .held _ => 1
def uptoBulkAll {H : Type} : List (DataW H) → Nat
  | [] => 0
  | d :: r => uptoBulk d + uptoBulkAll r
def uptoBulkEntries {H : Type} : List (Lit × DataW H) → Nat
  | [] => 0
  | x :: r => uptoBulkEntry x + uptoBulkEntries r
def uptoBulkEntry {H : Type} : Lit × DataW H → Nat
  | (.string bytes, d) => bytes.length + uptoBulk d + 1
  | (_, d) => uptoBulk d + 1
 end
def uptoSmall : (H : Type) → List (DataW H) → Bool := fun _ ds => decide (uptoBulkAll ds ≤ 1048576)
def OpenSpec.upto (s : _root_.Go.ChangeSpec) : _root_.Go.OpenSpec := { _root_.Go.OpenSpec.ofChange s with cond := some uptoSmall }

/-- 'meanderlaw05.BagSorts', WHERE WHAT IT READS IS OF BULK AT MOST 1048576: true; the input reads as it did. -/
def bagSortsUptoRow : OpenClaim := { program := "ytkmgbhehhdjmlaa", sum := "02df5cee334fea13874eea563b146a3c44e0f57063e3babc395acc8c99cf910f", func := "meander/meanderlaw05.BagSorts", spec := "bagSorts", unfollowed := true, recurses := true, plainKeys := false, apart := false, narrowed := true }
def BagSortsUptoSaid : Prop := bagSortsUptoRow.holds Try.pinned (OpenSpec.upto bagSortsSpec)

/-- 'meanderlaw05.BagTwo', WHERE WHAT IT READS IS OF BULK AT MOST 1048576: true; the input reads as it did. -/
def bagTwoUptoRow : OpenClaim := { program := "ytkmgbhehhdjmlaa", sum := "02df5cee334fea13874eea563b146a3c44e0f57063e3babc395acc8c99cf910f", func := "meander/meanderlaw05.BagTwo", spec := "bagTwo", unfollowed := true, recurses := true, plainKeys := false, apart := false, narrowed := true }
def BagTwoUptoSaid : Prop := bagTwoUptoRow.holds Try.pinned (OpenSpec.upto bagTwoSpec)

/-- 'meanderlaw05.BagLaws', WHERE WHAT IT READS IS OF BULK AT MOST 1048576: true; the input reads as it did. -/
def bagLawsUptoRow : OpenClaim := { program := "ytkmgbhehhdjmlaa", sum := "02df5cee334fea13874eea563b146a3c44e0f57063e3babc395acc8c99cf910f", func := "meander/meanderlaw05.BagLaws", spec := "bagLaws", unfollowed := true, recurses := true, plainKeys := false, apart := false, narrowed := true }
def BagLawsUptoSaid : Prop := bagLawsUptoRow.holds Try.pinned (OpenSpec.upto bagLawsSpec)

/-- 'meanderlaw05.BagCounts', WHERE WHAT IT READS IS OF BULK AT MOST 1048576: true; the input reads as it did. -/
def bagCountsUptoRow : OpenClaim := { program := "ytkmgbhehhdjmlaa", sum := "02df5cee334fea13874eea563b146a3c44e0f57063e3babc395acc8c99cf910f", func := "meander/meanderlaw05.BagCounts", spec := "bagCounts", unfollowed := true, recurses := true, plainKeys := false, apart := false, narrowed := true }
def BagCountsUptoSaid : Prop := bagCountsUptoRow.holds Try.pinned (OpenSpec.upto bagCountsSpec)

/-- 'meanderlaw05.BagKeys', WHERE WHAT IT READS IS OF BULK AT MOST 1048576: true; the input reads as it did. -/
def bagKeysUptoRow : OpenClaim := { program := "ytkmgbhehhdjmlaa", sum := "02df5cee334fea13874eea563b146a3c44e0f57063e3babc395acc8c99cf910f", func := "meander/meanderlaw05.BagKeys", spec := "bagKeys", unfollowed := true, recurses := true, plainKeys := false, apart := false, narrowed := true }
def BagKeysUptoSaid : Prop := bagKeysUptoRow.holds Try.pinned (OpenSpec.upto bagKeysSpec)

end Rows
end Go.Proofs.Ytkmgbhehhdjmlaa
