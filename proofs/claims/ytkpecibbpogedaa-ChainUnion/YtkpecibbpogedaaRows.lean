/-
  No cell of these rows narrows 'for every input' (looked for: loops, veiled, ifaces, maps, wideKeys, modest, calm, conditions, laid).
  DERIVED. THE GIVEN ROWS OF THIS SEAT. 6 by the template 'for every input the law returns true; each argument reads behind the call as it read before'; 0 by the template 'total and deterministic' (their statements: YtkpecibbpogedaaTotals.lean).
  GIVEN WITH THE SEED: the statements are not yours to turn. If you find one false, say at which input.
  Laid BY PROGRAM, IN A SANDBOX (cutbox-rows.mjs): the forced cells as the released guide's own fill.sh prints them over the translation 1c2a29fabdf842bd… (all of the seat's roots in one cut). By AI agents, Wed Nov 11 2026. No macro, syntax, notation, axiom, sorry.
-/
import Derived.Test.YtkpecibbpogedaaChecked
import GoSem.Claim
import GoSem.ClaimJoined
import GoSem.ClaimMapViews
import Derived.JoinedTies
import Derived.KernelRfl
namespace Go.Proofs.Ytkpecibbpogedaa
/- THE CELL 'sum', in the pinned program and in every row, IS THE sha256 OF THE DUMP (.gsa) THAT YtkpecibbpogedaaProg.lean LOADS. Nothing in Lean hashes anything: it is a label: what it is worth is what the hold of that sum in a sandbox is worth. -/
noncomputable def Try.pinned : Pinned := { name := "ytkpecibbpogedaa", sum := "1c2a29fabdf842bd692eac553b9e0ffec610f32b33160a6c7222aac8999f349b", checked := Try.checked }
namespace Rows
def none {H : Type} : Left H := { results := [], args := [] }

/-- 'meanderlaw03.ChainTimes': WHATEVER THE INPUT: true; the input reads as it did. -/
def chainTimesSpec : ChangeSpec := { name := "chainTimes", fn := fun _ => fun
  | [d1, d2] => { results := [.lit (.bool true)], args := [d1, d2] }
  | _ => none }
def chainTimesRow : OpenClaim := { program := "ytkpecibbpogedaa", sum := "1c2a29fabdf842bd692eac553b9e0ffec610f32b33160a6c7222aac8999f349b", func := "meander/meanderlaw03.ChainTimes", spec := "chainTimes", unfollowed := true, recurses := true, apart := false }
def ChainTimesSaid : Prop := chainTimesRow.holds Try.pinned (OpenSpec.ofChange chainTimesSpec)

/-- ITS FALSE NEIGHBOUR: 'it returns false'. Refute it at one input. -/
def chainTimesWrong : ChangeSpec := { name := "chainTimes", fn := fun _ => fun
  | [d1, d2] => { results := [.lit (.bool false)], args := [d1, d2] }
  | _ => none }
def ChainTimesWrongFalsely : Prop := chainTimesRow.holds Try.pinned (OpenSpec.ofChange chainTimesWrong)

/-- 'meanderlaw03.ChainSums': WHATEVER THE INPUT: true; the input reads as it did. -/
def chainSumsSpec : ChangeSpec := { name := "chainSums", fn := fun _ => fun
  | [d1, d2] => { results := [.lit (.bool true)], args := [d1, d2] }
  | _ => none }
def chainSumsRow : OpenClaim := { program := "ytkpecibbpogedaa", sum := "1c2a29fabdf842bd692eac553b9e0ffec610f32b33160a6c7222aac8999f349b", func := "meander/meanderlaw03.ChainSums", spec := "chainSums", unfollowed := true, recurses := true, apart := false }
def ChainSumsSaid : Prop := chainSumsRow.holds Try.pinned (OpenSpec.ofChange chainSumsSpec)

/-- ITS FALSE NEIGHBOUR: 'it returns false'. Refute it at one input. -/
def chainSumsWrong : ChangeSpec := { name := "chainSums", fn := fun _ => fun
  | [d1, d2] => { results := [.lit (.bool false)], args := [d1, d2] }
  | _ => none }
def ChainSumsWrongFalsely : Prop := chainSumsRow.holds Try.pinned (OpenSpec.ofChange chainSumsWrong)

/-- 'meanderlaw03.ChainLow': WHATEVER THE INPUT: true; the input reads as it did. -/
def chainLowSpec : ChangeSpec := { name := "chainLow", fn := fun _ => fun
  | [d1, d2] => { results := [.lit (.bool true)], args := [d1, d2] }
  | _ => none }
def chainLowRow : OpenClaim := { program := "ytkpecibbpogedaa", sum := "1c2a29fabdf842bd692eac553b9e0ffec610f32b33160a6c7222aac8999f349b", func := "meander/meanderlaw03.ChainLow", spec := "chainLow", unfollowed := true, recurses := true, apart := false }
def ChainLowSaid : Prop := chainLowRow.holds Try.pinned (OpenSpec.ofChange chainLowSpec)

/-- ITS FALSE NEIGHBOUR: 'it returns false'. Refute it at one input. -/
def chainLowWrong : ChangeSpec := { name := "chainLow", fn := fun _ => fun
  | [d1, d2] => { results := [.lit (.bool false)], args := [d1, d2] }
  | _ => none }
def ChainLowWrongFalsely : Prop := chainLowRow.holds Try.pinned (OpenSpec.ofChange chainLowWrong)

/-- 'meanderlaw03.ChainCovers': WHATEVER THE INPUT: true; the input reads as it did. -/
def chainCoversSpec : ChangeSpec := { name := "chainCovers", fn := fun _ => fun
  | [d1, d2, d3] => { results := [.lit (.bool true)], args := [d1, d2, d3] }
  | _ => none }
def chainCoversRow : OpenClaim := { program := "ytkpecibbpogedaa", sum := "1c2a29fabdf842bd692eac553b9e0ffec610f32b33160a6c7222aac8999f349b", func := "meander/meanderlaw03.ChainCovers", spec := "chainCovers", unfollowed := true, recurses := true, apart := false }
def ChainCoversSaid : Prop := chainCoversRow.holds Try.pinned (OpenSpec.ofChange chainCoversSpec)

/-- ITS FALSE NEIGHBOUR: 'it returns false'. Refute it at one input. -/
def chainCoversWrong : ChangeSpec := { name := "chainCovers", fn := fun _ => fun
  | [d1, d2, d3] => { results := [.lit (.bool false)], args := [d1, d2, d3] }
  | _ => none }
def ChainCoversWrongFalsely : Prop := chainCoversRow.holds Try.pinned (OpenSpec.ofChange chainCoversWrong)

/-- 'meanderlaw03.ChainSteps': WHATEVER THE INPUT: true; the input reads as it did. -/
def chainStepsSpec : ChangeSpec := { name := "chainSteps", fn := fun _ => fun
  | [d] => { results := [.lit (.bool true)], args := [d] }
  | _ => none }
def chainStepsRow : OpenClaim := { program := "ytkpecibbpogedaa", sum := "1c2a29fabdf842bd692eac553b9e0ffec610f32b33160a6c7222aac8999f349b", func := "meander/meanderlaw03.ChainSteps", spec := "chainSteps", unfollowed := true, recurses := true, apart := false }
def ChainStepsSaid : Prop := chainStepsRow.holds Try.pinned (OpenSpec.ofChange chainStepsSpec)

/-- ITS FALSE NEIGHBOUR: 'it returns false'. Refute it at one input. -/
def chainStepsWrong : ChangeSpec := { name := "chainSteps", fn := fun _ => fun
  | [d] => { results := [.lit (.bool false)], args := [d] }
  | _ => none }
def ChainStepsWrongFalsely : Prop := chainStepsRow.holds Try.pinned (OpenSpec.ofChange chainStepsWrong)

/-- 'meanderlaw03.ChainUnion': WHATEVER THE INPUT: true; the input reads as it did. -/
def chainUnionSpec : ChangeSpec := { name := "chainUnion", fn := fun _ => fun
  | [d1, d2, d3] => { results := [.lit (.bool true)], args := [d1, d2, d3] }
  | _ => none }
def chainUnionRow : OpenClaim := { program := "ytkpecibbpogedaa", sum := "1c2a29fabdf842bd692eac553b9e0ffec610f32b33160a6c7222aac8999f349b", func := "meander/meanderlaw03.ChainUnion", spec := "chainUnion", unfollowed := true, recurses := true, apart := false }
def ChainUnionSaid : Prop := chainUnionRow.holds Try.pinned (OpenSpec.ofChange chainUnionSpec)

/-- ITS FALSE NEIGHBOUR: 'it returns false'. Refute it at one input. -/
def chainUnionWrong : ChangeSpec := { name := "chainUnion", fn := fun _ => fun
  | [d1, d2, d3] => { results := [.lit (.bool false)], args := [d1, d2, d3] }
  | _ => none }
def ChainUnionWrongFalsely : Prop := chainUnionRow.holds Try.pinned (OpenSpec.ofChange chainUnionWrong)

/- THE SECOND FORM. 'bulk': how many values and letters a reading holds, each counted each time it is reached (what is shared counts as often as it is met; a slice's spare places count too). A statement '..UptoSaid' is the law's where the arguments, and the package variables that the reading takes, are together of bulk at most 1048576: NARROWER than '..Said'. Prove '..Said' where nothing that the law and all that it calls make is longer than what came in: it says more and counts as full. Else prove '..UptoSaid'. A law counts once. -/
mutual
def uptoBulk {H : Type} : DataW H → Nat
  | .lit (.string bytes) => bytes.length + 1
  | .lit _ => 1
  | .nil => 1
  | .ptr d => uptoBulk d + 1
  | .slice elems spare => uptoBulkAll elems + uptoBulkAll spare + 1
  | .agg parts => uptoBulkAll parts + 1
  | .iface _ d => uptoBulk d + 1
  | .map entries => uptoBulkEntries entries + 1
  | .held _ => 1
def uptoBulkAll {H : Type} : List (DataW H) → Nat
  | [] => 0
  | d :: r => uptoBulk d + uptoBulkAll r
def uptoBulkEntries {H : Type} : List (Lit × DataW H) → Nat
  | [] => 0
  | x :: r => uptoBulkEntry x + uptoBulkEntries r
def uptoBulkEntry {H : Type} : Lit × DataW H → Nat
  | (.string bytes, d) => bytes.length + uptoBulk d + 1
  | (_, d) => uptoBulk d + 1
 end
def uptoSmall : (H : Type) → List (DataW H) → Bool := fun _ ds => decide (uptoBulkAll ds ≤ 1048576)
def OpenSpec.upto (s : _root_.Go.ChangeSpec) : _root_.Go.OpenSpec := { _root_.Go.OpenSpec.ofChange s with cond := some uptoSmall }

/-- 'meanderlaw03.ChainTimes', WHERE WHAT IT READS IS OF BULK AT MOST 1048576: true; the input reads as it did. -/
def chainTimesUptoRow : OpenClaim := { program := "ytkpecibbpogedaa", sum := "1c2a29fabdf842bd692eac553b9e0ffec610f32b33160a6c7222aac8999f349b", func := "meander/meanderlaw03.ChainTimes", spec := "chainTimes", unfollowed := true, recurses := true, apart := false, narrowed := true }
def ChainTimesUptoSaid : Prop := chainTimesUptoRow.holds Try.pinned (OpenSpec.upto chainTimesSpec)

/-- 'meanderlaw03.ChainSums', WHERE WHAT IT READS IS OF BULK AT MOST 1048576: true; the input reads as it did. -/
def chainSumsUptoRow : OpenClaim := { program := "ytkpecibbpogedaa", sum := "1c2a29fabdf842bd692eac553b9e0ffec610f32b33160a6c7222aac8999f349b", func := "meander/meanderlaw03.ChainSums", spec := "chainSums", unfollowed := true, recurses := true, apart := false, narrowed := true }
def ChainSumsUptoSaid : Prop := chainSumsUptoRow.holds Try.pinned (OpenSpec.upto chainSumsSpec)

/-- 'meanderlaw03.ChainLow', WHERE WHAT IT READS IS OF BULK AT MOST 1048576: true; the input reads as it did. -/
def chainLowUptoRow : OpenClaim := { program := "ytkpecibbpogedaa", sum := "1c2a29fabdf842bd692eac553b9e0ffec610f32b33160a6c7222aac8999f349b", func := "meander/meanderlaw03.ChainLow", spec := "chainLow", unfollowed := true, recurses := true, apart := false, narrowed := true }
def ChainLowUptoSaid : Prop := chainLowUptoRow.holds Try.pinned (OpenSpec.upto chainLowSpec)

/-- 'meanderlaw03.ChainCovers', WHERE WHAT IT READS IS OF BULK AT MOST 1048576: true; the input reads as it did. -/
def chainCoversUptoRow : OpenClaim := { program := "ytkpecibbpogedaa", sum := "1c2a29fabdf842bd692eac553b9e0ffec610f32b33160a6c7222aac8999f349b", func := "meander/meanderlaw03.ChainCovers", spec := "chainCovers", unfollowed := true, recurses := true, apart := false, narrowed := true }
def ChainCoversUptoSaid : Prop := chainCoversUptoRow.holds Try.pinned (OpenSpec.upto chainCoversSpec)

/-- 'meanderlaw03.ChainSteps', WHERE WHAT IT READS IS OF BULK AT MOST 1048576: true; the input reads as it did. -/
def chainStepsUptoRow : OpenClaim := { program := "ytkpecibbpogedaa", sum := "1c2a29fabdf842bd692eac553b9e0ffec610f32b33160a6c7222aac8999f349b", func := "meander/meanderlaw03.ChainSteps", spec := "chainSteps", unfollowed := true, recurses := true, apart := false, narrowed := true }
def ChainStepsUptoSaid : Prop := chainStepsUptoRow.holds Try.pinned (OpenSpec.upto chainStepsSpec)

/-- 'meanderlaw03.ChainUnion', WHERE WHAT IT READS IS OF BULK AT MOST 1048576: true; the input reads as it did. -/
def chainUnionUptoRow : OpenClaim := { program := "ytkpecibbpogedaa", sum := "1c2a29fabdf842bd692eac553b9e0ffec610f32b33160a6c7222aac8999f349b", func := "meander/meanderlaw03.ChainUnion", spec := "chainUnion", unfollowed := true, recurses := true, apart := false, narrowed := true }
def ChainUnionUptoSaid : Prop := chainUnionUptoRow.holds Try.pinned (OpenSpec.upto chainUnionSpec)

end Rows
end Go.Proofs.Ytkpecibbpogedaa
