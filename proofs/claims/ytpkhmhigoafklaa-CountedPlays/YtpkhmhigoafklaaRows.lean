/-
  No cell of these rows narrows 'for every input' (looked for: loops, veiled, ifaces, maps, wideKeys, modest, calm, conditions, laid).
  DERIVED. THE GIVEN ROWS OF THIS SEAT. 6 by the template 'for every input the law returns true; each argument reads behind the call as it read before'; 0 by the template 'total and deterministic' (their statements: YtpkhmhigoafklaaTotals.lean).
  GIVEN WITH THE SEED: the statements are not yours to turn. If you find one false, say at which input.
  Laid BY PROGRAM, IN A SANDBOX (cutbox-rows.mjs): the forced cells as the released guide's own fill.sh prints them over the translation 6cd6dee708e54087… (all of the seat's roots in one cut). By AI agents, Wed Nov 11 2026. No macro, syntax, notation, axiom, sorry.
-/
import Derived.Test.YtpkhmhigoafklaaChecked
import GoSem.Claim
import GoSem.ClaimJoined
import GoSem.ClaimMapViews
import Derived.JoinedTies
import Derived.KernelRfl
namespace Go.Proofs.Ytpkhmhigoafklaa
/- THE CELL 'sum', in the pinned program and in every row, IS THE sha256 OF THE DUMP (.gsa) THAT YtpkhmhigoafklaaProg.lean LOADS. Nothing in Lean hashes anything: it is a label: what it is worth is what the hold of that sum in a sandbox is worth. -/
noncomputable def Try.pinned : Pinned := { name := "ytpkhmhigoafklaa", sum := "6cd6dee708e540873ed8e5c9f4cdc809b85724ef3eec96040a64f828b7652c3d", checked := Try.checked }
namespace Rows
def none {H : Type} : Left H := { results := [], args := [] }

/-- 'meanderlaw04.CountedPlays': WHATEVER THE INPUT: true; the input reads as it did. -/
def countedPlaysSpec : ChangeSpec := { name := "countedPlays", fn := fun _ => fun
  | [d1, d2] => { results := [.lit (.bool true)], args := [d1, d2] }
  | _ => none }
def countedPlaysRow : OpenClaim := { program := "ytpkhmhigoafklaa", sum := "6cd6dee708e540873ed8e5c9f4cdc809b85724ef3eec96040a64f828b7652c3d", func := "meander/meanderlaw04.CountedPlays", spec := "countedPlays", inPlace := ["maps.clone"], unfollowed := true, recurses := true, plainKeys := false, apart := false }
def CountedPlaysSaid : Prop := countedPlaysRow.holds Try.pinned (OpenSpec.ofChange countedPlaysSpec)

/-- ITS FALSE NEIGHBOUR: 'it returns false'. Refute it at one input. -/
def countedPlaysWrong : ChangeSpec := { name := "countedPlays", fn := fun _ => fun
  | [d1, d2] => { results := [.lit (.bool false)], args := [d1, d2] }
  | _ => none }
def CountedPlaysWrongFalsely : Prop := countedPlaysRow.holds Try.pinned (OpenSpec.ofChange countedPlaysWrong)

/-- 'meanderlaw04.CountedOrder': WHATEVER THE INPUT: true; the input reads as it did. -/
def countedOrderSpec : ChangeSpec := { name := "countedOrder", fn := fun _ => fun
  | [d] => { results := [.lit (.bool true)], args := [d] }
  | _ => none }
def countedOrderRow : OpenClaim := { program := "ytpkhmhigoafklaa", sum := "6cd6dee708e540873ed8e5c9f4cdc809b85724ef3eec96040a64f828b7652c3d", func := "meander/meanderlaw04.CountedOrder", spec := "countedOrder", unfollowed := true, recurses := true, plainKeys := false, apart := false }
def CountedOrderSaid : Prop := countedOrderRow.holds Try.pinned (OpenSpec.ofChange countedOrderSpec)

/-- ITS FALSE NEIGHBOUR: 'it returns false'. Refute it at one input. -/
def countedOrderWrong : ChangeSpec := { name := "countedOrder", fn := fun _ => fun
  | [d] => { results := [.lit (.bool false)], args := [d] }
  | _ => none }
def CountedOrderWrongFalsely : Prop := countedOrderRow.holds Try.pinned (OpenSpec.ofChange countedOrderWrong)

/-- 'meanderlaw04.CountedFronts': WHATEVER THE INPUT: true; the input reads as it did. -/
def countedFrontsSpec : ChangeSpec := { name := "countedFronts", fn := fun _ => fun
  | [d] => { results := [.lit (.bool true)], args := [d] }
  | _ => none }
def countedFrontsRow : OpenClaim := { program := "ytpkhmhigoafklaa", sum := "6cd6dee708e540873ed8e5c9f4cdc809b85724ef3eec96040a64f828b7652c3d", func := "meander/meanderlaw04.CountedFronts", spec := "countedFronts", unfollowed := true, recurses := true, plainKeys := false, apart := false }
def CountedFrontsSaid : Prop := countedFrontsRow.holds Try.pinned (OpenSpec.ofChange countedFrontsSpec)

/-- ITS FALSE NEIGHBOUR: 'it returns false'. Refute it at one input. -/
def countedFrontsWrong : ChangeSpec := { name := "countedFronts", fn := fun _ => fun
  | [d] => { results := [.lit (.bool false)], args := [d] }
  | _ => none }
def CountedFrontsWrongFalsely : Prop := countedFrontsRow.holds Try.pinned (OpenSpec.ofChange countedFrontsWrong)

/-- 'meanderlaw04.CountedBack': WHATEVER THE INPUT: true; the input reads as it did. -/
def countedBackSpec : ChangeSpec := { name := "countedBack", fn := fun _ => fun
  | [d1, d2] => { results := [.lit (.bool true)], args := [d1, d2] }
  | _ => none }
def countedBackRow : OpenClaim := { program := "ytpkhmhigoafklaa", sum := "6cd6dee708e540873ed8e5c9f4cdc809b85724ef3eec96040a64f828b7652c3d", func := "meander/meanderlaw04.CountedBack", spec := "countedBack", unfollowed := true, recurses := true, plainKeys := false, apart := false }
def CountedBackSaid : Prop := countedBackRow.holds Try.pinned (OpenSpec.ofChange countedBackSpec)

/-- ITS FALSE NEIGHBOUR: 'it returns false'. Refute it at one input. -/
def countedBackWrong : ChangeSpec := { name := "countedBack", fn := fun _ => fun
  | [d1, d2] => { results := [.lit (.bool false)], args := [d1, d2] }
  | _ => none }
def CountedBackWrongFalsely : Prop := countedBackRow.holds Try.pinned (OpenSpec.ofChange countedBackWrong)

/-- 'meanderlaw04.CountedSums': WHATEVER THE INPUT: true; the input reads as it did. -/
def countedSumsSpec : ChangeSpec := { name := "countedSums", fn := fun _ => fun
  | [d] => { results := [.lit (.bool true)], args := [d] }
  | _ => none }
def countedSumsRow : OpenClaim := { program := "ytpkhmhigoafklaa", sum := "6cd6dee708e540873ed8e5c9f4cdc809b85724ef3eec96040a64f828b7652c3d", func := "meander/meanderlaw04.CountedSums", spec := "countedSums", unfollowed := true, recurses := true, plainKeys := false, apart := false }
def CountedSumsSaid : Prop := countedSumsRow.holds Try.pinned (OpenSpec.ofChange countedSumsSpec)

/-- ITS FALSE NEIGHBOUR: 'it returns false'. Refute it at one input. -/
def countedSumsWrong : ChangeSpec := { name := "countedSums", fn := fun _ => fun
  | [d] => { results := [.lit (.bool false)], args := [d] }
  | _ => none }
def CountedSumsWrongFalsely : Prop := countedSumsRow.holds Try.pinned (OpenSpec.ofChange countedSumsWrong)

/-- 'meanderlaw04.CountedApart': WHATEVER THE INPUT: true; the input reads as it did. -/
def countedApartSpec : ChangeSpec := { name := "countedApart", fn := fun _ => fun
  | [d1, d2] => { results := [.lit (.bool true)], args := [d1, d2] }
  | _ => none }
def countedApartRow : OpenClaim := { program := "ytpkhmhigoafklaa", sum := "6cd6dee708e540873ed8e5c9f4cdc809b85724ef3eec96040a64f828b7652c3d", func := "meander/meanderlaw04.CountedApart", spec := "countedApart", inPlace := ["maps.clone"], unfollowed := true, recurses := true, plainKeys := false, apart := false }
def CountedApartSaid : Prop := countedApartRow.holds Try.pinned (OpenSpec.ofChange countedApartSpec)

/-- ITS FALSE NEIGHBOUR: 'it returns false'. Refute it at one input. -/
def countedApartWrong : ChangeSpec := { name := "countedApart", fn := fun _ => fun
  | [d1, d2] => { results := [.lit (.bool false)], args := [d1, d2] }
  | _ => none }
def CountedApartWrongFalsely : Prop := countedApartRow.holds Try.pinned (OpenSpec.ofChange countedApartWrong)

/- THE SECOND FORM. 'bulk': how many values and letters a reading holds, each counted each time it is reached (what is shared counts as often as it is met; a slice's spare places count too). A statement '..UptoSaid' is the law's where the arguments, and the package variables that the reading takes, are together of bulk at most 1048576: NARROWER than '..Said'. Prove '..Said' where nothing that the law and all that it calls make is longer than what came in: it says more and counts as full. Else prove '..UptoSaid'. A law counts once. -/
mutual
def uptoBulk {H : Type} : DataW H → Nat
  | .lit (.string bytes) => bytes.length + 1
  | .lit _ => 1
  | .nil => 1
  | .ptr d => uptoBulk d + 1
  | .slice elems spare => uptoBulkAll elems + uptoBulkAll spare + 1
  | .agg parts => uptoBulkAll parts + 1
  | .iface _ d => uptoBulk d + 1
  | .map entries => uptoBulkEntries entries + 1
  | .held _ => 1
def uptoBulkAll {H : Type} : List (DataW H) → Nat
  | [] => 0
  | d :: r => uptoBulk d + uptoBulkAll r
def uptoBulkEntries {H : Type} : List (Lit × DataW H) → Nat
  | [] => 0
  | x :: r => uptoBulkEntry x + uptoBulkEntries r
def uptoBulkEntry {H : Type} : Lit × DataW H → Nat
  | (.string bytes, d) => bytes.length + uptoBulk d + 1
  | (_, d) => uptoBulk d + 1
 end
def uptoSmall : (H : Type) → List (DataW H) → Bool := fun _ ds => decide (uptoBulkAll ds ≤ 1048576)
def OpenSpec.upto (s : _root_.Go.ChangeSpec) : _root_.Go.OpenSpec := { _root_.Go.OpenSpec.ofChange s with cond := some uptoSmall }

/-- 'meanderlaw04.CountedPlays', WHERE WHAT IT READS IS OF BULK AT MOST 1048576: true; the input reads as it did. -/
def countedPlaysUptoRow : OpenClaim := { program := "ytpkhmhigoafklaa", sum := "6cd6dee708e540873ed8e5c9f4cdc809b85724ef3eec96040a64f828b7652c3d", func := "meander/meanderlaw04.CountedPlays", spec := "countedPlays", inPlace := ["maps.clone"], unfollowed := true, recurses := true, plainKeys := false, apart := false, narrowed := true }
def CountedPlaysUptoSaid : Prop := countedPlaysUptoRow.holds Try.pinned (OpenSpec.upto countedPlaysSpec)

/-- 'meanderlaw04.CountedOrder', WHERE WHAT IT READS IS OF BULK AT MOST 1048576: true; the input reads as it did. -/
def countedOrderUptoRow : OpenClaim := { program := "ytpkhmhigoafklaa", sum := "6cd6dee708e540873ed8e5c9f4cdc809b85724ef3eec96040a64f828b7652c3d", func := "meander/meanderlaw04.CountedOrder", spec := "countedOrder", unfollowed := true, recurses := true, plainKeys := false, apart := false, narrowed := true }
def CountedOrderUptoSaid : Prop := countedOrderUptoRow.holds Try.pinned (OpenSpec.upto countedOrderSpec)

/-- 'meanderlaw04.CountedFronts', WHERE WHAT IT READS IS OF BULK AT MOST 1048576: true; the input reads as it did. -/
def countedFrontsUptoRow : OpenClaim := { program := "ytpkhmhigoafklaa", sum := "6cd6dee708e540873ed8e5c9f4cdc809b85724ef3eec96040a64f828b7652c3d", func := "meander/meanderlaw04.CountedFronts", spec := "countedFronts", unfollowed := true, recurses := true, plainKeys := false, apart := false, narrowed := true }
def CountedFrontsUptoSaid : Prop := countedFrontsUptoRow.holds Try.pinned (OpenSpec.upto countedFrontsSpec)

/-- 'meanderlaw04.CountedBack', WHERE WHAT IT READS IS OF BULK AT MOST 1048576: true; the input reads as it did. -/
def countedBackUptoRow : OpenClaim := { program := "ytpkhmhigoafklaa", sum := "6cd6dee708e540873ed8e5c9f4cdc809b85724ef3eec96040a64f828b7652c3d", func := "meander/meanderlaw04.CountedBack", spec := "countedBack", unfollowed := true, recurses := true, plainKeys := false, apart := false, narrowed := true }
def CountedBackUptoSaid : Prop := countedBackUptoRow.holds Try.pinned (OpenSpec.upto countedBackSpec)

/-- 'meanderlaw04.CountedSums', WHERE WHAT IT READS IS OF BULK AT MOST 1048576: true; the input reads as it did. -/
def countedSumsUptoRow : OpenClaim := { program := "ytpkhmhigoafklaa", sum := "6cd6dee708e540873ed8e5c9f4cdc809b85724ef3eec96040a64f828b7652c3d", func := "meander/meanderlaw04.CountedSums", spec := "countedSums", unfollowed := true, recurses := true, plainKeys := false, apart := false, narrowed := true }
def CountedSumsUptoSaid : Prop := countedSumsUptoRow.holds Try.pinned (OpenSpec.upto countedSumsSpec)

/-- 'meanderlaw04.CountedApart', WHERE WHAT IT READS IS OF BULK AT MOST 1048576: true; the input reads as it did. -/
def countedApartUptoRow : OpenClaim := { program := "ytpkhmhigoafklaa", sum := "6cd6dee708e540873ed8e5c9f4cdc809b85724ef3eec96040a64f828b7652c3d", func := "meander/meanderlaw04.CountedApart", spec := "countedApart", inPlace := ["maps.clone"], unfollowed := true, recurses := true, plainKeys := false, apart := false, narrowed := true }
def CountedApartUptoSaid : Prop := countedApartUptoRow.holds Try.pinned (OpenSpec.upto countedApartSpec)

end Rows
end Go.Proofs.Ytpkhmhigoafklaa
