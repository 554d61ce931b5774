/-
  What the laws of counted lean on besides: numbers made small, two maps apart, answers named; no law of its own.
-/
import Derived.Test.YtpkhmhigoafklaaLCtSums
import Derived.Test.YtpkhmhigoafklaaPivR
import Derived.Test.YtpkhmhigoafklaaSmeG
namespace Go.Proofs.Ytpkhmhigoafklaa
set_option maxRecDepth 100000
open Go.RowKit
set_option linter.unusedVariables false

theorem RepC.far {w w' : World} {p b c : Nat} {s : Cs} (h : RepC w p b s) (hg : w.grownBy w' (some c)) (hp : p ≠ c) (hb : b ≠ c) : RepC w' p b s :=
  h.keep (hg.block p h.lt fun e => hp (Option.some.inj e)) (hg.block b h.map.lt fun e => hb (Option.some.inj e))
theorem small_err_val (l : List Opn) (hl : l.length ≤ 100) (hsm : ∀ o ∈ l, -100 ≤ o.n ∧ o.n ≤ 100) (t : Tm) (n : Int) (hn : -100 ≤ n ∧ n ≤ 100) : ((Cs.none.adds l).err t n == 0) = mayB t := by
  have := Cs.small_err l hl hsm t n hn
  rw [Bool.eq_iff_iff, beq_iff_eq]; exact this
theorem adds_rev (L : List Opn) (hl : L.length ≤ 100) (hsm : ∀ o ∈ L, -100 ≤ o.n ∧ o.n ≤ 100) : Cs.none.adds L.reverse = Cs.none.adds L := by
  refine Cs.ext' (Cs.adds_ok Cs.none_ok _) (Cs.adds_ok Cs.none_ok _) (funext fun x => ?_)
  rw [(Cs.adds_small L.reverse (by simpa using hl) (fun o ho => hsm o (by simpa using ho))).1, (Cs.adds_small L hl hsm).1, sumOf_reverse]

end Go.Proofs.Ytpkhmhigoafklaa
