/-
  What Clone and add do to the world: of every row and one more its chain, and whether the one was missing; what was there stays as it was.
-/
import Derived.Test.YtpkhmhigoafklaaLow
import Derived.Test.YtpkhmhigoafklaaRowA
import Derived.Test.YtpkhmhigoafklaaInvK
import Derived.Lib.SliceRun
namespace Go.Proofs.Ytpkhmhigoafklaa
set_option maxRecDepth 100000
open Go.RowKit
set_option linter.unusedVariables false

theorem lowT_row (s : Option Addr) (n cap : Nat) (d : List Tm) (w : World) (hbig : n ≤ 100000) (hd : IsTms w s n cap d) :
    Calls Try.prog 42 #[.agg #[.func (.func 24) #[] #[], .func (.func 47) #[] #[], .func (.func 39) #[] #[]], .slice s n cap] w
      fun e w' => ∃ v, e = .returned v ∧ Grow w w' ∧ IsRowT (chainO kinT d) v w' :=
  (lowT_any s n cap d w hbig hd).mono fun e w' ⟨s', m, cap', he, hg, hO⟩ => ⟨_, he, hg, _, _, _, rfl, hO.is⟩
theorem mayT_at (x : Tm) {p : Bool} (h : kinT.may x = p) (w : World) : Calls Try.prog 24 #[.agg #[.int .i64 x.e, .int .i64 x.d, .int .i64 x.x, .int .i64 x.y, .int .i64 x.z]] w fun e w' => e = .returned (.bool p) ∧ Grow w w' := by
  rw [← h]; exact may_any x w
theorem covT_at (s : Option Addr) (n cap : Nat) (d : List Tm) (x : Tm) {p : Bool} (h : coverB kinT d x = p) (w : World) (hbig : n ≤ 1000000) (hd : IsTms w s n cap d) :
    Calls Try.prog 49 #[.agg #[.func (.func 24) #[] #[], .func (.func 47) #[] #[], .func (.func 39) #[] #[]], .slice s n cap, .agg #[.int .i64 x.e, .int .i64 x.d, .int .i64 x.x, .int .i64 x.y, .int .i64 x.z]] w
      fun e w' => e = .returned (.bool p) ∧ Grow w w' := by
  rw [← h]; exact covT_any s n cap d x w hbig hd

end Go.Proofs.Ytpkhmhigoafklaa
