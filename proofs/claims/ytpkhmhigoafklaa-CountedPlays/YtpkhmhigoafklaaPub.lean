/-
  What chain's own functions do to the world: Times, Sums, Covers, CoversSum, Add, AddSum of every row; what was there stays as it was.
-/
import Derived.Test.YtpkhmhigoafklaaAdd
namespace Go.Proofs.Ytpkhmhigoafklaa
set_option maxRecDepth 100000
open Go.RowKit
set_option linter.unusedVariables false

set_option maxHeartbeats 400000 in
theorem chainT_any (s : Option Addr) (n cap : Nat) (d : List Tm) (w : World) (hbig : n ≤ 100000) (hd : IsTms w s n cap d) :
    Calls Try.prog 32 #[.slice s n cap] w fun e w' => ∃ v, e = .returned v ∧ Grow w w' ∧ IsRowT (chainO kinT d) v w' := by
  have HD := hide hd
  clear hd
  go_enter Try.func32, Try.ntmps32
  go_wp2_with fail
  refine (mkT_any _).mono ?_
  rintro e w1 ⟨rfl, hb⟩
  have G := hide hb
  have H1 := hide (HD.out.later hb)
  clear hb
  go_wp2_with fail
  refine (lowT_row s n cap d w1 hbig H1.out).mono ?_
  rintro e w2 ⟨v, rfl, hb, hr⟩
  obtain ⟨s', m, c', rfl, hI⟩ := hr
  have G2 := hide (Grow.trans' G.out hb)
  have H2 := hide hI
  clear hb hI
  go_wp2_with fail
  go_ret
  exact ⟨_, rfl, G2.out, s', m, c', rfl, H2.out⟩



end Go.Proofs.Ytpkhmhigoafklaa
