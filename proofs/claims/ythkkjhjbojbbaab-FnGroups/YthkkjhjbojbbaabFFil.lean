/-
  What fn.MayFilter, fn.Filter, fn.MayReduce and fn.Route do to the world: each returns its plain answer, and what was there stays as it was.
-/
import Derived.Test.YthkkjhjbojbbaabFCon
import Derived.Lib.QuietBelow
namespace Go.Proofs.Ythkkjhjbojbbaab
set_option maxRecDepth 100000
open Go.RowKit Go.Sort
set_option linter.unusedVariables false
set_option linter.unusedSimpArgs false

theorem mayRed_at (a : Int) {p : Bool} (hp : mayRedB a = p) (w : World) :
    Calls Try.prog 9 #[.int .i64 a] w fun e w' => e = .returned (.bool p) ∧ w' = w := by
  have C := hide (isNumber_at a 5 (p := p) (by rw [← hp, Bool.eq_iff_iff]; simp [mayRedB]; omega) w)
  clear hp
  go_enter Try.func9, Try.ntmps9
  go_wp2_with fail
  refine (C.out).mono ?_
  rintro e w1 ⟨rfl, rfl⟩
  go_wp2_with fail
  go_ret
  exact ⟨rfl, rfl⟩

end Go.Proofs.Ythkkjhjbojbbaab
