/-
  What the document's own Same does to the world: of two rows of the same times it says yes, and what was there stays as it was.
-/
import Derived.Test.YtbohgfcndclbjaaPut
import Derived.Test.YtbohgfcndclbjaaEq
namespace Go.Proofs.Ytbohgfcndclbjaa
open Go.RowKit
attribute [local go_sem ↓] eqTm
set_option linter.unusedVariables false

set_option maxHeartbeats 1000000 in
theorem same_any (s s' : Option Addr) (cap cap' n : Nat) (d : List Tm) (w : World) (hn : d.length = n) (hbig : n ≤ 1000000)
    (h1 : d = [] ∨ ∃ b o, s = some ⟨b, o, none⟩ ∧ RowT w b o d) (h2 : d = [] ∨ ∃ b o, s' = some ⟨b, o, none⟩ ∧ RowT w b o d) :
    Calls Try.prog 24 #[.slice s n cap, .slice s' n cap'] w fun e w' => e = .returned (.bool true) ∧ Grow w w' := by
  have H1 := hide h1
  have H2 := hide h2
  have HN := hide hn
  clear h1 h2 hn
  go_enter Try.func24, Try.ntmps24
  go_wp2
  go_loopw [5] (fun i wr => ∃ k : Nat, k ≤ n ∧ i = .int .i64 k ∧ ∃ q, wr = w.drewN q) (fun i _ => n - (intOf i).toNat)
  case atStart => exact ⟨0, Nat.zero_le _, rfl, 0, rfl⟩
  case round =>
    obtain ⟨k, hk, rfl, q, rfl⟩ := hrel
    by_cases hlt : k < n
    · have hkd : k < d.length := by rw [HN.out]; exact hlt
      have hne : ¬ d = [] := fun h => by rw [h] at hkd; simp at hkd
      obtain ⟨b, o, rfl, hr1⟩ := H1.out.resolve_left hne
      obtain ⟨b', o', rfl, hr2⟩ := H2.out.resolve_left hne
      obtain ⟨p0, p1, p2, p3, p4⟩ := hr1.at k hkd
      obtain ⟨q0, q1, q2, q3, q4⟩ := hr2.at k hkd
      have hi1 : (0 : Int) ≤ (k : Int) := by omega
      have hi2 : (k : Int) < (n : Int) := by omega
      have es : eqB d[k] d[k] = true := by simp [eqB]
      clear hne hr1 hr2
      go_wp2
      go_quiet (fail)
      go_wp2
      go_roundw
      case rel => exact ⟨k + 1, by omega, by go_num, _, rfl⟩
      case measure => simp [intOf]; omega
    · go_wp2
      go_ret
      exact ⟨rfl, below_drewN (Below.refl _ _) _⟩

end Go.Proofs.Ytbohgfcndclbjaa
