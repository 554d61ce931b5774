/-
  What Take and Load tell of all bytes, both ways in one: a graph, with no rows where there is an error, and the error; heads of rows of bytes.
-/
import Derived.Test.YtjebipagehhkjaaGreatKHd
import Derived.Test.YtjebipagehhkjaaGreatKSg
import Derived.Test.YtjebipagehhkjaaGreatKLd
namespace Go.Proofs.YtjebipagehhkjaaGreat
set_option maxRecDepth 100000
open Go.ChangeShapes Go.WideShapes Go.ChangeAt Go.RowKit Go.Deep Go.Sort
set_option linter.unusedVariables false
set_option linter.unusedSimpArgs false

def tN (d : List UInt8) : List Nd := if isB10 d = true then tkN d else []
def tE (d : List UInt8) : List Ed := if isB10 d = true then tkE d else []
def tC (d : List UInt8) : Int := if isB10 d = true then 0 else 2
theorem tN_le (d : List UInt8) : (tN d).length ≤ 255 := by
  unfold tN
  split
  · unfold tkN; rw [ndsAt_length]; have := (atB d 2).toNat_lt; unfold nn; omega
  · simp
theorem tE_le (d : List UInt8) : (tE d).length ≤ 255 := by
  unfold tE
  split
  · unfold tkE; rw [edsAt_length]; have := (atB d (3 + 6 * nn d)).toNat_lt; unfold ne; omega
  · simp
def lN (d : List UInt8) : List Nd := if ldE d = 0 then tkN d else []
def lE (d : List UInt8) : List Ed := if ldE d = 0 then tkE d else []
def lC (d : List UInt8) : Int := ldE d
theorem lN_le (d : List UInt8) : (lN d).length ≤ 255 := by
  unfold lN
  split
  · unfold tkN; rw [ndsAt_length]; have := (atB d 2).toNat_lt; unfold nn; omega
  · simp
theorem lE_le (d : List UInt8) : (lE d).length ≤ 255 := by
  unfold lE
  split
  · unfold tkE; rw [edsAt_length]; have := (atB d (3 + 6 * nn d)).toNat_lt; unfold ne; omega
  · simp
theorem Taken.any {d : List UInt8} {w w' : World} {e : Ending} (h : Taken d w e w') : Grow w w' ∧ ∃ s c t q, e = .returned (.tuple #[.agg #[.slice s (tN d).length c, .slice t (tE d).length q], .int .i64 (tC d)]) ∧ IsNds w' s (tN d).length c (tN d) ∧ IsEds w' t (tE d).length q (tE d) := by
  obtain ⟨hg, ⟨hy, s, c, t, q, rfl, h1, h2⟩ | ⟨hy, rfl⟩⟩ := h
  · have e1 : tN d = tkN d := by unfold tN; rw [if_pos hy]
    have e2 : tE d = tkE d := by unfold tE; rw [if_pos hy]
    have e3 : tC d = 0 := by unfold tC; rw [if_pos hy]
    rw [e1, e2, e3]
    have l1 : (tkN d).length = nn d := by unfold tkN; exact ndsAt_length _ _ _
    have l2 : (tkE d).length = ne d := by unfold tkE; exact edsAt_length _ _ _
    rw [l1, l2]
    exact ⟨hg, s, c, t, q, rfl, h1.is, h2.is⟩
  · have hy' : ¬ isB10 d = true := by rw [hy]; decide
    have e1 : tN d = [] := by unfold tN; rw [if_neg hy']
    have e2 : tE d = [] := by unfold tE; rw [if_neg hy']
    have e3 : tC d = 2 := by unfold tC; rw [if_neg hy']
    rw [e1, e2, e3]
    exact ⟨hg, none, 0, none, 0, rfl, IsNds_nil _, IsEds_nil _⟩
theorem Loaded.any {d : List UInt8} {w w' : World} {e : Ending} (h : Loaded d w e w') : Grow w w' ∧ ∃ s c t q, e = .returned (.tuple #[.agg #[.slice s (lN d).length c, .slice t (lE d).length q], .int .i64 (lC d)]) ∧ IsNds w' s (lN d).length c (lN d) ∧ IsEds w' t (lE d).length q (lE d) := by
  obtain ⟨hg, ⟨h0, hy, s, c, t, q, rfl, h1, h2⟩ | ⟨h0, rfl⟩⟩ := h
  · have e1 : lN d = tkN d := by unfold lN; rw [if_pos h0]
    have e2 : lE d = tkE d := by unfold lE; rw [if_pos h0]
    have e3 : lC d = 0 := h0
    rw [e1, e2, e3]
    have l1 : (tkN d).length = nn d := by unfold tkN; exact ndsAt_length _ _ _
    have l2 : (tkE d).length = ne d := by unfold tkE; exact edsAt_length _ _ _
    rw [l1, l2]
    exact ⟨hg, s, c, t, q, rfl, h1, h2⟩
  · have e1 : lN d = [] := by unfold lN; rw [if_neg h0]
    have e2 : lE d = [] := by unfold lE; rw [if_neg h0]
    rw [e1, e2]
    exact ⟨hg, none, 0, none, 0, rfl, IsNds_nil _, IsEds_nil _⟩
theorem ret_graph {n n' m m' : Nat} {s t : Option Addr} {c q : Nat} {C C' : Int} (h1 : n = n') (h2 : m = m') (h3 : C = C') : Ending.returned (.tuple #[.agg #[.slice s n c, .slice t m q], .int .i64 C]) = .returned (.tuple #[.agg #[.slice s n' c, .slice t m' q], .int .i64 C']) := by subst h1; subst h2; subst h3; rfl
end Go.Proofs.YtjebipagehhkjaaGreat
