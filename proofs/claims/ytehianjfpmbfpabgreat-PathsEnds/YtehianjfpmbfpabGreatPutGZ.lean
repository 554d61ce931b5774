/-
  What the document's own Put does to the world: the time is laid into the row at its place, in a new row, and what was there stays as it was.
-/
import Derived.Test.YtehianjfpmbfpabGreatRowVZ
import Derived.Test.YtehianjfpmbfpabGreatOd
import Derived.Lib.QuietBelow
namespace Go.Proofs.YtehianjfpmbfpabGreat
open Go.RowKit Go.Sort
set_option linter.unusedVariables false

def notBehind (t : Tm) (x : Tm) : Bool := decide (orderI x t ≤ 0)
def insT (d : List Tm) (t : Tm) : List Tm := d.takeWhile (notBehind t) ++ t :: d.dropWhile (notBehind t)
def posT (d : List Tm) (t : Tm) : Nat := (d.takeWhile (notBehind t)).length

theorem pos_lt (d : List Tm) (t : Tm) (k : Nat) (h : k < posT d t) : orderI (d[k]'(Nat.lt_of_lt_of_le h (List.takeWhile_sublist _).length_le)) t ≤ 0 := by
  have h1 : d.takeWhile (notBehind t) <+: d := List.takeWhile_prefix _
  have h2 : (d.takeWhile (notBehind t))[k]'h = d[k]'(Nat.lt_of_lt_of_le h (List.takeWhile_sublist _).length_le) := h1.getElem h
  have h3 := List.all_eq_true.1 (List.all_takeWhile (p := notBehind t) (l := d)) _ (List.getElem_mem h)
  rw [h2] at h3
  simpa [notBehind] using h3
theorem pos_at : ∀ (d : List Tm) (t : Tm) (k : Nat) (hk : k = posT d t) (h : k < d.length), 0 < orderI d[k] t
  | [], _, _, _, h => by simp at h
  | x :: l, t, k, hk, h => by
    unfold posT at hk
    rw [List.takeWhile_cons] at hk
    by_cases hp : notBehind t x = true
    · rw [if_pos hp] at hk
      simp only [List.length_cons] at hk
      subst hk
      exact pos_at l t _ rfl (by simp at h; exact h)
    · rw [if_neg hp] at hk
      simp only [List.length_nil] at hk
      subst hk
      simp [notBehind] at hp
      simpa using hp

def sliceOff (o cap k : Nat) : Nat := if cap = k then o else o + k * 5
theorem run_sliceT (b o n cap k : Nat) (w : World) (h1 : (k : Int) ≤ (n : Int)) :
    (Instr.slice 45 (.slice (some ⟨b, o, none⟩) n cap) (some (.int .i64 (k : Int))) none none).run Tryz.prog w = .ok (.slice (some ⟨b, sliceOff o cap k, none⟩) (n - k) (cap - k)) w := by
  have h0 : (0 : Int) ≤ (k : Int) := by omega
  have z := Tryz.sizeOf44
  unfold sliceOff
  by_cases hc : cap = k
  · subst hc
    simp [go_sem, h1]
  · simp [go_sem, h1, hc]

theorem row_from {w : World} {b o : Nat} {d : List Tm} (h : RowT w b o d) (k cap : Nat) (hd : d.length ≤ cap) : RowT w b (sliceOff o cap k) (d.drop k) := by
  unfold sliceOff
  by_cases hk : cap = k
  · rw [List.drop_of_length_le (by omega)]
    intro j v hj
    simp [flatT] at hj
  · rw [if_neg hk]
    exact h.drop' k

theorem ins_eq (d : List Tm) (t : Tm) : insT d t = d.take (posT d t) ++ [t] ++ d.drop (posT d t) := by
  unfold insT posT
  rw [← takeWhile_eq_take, ← dropWhile_eq_drop]
  simp
attribute [local go_sem ↓] run_sliceT
end Go.Proofs.YtehianjfpmbfpabGreat
