/-
  Windows of epochs as plain data: which may be, their first and last epochs, which ones have an epoch, in order. No program is named here.
-/
import Derived.Test.YtehianjfpmbfpaaGreatBase
namespace Go.Proofs.YtehianjfpmbfpaaGreat
set_option linter.unusedVariables false

def mayW (a b : Int) : Bool := decide (1 ≤ a) && decide (a ≤ 20) && decide (1 ≤ b) && decide (b ≤ a)
theorem mayW_iff (a b : Int) : mayW a b = true ↔ 1 ≤ a ∧ a ≤ 20 ∧ 1 ≤ b ∧ b ≤ a := by simp [mayW, and_assoc]
def inE (e : Int) : Bool := decide (0 ≤ e) && decide (e ≤ 1048576)
theorem inE_iff (e : Int) : inE e = true ↔ 0 ≤ e ∧ e ≤ 1048576 := by simp [inE]
def firstW (b k : Int) : Int := if 1 ≤ b ∧ b ≤ 20 ∧ 0 ≤ k ∧ k ≤ 1048576 then b * k else -1
def lastW (a b k : Int) : Int := if mayW a b = true ∧ 0 ≤ k ∧ k ≤ 1048576 then b * k + a - 1 else -1
/-- The first and the last window that has the epoch. -/
def loW (a b e : Int) : Int := if e - a + 1 ≤ 0 then 0 else (e - a + b) / b
def hiW (b e : Int) : Int := e / b
theorem le_hiW {b e k : Int} (hb : 1 ≤ b) : k ≤ hiW b e ↔ b * k ≤ e := by
  unfold hiW
  rw [Int.le_ediv_iff_mul_le (by omega), Int.mul_comm]
theorem loW_le {a b e k : Int} (ha : 1 ≤ a) (hb : 1 ≤ b) (hk : 0 ≤ k) : loW a b e ≤ k ↔ e ≤ b * k + a - 1 := by
  unfold loW
  split
  · have := Int.mul_nonneg (show 0 ≤ b by omega) hk
    constructor <;> intro _ <;> omega
  · have h1 : (e - a + b) / b ≤ k ↔ (e - a + b) / b < k + 1 := by omega
    rw [h1, Int.ediv_lt_iff_lt_mul (by omega), Int.add_mul, Int.one_mul, Int.mul_comm k b]
    omega
theorem loW_nonneg {a b e : Int} (hb : 1 ≤ b) (hba : b ≤ a) : 0 ≤ loW a b e := by
  unfold loW
  split
  · exact Int.le_refl _
  · exact Int.ediv_nonneg (by omega) (by omega)
theorem hiW_nonneg {b e : Int} (hb : 1 ≤ b) (he : 0 ≤ e) : 0 ≤ hiW b e := Int.ediv_nonneg he (by omega)
theorem hiW_in {b e : Int} (hb : 1 ≤ b) : b * hiW b e ≤ e ∧ e < b * hiW b e + b := by
  unfold hiW
  exact ⟨Int.mul_ediv_self_le (by omega), Int.lt_mul_ediv_self_add (by omega)⟩
theorem hiW_le {b e : Int} (hb : 1 ≤ b) (he : 0 ≤ e) : hiW b e ≤ e := by
  have h1 := hiW_in (e := e) hb
  have h2 := hiW_nonneg hb he
  have h3 : 0 ≤ (b - 1) * hiW b e := Int.mul_nonneg (by omega) h2
  rw [Int.sub_mul, Int.one_mul] at h3
  omega
/-- The epoch's last window has it. -/
theorem lo_le_hi {a b e : Int} (ha : 1 ≤ a) (hb : 1 ≤ b) (hba : b ≤ a) (he : 0 ≤ e) : loW a b e ≤ hiW b e := by
  rw [loW_le ha hb (hiW_nonneg hb he)]
  have := hiW_in (e := e) hb
  omega
/-- How many windows have it. -/
def manyW (a b e : Int) : Nat := if mayW a b = true ∧ inE e = true then (hiW b e - loW a b e + 1).toNat else 0
/-- The windows that have the epoch. -/
def ofW (a b e : Int) : List Int := (List.range (manyW a b e)).map fun (i : Nat) => loW a b e + (i : Int)
theorem ofW_len (a b e : Int) : (ofW a b e).length = manyW a b e := by simp [ofW]
theorem ofW_get (a b e : Int) (i : Nat) (h : i < (ofW a b e).length) : (ofW a b e)[i] = loW a b e + (i : Int) := by simp [ofW]
theorem ofW_none {a b e : Int} (h : ¬ (mayW a b = true ∧ inE e = true)) : ofW a b e = [] := by
  unfold ofW manyW
  rw [if_neg h]
  rfl
theorem ofW_mem {a b e : Int} (h : mayW a b = true) (he : inE e = true) (k : Int) : k ∈ ofW a b e ↔ 0 ≤ k ∧ b * k ≤ e ∧ e ≤ b * k + a - 1 := by
  obtain ⟨h1, h2, h3, h4⟩ := (mayW_iff a b).1 h
  obtain ⟨e1, e2⟩ := (inE_iff e).1 he
  have hlo := loW_nonneg (e := e) h3 h4
  have hhi := lo_le_hi h1 h3 h4 e1
  unfold ofW manyW
  rw [if_pos ⟨h, he⟩, List.mem_map]
  constructor
  · rintro ⟨i, hi, rfl⟩
    have hi' := List.mem_range.1 hi
    have hk : 0 ≤ loW a b e + (i : Int) := by omega
    exact ⟨hk, (le_hiW h3).1 (by omega), (loW_le h1 h3 hk).1 (by omega)⟩
  · rintro ⟨hk, k1, k2⟩
    have k1' := (le_hiW h3).2 k1
    have k2' := (loW_le h1 h3 hk).2 k2
    exact ⟨(k - loW a b e).toNat, List.mem_range.2 (by omega), by omega⟩
theorem manyW_pos {a b e : Int} (h : mayW a b = true) (he : inE e = true) : 1 ≤ manyW a b e ∧ ((manyW a b e : Nat) : Int) = hiW b e - loW a b e + 1 := by
  obtain ⟨h1, h2, h3, h4⟩ := (mayW_iff a b).1 h
  obtain ⟨e1, e2⟩ := (inE_iff e).1 he
  have hhi := lo_le_hi h1 h3 h4 e1
  unfold manyW
  rw [if_pos ⟨h, he⟩]
  omega
/-- Not more than a by b, rounded up. -/
theorem manyW_le {a b e : Int} (h : mayW a b = true) (he : inE e = true) : ((manyW a b e : Nat) : Int) ≤ (a + b - 1) / b := by
  obtain ⟨h1, h2, h3, h4⟩ := (mayW_iff a b).1 h
  obtain ⟨e1, e2⟩ := (inE_iff e).1 he
  have hm := manyW_pos h he
  have hlo := loW_nonneg (e := e) h3 h4
  rw [Int.le_ediv_iff_mul_le (by omega), hm.2, Int.mul_comm]
  have k1 := (loW_le h1 h3 hlo).1 (Int.le_refl (loW a b e))
  have k2 := hiW_in (e := e) h3
  rw [Int.mul_add, Int.mul_sub, Int.mul_one]
  omega
theorem manyW_one {a e : Int} (h : mayW a a = true) (he : inE e = true) : manyW a a e = 1 := by
  have h1 := manyW_le h he
  have h2 := manyW_pos h he
  obtain ⟨a1, a2, _, _⟩ := (mayW_iff a a).1 h
  have h3 : (a + a - 1) / a < 2 := by rw [Int.ediv_lt_iff_lt_mul (by omega)]; omega
  omega
/-- A step further. -/
theorem hiW_step {b e : Int} (hb : 1 ≤ b) : hiW b (e + b) = hiW b e + 1 := by
  unfold hiW
  rw [Int.add_ediv_of_dvd_right (Int.dvd_refl b), Int.ediv_self (by omega)]
theorem loW_step {a b e : Int} (ha : 1 ≤ a) (hb : 1 ≤ b) (hba : b ≤ a) (he : 0 ≤ e) : (loW a b (e + b) = loW a b e + 1) ∨ (loW a b (e + b) = 0 ∧ loW a b e = 0) := by
  have hlo := loW_nonneg (e := e) hb hba
  have hlo' := loW_nonneg (e := e + b) hb hba
  by_cases h : e + b - a + 1 ≤ 0
  · right
    unfold loW
    rw [if_pos h, if_pos (by omega)]
    exact ⟨rfl, rfl⟩
  · left
    have q1 : loW a b (e + b) ≤ loW a b e + 1 := by
      rw [loW_le ha hb (by omega), Int.mul_add, Int.mul_one]
      have := (loW_le ha hb hlo).1 (Int.le_refl (loW a b e))
      omega
    have q3 : 1 ≤ loW a b (e + b) := by
      rcases Int.lt_or_le (loW a b (e + b)) 1 with x | x
      · have h0 : loW a b (e + b) ≤ 0 := by omega
        rw [loW_le ha hb (Int.le_refl 0), Int.mul_zero] at h0
        omega
      · exact x
    have q2 : loW a b e ≤ loW a b (e + b) - 1 := by
      rw [loW_le ha hb (by omega), Int.mul_sub, Int.mul_one]
      have := (loW_le ha hb hlo').1 (Int.le_refl (loW a b (e + b)))
      omega
    omega

end Go.Proofs.YtehianjfpmbfpaaGreat
