/-
  Plain facts of logical times: the order, joins and meets; no program is named in them.
-/
import Derived.Test.YtehianjfpmbfpaaGreatBox
import Derived.Test.YtehianjfpmbfpaaGreatEq
namespace Go.Proofs.YtehianjfpmbfpaaGreat
open Go.RowKit
set_option linter.unusedVariables false

theorem may_iff (t : Tm) : mayB t = true ↔ 0 ≤ t.e ∧ t.e ≤ 1048576 ∧ 0 ≤ t.d ∧ t.d ≤ 3 ∧ 0 ≤ t.x ∧ 0 ≤ t.y ∧ 0 ≤ t.z ∧ (0 < t.d → t.x ≤ 1000) ∧ (t.d ≤ 0 → t.x ≤ 0) ∧ (1 < t.d → t.y ≤ 1000) ∧ (t.d ≤ 1 → t.y ≤ 0) ∧ (2 < t.d → t.z ≤ 1000) ∧ (t.d ≤ 2 → t.z ≤ 0) := by
  simp [mayB, depthB]
  constructor
  · rintro ⟨⟨⟨⟨⟨⟨⟨⟨h1, h2⟩, h3, h4⟩, h5⟩, h6⟩, h7⟩, h8⟩, h9⟩, h10⟩
    refine ⟨h1, h2, h3, h4, h5, h6, h7, ?_, ?_, ?_, ?_, ?_, ?_⟩ <;> intro h <;> (split at h8 <;> split at h9 <;> split at h10 <;> omega)
  · rintro ⟨h1, h2, h3, h4, h5, h6, h7, h8, h9, h10, h11, h12, h13⟩
    refine ⟨⟨⟨⟨⟨⟨⟨⟨h1, h2⟩, h3, h4⟩, h5⟩, h6⟩, h7⟩, ?_⟩, ?_⟩, ?_⟩ <;> split <;> omega
theorem le_iff (a b : Tm) : leB a b = true ↔ a.d = b.d ∧ 0 ≤ a.d ∧ a.d ≤ 3 ∧ a.e ≤ b.e ∧ (0 < a.d → a.x ≤ b.x) ∧ (1 < a.d → a.y ≤ b.y) ∧ (2 < a.d → a.z ≤ b.z) := by
  simp [leB, likeB, depthB]
  omega
theorem like_iff (a b : Tm) : likeB a b = true ↔ a.d = b.d ∧ 0 ≤ a.d ∧ a.d ≤ 3 := by simp [likeB, depthB]
theorem eq_iff (a b : Tm) : eqB a b = true ↔ a.e = b.e ∧ a.d = b.d ∧ a.x = b.x ∧ a.y = b.y ∧ a.z = b.z := by
  simp [eqB]
  omega
theorem cmpI_cases (a b : Int) : (cmpI a b = -1 ∧ a < b) ∨ (cmpI a b = 0 ∧ a = b) ∨ (cmpI a b = 1 ∧ b < a) := by
  unfold cmpI
  split
  · exact .inl ⟨rfl, by assumption⟩
  · split
    · exact .inr (.inr ⟨rfl, by assumption⟩)
    · exact .inr (.inl ⟨rfl, by omega⟩)
theorem order_anti (a b : Tm) : orderI a b = -orderI b a := by
  unfold orderI
  rcases cmpI_cases a.d b.d with ⟨h, h'⟩ | ⟨h, h'⟩ | ⟨h, h'⟩ <;> rcases cmpI_cases b.d a.d with ⟨k, k'⟩ | ⟨k, k'⟩ | ⟨k, k'⟩ <;> first | omega | skip
  all_goals simp only [h, k]
  all_goals try simp
  rcases cmpI_cases a.e b.e with ⟨h, h'⟩ | ⟨h, h'⟩ | ⟨h, h'⟩ <;> rcases cmpI_cases b.e a.e with ⟨k, k'⟩ | ⟨k, k'⟩ | ⟨k, k'⟩ <;> first | omega | skip
  all_goals simp only [h, k]
  all_goals try simp
  rcases cmpI_cases a.x b.x with ⟨h, h'⟩ | ⟨h, h'⟩ | ⟨h, h'⟩ <;> rcases cmpI_cases b.x a.x with ⟨k, k'⟩ | ⟨k, k'⟩ | ⟨k, k'⟩ <;> first | omega | skip
  all_goals simp only [h, k]
  all_goals try simp
  rcases cmpI_cases a.y b.y with ⟨h, h'⟩ | ⟨h, h'⟩ | ⟨h, h'⟩ <;> rcases cmpI_cases b.y a.y with ⟨k, k'⟩ | ⟨k, k'⟩ | ⟨k, k'⟩ <;> first | omega | skip
  all_goals simp only [h, k]
  all_goals try simp
  rcases cmpI_cases a.z b.z with ⟨h, h'⟩ | ⟨h, h'⟩ | ⟨h, h'⟩ <;> rcases cmpI_cases b.z a.z with ⟨k, k'⟩ | ⟨k, k'⟩ | ⟨k, k'⟩ <;> omega
theorem le_refl_may {a : Tm} (h : mayB a = true) : leB a a = true := by
  rw [may_iff] at h; rw [le_iff]; omega
theorem less_self (a : Tm) : lessB a a = false := by simp [lessB]
theorem le_anti {a b : Tm} (ha : mayB a = true) (hb : mayB b = true) (h1 : leB a b = true) (h2 : leB b a = true) : eqB a b = true := by
  rw [may_iff] at ha hb; rw [le_iff] at h1 h2; rw [eq_iff]; omega
theorem le_trans {a b c : Tm} (h1 : leB a b = true) (h2 : leB b c = true) : leB a c = true := by
  rw [le_iff] at h1 h2; rw [le_iff]; omega
theorem less_ahead {a b : Tm} (ha : mayB a = true) (hb : mayB b = true) (h : lessB a b = true) : orderI a b = -1 := by
  simp only [lessB, Bool.and_eq_true, Bool.not_eq_true'] at h
  obtain ⟨h1, h2⟩ := h
  have h2' : ¬ leB b a = true := by simp [h2]
  rw [may_iff] at ha hb; rw [le_iff] at h1 h2'
  unfold orderI
  rcases cmpI_cases a.d b.d with ⟨k1, k⟩ | ⟨k1, k⟩ | ⟨k1, k⟩ <;> simp only [k1] <;> first | omega | skip
  rcases cmpI_cases a.e b.e with ⟨k2, l⟩ | ⟨k2, l⟩ | ⟨k2, l⟩ <;> simp only [k2] <;> first | omega | simp | skip
  rcases cmpI_cases a.x b.x with ⟨k3, m⟩ | ⟨k3, m⟩ | ⟨k3, m⟩ <;> simp only [k3] <;> first | omega | simp | skip
  rcases cmpI_cases a.y b.y with ⟨k4, n⟩ | ⟨k4, n⟩ | ⟨k4, n⟩ <;> simp only [k4] <;> first | omega | simp | skip
  rcases cmpI_cases a.z b.z with ⟨k5, o⟩ | ⟨k5, o⟩ | ⟨k5, o⟩ <;> simp only [k5] <;> omega
theorem maxI_spec (x y : Int) : x ≤ maxI x y ∧ y ≤ maxI x y ∧ (maxI x y = x ∨ maxI x y = y) := by unfold maxI; split <;> omega
theorem minI_spec (x y : Int) : minI x y ≤ x ∧ minI x y ≤ y ∧ (minI x y = x ∨ minI x y = y) := by unfold minI; split <;> omega

end Go.Proofs.YtehianjfpmbfpaaGreat
