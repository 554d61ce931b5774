/-
  Plain facts of joins and meets of times that may be; no program is named in them.
-/
import Derived.Test.YtbohgfcndclbjabFacts
namespace Go.Proofs.Ytbohgfcndclbjab
open Go.RowKit
set_option linter.unusedVariables false

theorem like_may {a b : Tm} (ha : mayB a = true) (hd : a.d = b.d) : likeB a b = true := by
  rw [may_iff] at ha; rw [like_iff]; omega
theorem err_no {a b : Tm} (hd : ¬ a.d = b.d) : errR a b = 1 := by
  have : likeB a b = false := by
    cases h : likeB a b
    · rfl
    · rw [like_iff] at h; exact absurd h.1 hd
  simp [errR, this]
theorem err_yes {a b : Tm} (ha : mayB a = true) (hd : a.d = b.d) : errR a b = 0 := by simp [errR, like_may ha hd]
theorem join_eq {a b : Tm} (ha : mayB a = true) (hd : a.d = b.d) : joinR a b = joinT a b := by simp [joinR, like_may ha hd]
theorem meet_eq {a b : Tm} (ha : mayB a = true) (hd : a.d = b.d) : meetR a b = meetT a b := by simp [meetR, like_may ha hd]

/-- What a join is, number by number. -/
theorem joinT_spec (a b : Tm) : (joinT a b).d = a.d ∧ (a.e ≤ (joinT a b).e ∧ b.e ≤ (joinT a b).e ∧ ((joinT a b).e = a.e ∨ (joinT a b).e = b.e))
    ∧ (0 < a.d → a.x ≤ (joinT a b).x ∧ b.x ≤ (joinT a b).x ∧ ((joinT a b).x = a.x ∨ (joinT a b).x = b.x)) ∧ (a.d ≤ 0 → (joinT a b).x = 0)
    ∧ (1 < a.d → a.y ≤ (joinT a b).y ∧ b.y ≤ (joinT a b).y ∧ ((joinT a b).y = a.y ∨ (joinT a b).y = b.y)) ∧ (a.d ≤ 1 → (joinT a b).y = 0)
    ∧ (2 < a.d → a.z ≤ (joinT a b).z ∧ b.z ≤ (joinT a b).z ∧ ((joinT a b).z = a.z ∨ (joinT a b).z = b.z)) ∧ (a.d ≤ 2 → (joinT a b).z = 0) := by
  have h1 := maxI_spec a.e b.e
  have h2 := maxI_spec a.x b.x
  have h3 := maxI_spec a.y b.y
  have h4 := maxI_spec a.z b.z
  refine ⟨rfl, h1, fun h => ?_, fun h => ?_, fun h => ?_, fun h => ?_, fun h => ?_, fun h => ?_⟩
  · simp only [joinT, if_pos h]; exact h2
  · simp only [joinT]; rw [if_neg (by omega)]
  · simp only [joinT, if_pos h]; exact h3
  · simp only [joinT]; rw [if_neg (by omega)]
  · simp only [joinT, if_pos h]; exact h4
  · simp only [joinT]; rw [if_neg (by omega)]
theorem meetT_spec (a b : Tm) : (meetT a b).d = a.d ∧ ((meetT a b).e ≤ a.e ∧ (meetT a b).e ≤ b.e ∧ ((meetT a b).e = a.e ∨ (meetT a b).e = b.e))
    ∧ (0 < a.d → (meetT a b).x ≤ a.x ∧ (meetT a b).x ≤ b.x ∧ ((meetT a b).x = a.x ∨ (meetT a b).x = b.x)) ∧ (a.d ≤ 0 → (meetT a b).x = 0)
    ∧ (1 < a.d → (meetT a b).y ≤ a.y ∧ (meetT a b).y ≤ b.y ∧ ((meetT a b).y = a.y ∨ (meetT a b).y = b.y)) ∧ (a.d ≤ 1 → (meetT a b).y = 0)
    ∧ (2 < a.d → (meetT a b).z ≤ a.z ∧ (meetT a b).z ≤ b.z ∧ ((meetT a b).z = a.z ∨ (meetT a b).z = b.z)) ∧ (a.d ≤ 2 → (meetT a b).z = 0) := by
  have h1 := minI_spec a.e b.e
  have h2 := minI_spec a.x b.x
  have h3 := minI_spec a.y b.y
  have h4 := minI_spec a.z b.z
  refine ⟨rfl, h1, fun h => ?_, fun h => ?_, fun h => ?_, fun h => ?_, fun h => ?_, fun h => ?_⟩
  · simp only [meetT, if_pos h]; exact h2
  · simp only [meetT]; rw [if_neg (by omega)]
  · simp only [meetT, if_pos h]; exact h3
  · simp only [meetT]; rw [if_neg (by omega)]
  · simp only [meetT, if_pos h]; exact h4
  · simp only [meetT]; rw [if_neg (by omega)]

set_option maxHeartbeats 2000000 in
theorem may_join {a b c : Tm} (ha : mayB a = true) (hb : mayB b = true) (hd : a.d = b.d)  : mayB (joinR a b) = true := by
  rw [join_eq ha hd]
  have hs := joinT_spec a b
  rw [may_iff] at ha hb
  skip
  generalize joinT a b = j at *
  rw [may_iff]
  obtain ⟨ae, ad, ax, ay, az⟩ := a
  obtain ⟨be, bd, bx, bY, bz⟩ := b
  obtain ⟨je, jd, jx, jy, jz⟩ := j
  skip
  dsimp only at *
  obtain ⟨s1, hs⟩ := hs
  subst hd s1
  have h3 : jd = 0 ∨ jd = 1 ∨ jd = 2 ∨ jd = 3 := by
    clear hs 
    omega
  rcases h3 with rfl | rfl | rfl | rfl <;> simp at * <;> omega
set_option maxHeartbeats 2000000 in
theorem may_meet {a b c : Tm} (ha : mayB a = true) (hb : mayB b = true) (hd : a.d = b.d)  : mayB (meetR a b) = true := by
  rw [meet_eq ha hd]
  have hs := meetT_spec a b
  rw [may_iff] at ha hb
  skip
  generalize meetT a b = j at *
  rw [may_iff]
  obtain ⟨ae, ad, ax, ay, az⟩ := a
  obtain ⟨be, bd, bx, bY, bz⟩ := b
  obtain ⟨je, jd, jx, jy, jz⟩ := j
  skip
  dsimp only at *
  obtain ⟨s1, hs⟩ := hs
  subst hd s1
  have h3 : jd = 0 ∨ jd = 1 ∨ jd = 2 ∨ jd = 3 := by
    clear hs 
    omega
  rcases h3 with rfl | rfl | rfl | rfl <;> simp at * <;> omega
set_option maxHeartbeats 2000000 in
theorem le_join_left {a b c : Tm} (ha : mayB a = true) (hb : mayB b = true) (hd : a.d = b.d)  : leB a (joinR a b) = true := by
  rw [join_eq ha hd]
  have hs := joinT_spec a b
  rw [may_iff] at ha hb
  skip
  generalize joinT a b = j at *
  rw [le_iff]
  obtain ⟨ae, ad, ax, ay, az⟩ := a
  obtain ⟨be, bd, bx, bY, bz⟩ := b
  obtain ⟨je, jd, jx, jy, jz⟩ := j
  skip
  dsimp only at *
  obtain ⟨s1, hs⟩ := hs
  subst hd s1
  have h3 : jd = 0 ∨ jd = 1 ∨ jd = 2 ∨ jd = 3 := by
    clear hs 
    omega
  rcases h3 with rfl | rfl | rfl | rfl <;> simp at * <;> omega
set_option maxHeartbeats 2000000 in
theorem le_join_right {a b c : Tm} (ha : mayB a = true) (hb : mayB b = true) (hd : a.d = b.d)  : leB b (joinR a b) = true := by
  rw [join_eq ha hd]
  have hs := joinT_spec a b
  rw [may_iff] at ha hb
  skip
  generalize joinT a b = j at *
  rw [le_iff]
  obtain ⟨ae, ad, ax, ay, az⟩ := a
  obtain ⟨be, bd, bx, bY, bz⟩ := b
  obtain ⟨je, jd, jx, jy, jz⟩ := j
  skip
  dsimp only at *
  obtain ⟨s1, hs⟩ := hs
  subst hd s1
  have h3 : jd = 0 ∨ jd = 1 ∨ jd = 2 ∨ jd = 3 := by
    clear hs 
    omega
  rcases h3 with rfl | rfl | rfl | rfl <;> simp at * <;> omega
set_option maxHeartbeats 2000000 in
theorem join_least {a b c : Tm} (ha : mayB a = true) (hb : mayB b = true) (hd : a.d = b.d) (h1 : leB a c = true) (h2 : leB b c = true) : leB (joinR a b) c = true := by
  rw [join_eq ha hd]
  have hs := joinT_spec a b
  rw [may_iff] at ha hb
  rw [le_iff] at h1 h2
  generalize joinT a b = j at *
  rw [le_iff]
  obtain ⟨ae, ad, ax, ay, az⟩ := a
  obtain ⟨be, bd, bx, bY, bz⟩ := b
  obtain ⟨je, jd, jx, jy, jz⟩ := j
  obtain ⟨ce, cd, cx, cy, cz⟩ := c
  dsimp only at *
  obtain ⟨s1, hs⟩ := hs
  subst hd s1
  have h3 : jd = 0 ∨ jd = 1 ∨ jd = 2 ∨ jd = 3 := by
    clear hs h1 h2
    omega
  rcases h3 with rfl | rfl | rfl | rfl <;> simp at * <;> omega
set_option maxHeartbeats 2000000 in
theorem meet_le_left {a b c : Tm} (ha : mayB a = true) (hb : mayB b = true) (hd : a.d = b.d)  : leB (meetR a b) a = true := by
  rw [meet_eq ha hd]
  have hs := meetT_spec a b
  rw [may_iff] at ha hb
  skip
  generalize meetT a b = j at *
  rw [le_iff]
  obtain ⟨ae, ad, ax, ay, az⟩ := a
  obtain ⟨be, bd, bx, bY, bz⟩ := b
  obtain ⟨je, jd, jx, jy, jz⟩ := j
  skip
  dsimp only at *
  obtain ⟨s1, hs⟩ := hs
  subst hd s1
  have h3 : jd = 0 ∨ jd = 1 ∨ jd = 2 ∨ jd = 3 := by
    clear hs 
    omega
  rcases h3 with rfl | rfl | rfl | rfl <;> simp at * <;> omega
set_option maxHeartbeats 2000000 in
theorem meet_le_right {a b c : Tm} (ha : mayB a = true) (hb : mayB b = true) (hd : a.d = b.d)  : leB (meetR a b) b = true := by
  rw [meet_eq ha hd]
  have hs := meetT_spec a b
  rw [may_iff] at ha hb
  skip
  generalize meetT a b = j at *
  rw [le_iff]
  obtain ⟨ae, ad, ax, ay, az⟩ := a
  obtain ⟨be, bd, bx, bY, bz⟩ := b
  obtain ⟨je, jd, jx, jy, jz⟩ := j
  skip
  dsimp only at *
  obtain ⟨s1, hs⟩ := hs
  subst hd s1
  have h3 : jd = 0 ∨ jd = 1 ∨ jd = 2 ∨ jd = 3 := by
    clear hs 
    omega
  rcases h3 with rfl | rfl | rfl | rfl <;> simp at * <;> omega
set_option maxHeartbeats 2000000 in
theorem meet_greatest {a b c : Tm} (ha : mayB a = true) (hb : mayB b = true) (hd : a.d = b.d) (h1 : leB c a = true) (h2 : leB c b = true) : leB c (meetR a b) = true := by
  rw [meet_eq ha hd]
  have hs := meetT_spec a b
  rw [may_iff] at ha hb
  rw [le_iff] at h1 h2
  generalize meetT a b = j at *
  rw [le_iff]
  obtain ⟨ae, ad, ax, ay, az⟩ := a
  obtain ⟨be, bd, bx, bY, bz⟩ := b
  obtain ⟨je, jd, jx, jy, jz⟩ := j
  obtain ⟨ce, cd, cx, cy, cz⟩ := c
  dsimp only at *
  obtain ⟨s1, hs⟩ := hs
  subst hd s1
  have h3 : jd = 0 ∨ jd = 1 ∨ jd = 2 ∨ jd = 3 := by
    clear hs h1 h2
    omega
  rcases h3 with rfl | rfl | rfl | rfl <;> simp at * <;> omega

end Go.Proofs.Ytbohgfcndclbjab
