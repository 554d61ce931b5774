/-
  More plain facts of summaries: nodes that do nothing, the order of summaries, and what is done behind what is less; no program is named in them.
-/
import Derived.Test.YtehianjfpmbfpaaGreatSBase
namespace Go.Proofs.YtehianjfpmbfpaaGreat
open Go.RowKit
set_option linter.unusedVariables false

theorem compI_zero (i to keep add : Int) (h : to ≤ i → add = 0) : compI i to keep add 0 = add := by
  unfold compI
  repeat' split
  all_goals omega
theorem compI_zero' (i to keep old : Int) (h : keep ≤ i → old = 0) (hk : keep = to) : compI i to keep 0 old = old := by
  subst hk
  unfold compI
  repeat' split
  all_goals omega
theorem depthB_iff (d : Int) : depthB d = true ↔ 0 ≤ d ∧ d ≤ 3 := by simp [depthB]

theorem may_same {d : Int} (h : depthB d = true) : mayS (sameS d) = true ∧ (sameS d).f = d ∧ (sameS d).t = d := by
  have h' := (depthB_iff d).1 h
  unfold sameS
  rw [if_pos h]
  refine ⟨(mayS_iff _).2 ?_, rfl, rfl⟩
  dsimp only
  omega
theorem same_then {s : Sm} (h : mayS s = true) : thenE (sameS s.f) s = 0 ∧ thenS (sameS s.f) s = s := by
  have hm := (mayS_iff s).1 h
  have hd : depthB s.f = true := (depthB_iff _).2 ⟨hm.1.1, hm.1.2.1⟩
  have hs : sameS s.f = ⟨s.f, s.f, s.f, 0, 0, 0, 0⟩ := by unfold sameS; rw [if_pos hd]
  have hr : rawS (sameS s.f) s = s := by
    rw [hs]
    obtain ⟨⟨f0, f3, t0, t3⟩, ⟨k0, kf, kt⟩, he, hx, hy, hz⟩ := hm
    refine sm_eq rfl rfl ?_ ?_ ?_ ?_ ?_
    · simp only [rawS, minI]; split <;> omega
    · simp only [rawS]; omega
    · exact compI_zero 0 s.t s.k s.x (fun h => by have := hx.2.2 h; omega)
    · exact compI_zero 1 s.t s.k s.y (fun h => by have := hy.2.2 h; omega)
    · exact compI_zero 2 s.t s.k s.z (fun h => by have := hz.2.2 h; omega)
  have := thenE_mk (s := sameS s.f) (r := s) (may_same hd).1 h (may_same hd).2.2 (by rw [hr]; exact h)
  rw [hr] at this
  exact this
theorem then_same {s : Sm} (h : mayS s = true) : thenE s (sameS s.t) = 0 ∧ thenS s (sameS s.t) = s := by
  have hm := (mayS_iff s).1 h
  have hd : depthB s.t = true := (depthB_iff _).2 ⟨hm.1.2.2.1, hm.1.2.2.2⟩
  have hs : sameS s.t = ⟨s.t, s.t, s.t, 0, 0, 0, 0⟩ := by unfold sameS; rw [if_pos hd]
  have hr : rawS s (sameS s.t) = s := by
    rw [hs]
    obtain ⟨⟨f0, f3, t0, t3⟩, ⟨k0, kf, kt⟩, he, hx, hy, hz⟩ := hm
    refine sm_eq rfl rfl ?_ ?_ ?_ ?_ ?_
    · simp only [rawS, minI]; split <;> omega
    · simp only [rawS]; omega
    · exact compI_zero' 0 s.t s.t s.x (fun h => by have := hx.2.2 h; omega) rfl
    · exact compI_zero' 1 s.t s.t s.y (fun h => by have := hy.2.2 h; omega) rfl
    · exact compI_zero' 2 s.t s.t s.z (fun h => by have := hz.2.2 h; omega) rfl
  have := thenE_mk (s := s) (r := sameS s.t) h (may_same hd).1 (may_same hd).2.1.symm (by rw [hr]; exact h)
  rw [hr] at this
  exact this

theorem leS_iff (s r : Sm) : leS s r = true ↔ mayS s = true ∧ mayS r = true ∧ s.f = r.f ∧ s.t = r.t ∧ s.ep ≤ r.ep
    ∧ (0 < s.t → ¬ (0 < s.k ∧ r.k ≤ 0) ∧ s.x ≤ r.x) ∧ (1 < s.t → ¬ (1 < s.k ∧ r.k ≤ 1) ∧ s.y ≤ r.y) ∧ (2 < s.t → ¬ (2 < s.k ∧ r.k ≤ 2) ∧ s.z ≤ r.z) := by
  have key (i a b : Int) : ((decide (s.t ≤ i) || !(decide (i < s.k) && decide (r.k ≤ i)) && decide (a ≤ b)) = true) ↔ (i < s.t → ¬ (i < s.k ∧ r.k ≤ i) ∧ a ≤ b) := by
    simp only [Bool.or_eq_true, Bool.and_eq_true, Bool.not_eq_true', decide_eq_true_eq, ← Bool.not_eq_true, Bool.and_eq_true, decide_eq_true_eq]
    omega
  unfold leS
  simp only [Bool.and_eq_true, key, decide_eq_true_eq, and_assoc]
theorem comp_mono (i t sk rk sa ra old : Int) (h : i < t → ¬ (i < sk ∧ rk ≤ i) ∧ sa ≤ ra) (h0 : 0 ≤ old) (hi : i < t) : compI i t sk sa old ≤ compI i t rk ra old := by
  have := h hi
  unfold compI
  repeat' split
  all_goals omega
theorem comp_up (i t k a o1 o2 : Int) (h : i < k → o1 ≤ o2) : compI i t k a o1 ≤ compI i t k a o2 := by
  unfold compI
  repeat' split
  all_goals omega
/-- P2.4: what is less is less of each time. -/
theorem le_apply {s r : Sm} {t : Tm} (h : leS s r = true) (h1 : applyE s t = 0) (h2 : applyE r t = 0) : leB (applyT s t) (applyT r t) = true := by
  obtain ⟨ms, mr, hf, ht, he, hx, hy, hz⟩ := (leS_iff s r).1 h
  obtain ⟨⟨_, mt, _⟩, _, e1⟩ := applyE_ok h1
  obtain ⟨_, _, e2⟩ := applyE_ok h2
  have hm := (mayS_iff s).1 ms
  have hmt := (may_iff' t).1 mt
  rw [e1, e2, le_iff]
  refine ⟨ht, hm.1.2.2.1, hm.1.2.2.2, ?_, fun h => ?_, fun h => ?_, fun h => ?_⟩
  · show t.e + s.ep ≤ t.e + r.ep; omega
  · show compI 0 s.t s.k s.x t.x ≤ compI 0 r.t r.k r.x t.x
    rw [← ht]; exact comp_mono 0 s.t s.k r.k s.x r.x t.x hx hmt.2.1.1 h
  · show compI 1 s.t s.k s.y t.y ≤ compI 1 r.t r.k r.y t.y
    rw [← ht]; exact comp_mono 1 s.t s.k r.k s.y r.y t.y hy hmt.2.2.1.1 h
  · show compI 2 s.t s.k s.z t.z ≤ compI 2 r.t r.k r.z t.z
    rw [← ht]; exact comp_mono 2 s.t s.k r.k s.z r.z t.z hz hmt.2.2.2.1 h
/-- P2.4: Apply of greater times is not less. -/
theorem up_apply {s : Sm} {t u : Tm} (h : leB t u = true) (h1 : applyE s t = 0) (h2 : applyE s u = 0) : leB (applyT s t) (applyT s u) = true := by
  obtain ⟨⟨ms, mt, hd⟩, _, e1⟩ := applyE_ok h1
  obtain ⟨_, _, e2⟩ := applyE_ok h2
  have hm := (mayS_iff s).1 ms
  obtain ⟨l1, l2, l3, l4, l5, l6, l7⟩ := (le_iff t u).1 h
  rw [e1, e2, le_iff]
  refine ⟨rfl, hm.1.2.2.1, hm.1.2.2.2, ?_, fun h => ?_, fun h => ?_, fun h => ?_⟩
  · show t.e + s.ep ≤ u.e + s.ep; omega
  · exact comp_up 0 s.t s.k s.x t.x u.x (fun k => l5 (by omega))
  · exact comp_up 1 s.t s.k s.y t.y u.y (fun k => l6 (by omega))
  · exact comp_up 2 s.t s.k s.z t.z u.z (fun k => l7 (by omega))
theorem leS_refl {s : Sm} (h : mayS s = true) : leS s s = true :=
  (leS_iff s s).2 ⟨h, h, rfl, rfl, Int.le_refl _, fun _ => ⟨by omega, Int.le_refl _⟩, fun _ => ⟨by omega, Int.le_refl _⟩, fun _ => ⟨by omega, Int.le_refl _⟩⟩

/-- What is done behind what is less is less. -/
theorem comp_then_mono (i t ak bk ck ct cf aa ba ca : Int) (hi : i < ct) (h : i < t → ¬ (i < ak ∧ bk ≤ i) ∧ aa ≤ ba) (hc : ck ≤ cf) (he : t = cf) :
    ¬ (i < minI ak ck ∧ minI bk ck ≤ i) ∧ compI i ct ck ca aa ≤ compI i ct ck ca ba := by
  unfold compI minI
  repeat' split
  all_goals omega
theorem le_then {a b c : Sm} (h : leS a b = true) (h1 : thenE a c = 0) (h2 : thenE b c = 0) : leS (thenS a c) (thenS b c) = true := by
  obtain ⟨ma, mb, hf, ht, he, hx, hy, hz⟩ := (leS_iff a b).1 h
  obtain ⟨⟨_, mc, hd⟩, m1, e1⟩ := thenE_ok h1
  obtain ⟨_, m2, e2⟩ := thenE_ok h2
  have hm := (mayS_iff c).1 mc
  rw [e1, e2, leS_iff]
  refine ⟨m1, m2, hf, rfl, ?_, fun h => ?_, fun h => ?_, fun h => ?_⟩
  · show a.ep + c.ep ≤ b.ep + c.ep; omega
  · exact comp_then_mono 0 a.t a.k b.k c.k c.t c.f a.x b.x c.x h hx hm.2.1.2.1 hd
  · exact comp_then_mono 1 a.t a.k b.k c.k c.t c.f a.y b.y c.y h hy hm.2.1.2.1 hd
  · exact comp_then_mono 2 a.t a.k b.k c.k c.t c.f a.z b.z c.z h hz hm.2.1.2.1 hd

/-- The total order of summaries, number by number. -/
theorem orderS_cases (s r : Sm) : (orderS s r = -1 ∧ (s.f < r.f ∨ s.f = r.f ∧ (s.t < r.t ∨ s.t = r.t ∧ (s.k < r.k ∨ s.k = r.k ∧ (s.ep < r.ep ∨ s.ep = r.ep ∧ (s.x < r.x ∨ s.x = r.x ∧ (s.y < r.y ∨ s.y = r.y ∧ s.z < r.z)))))))
    ∨ (orderS s r = 0 ∧ s = r)
    ∨ (orderS s r = 1 ∧ (r.f < s.f ∨ r.f = s.f ∧ (r.t < s.t ∨ r.t = s.t ∧ (r.k < s.k ∨ r.k = s.k ∧ (r.ep < s.ep ∨ r.ep = s.ep ∧ (r.x < s.x ∨ r.x = s.x ∧ (r.y < s.y ∨ r.y = s.y ∧ r.z < s.z))))))) := by
  unfold orderS
  rcases cmpI_cases s.f r.f with ⟨h, k1⟩ | ⟨h, k1⟩ | ⟨h, k1⟩ <;> simp only [h]
  · exact .inl ⟨by simp, .inl k1⟩
  rotate_left
  · exact .inr (.inr ⟨by simp, .inl k1⟩)
  rcases cmpI_cases s.t r.t with ⟨h, k2⟩ | ⟨h, k2⟩ | ⟨h, k2⟩ <;> simp only [h]
  · exact .inl ⟨by simp, .inr ⟨k1, .inl k2⟩⟩
  rotate_left
  · exact .inr (.inr ⟨by simp, .inr ⟨k1.symm, .inl k2⟩⟩)
  rcases cmpI_cases s.k r.k with ⟨h, k3⟩ | ⟨h, k3⟩ | ⟨h, k3⟩ <;> simp only [h]
  · exact .inl ⟨by simp, .inr ⟨k1, .inr ⟨k2, .inl k3⟩⟩⟩
  rotate_left
  · exact .inr (.inr ⟨by simp, .inr ⟨k1.symm, .inr ⟨k2.symm, .inl k3⟩⟩⟩)
  rcases cmpI_cases s.ep r.ep with ⟨h, k4⟩ | ⟨h, k4⟩ | ⟨h, k4⟩ <;> simp only [h]
  · exact .inl ⟨by simp, .inr ⟨k1, .inr ⟨k2, .inr ⟨k3, .inl k4⟩⟩⟩⟩
  rotate_left
  · exact .inr (.inr ⟨by simp, .inr ⟨k1.symm, .inr ⟨k2.symm, .inr ⟨k3.symm, .inl k4⟩⟩⟩⟩)
  rcases cmpI_cases s.x r.x with ⟨h, k5⟩ | ⟨h, k5⟩ | ⟨h, k5⟩ <;> simp only [h]
  · exact .inl ⟨by simp, .inr ⟨k1, .inr ⟨k2, .inr ⟨k3, .inr ⟨k4, .inl k5⟩⟩⟩⟩⟩
  rotate_left
  · exact .inr (.inr ⟨by simp, .inr ⟨k1.symm, .inr ⟨k2.symm, .inr ⟨k3.symm, .inr ⟨k4.symm, .inl k5⟩⟩⟩⟩⟩)
  rcases cmpI_cases s.y r.y with ⟨h, k6⟩ | ⟨h, k6⟩ | ⟨h, k6⟩ <;> simp only [h]
  · exact .inl ⟨by simp, .inr ⟨k1, .inr ⟨k2, .inr ⟨k3, .inr ⟨k4, .inr ⟨k5, .inl k6⟩⟩⟩⟩⟩⟩
  rotate_left
  · exact .inr (.inr ⟨by simp, .inr ⟨k1.symm, .inr ⟨k2.symm, .inr ⟨k3.symm, .inr ⟨k4.symm, .inr ⟨k5.symm, .inl k6⟩⟩⟩⟩⟩⟩)
  rcases cmpI_cases s.z r.z with ⟨h, k7⟩ | ⟨h, k7⟩ | ⟨h, k7⟩ <;> simp only [h]
  · exact .inl ⟨by simp, .inr ⟨k1, .inr ⟨k2, .inr ⟨k3, .inr ⟨k4, .inr ⟨k5, .inr ⟨k6, k7⟩⟩⟩⟩⟩⟩⟩
  · exact .inr (.inl ⟨by simp, sm_eq k1 k2 k3 k4 k5 k6 k7⟩)
  · exact .inr (.inr ⟨by simp, .inr ⟨k1.symm, .inr ⟨k2.symm, .inr ⟨k3.symm, .inr ⟨k4.symm, .inr ⟨k5.symm, .inr ⟨k6.symm, k7⟩⟩⟩⟩⟩⟩⟩)
theorem orderS_anti (s r : Sm) : orderS s r = -orderS r s := by
  rcases orderS_cases s r with ⟨h, k⟩ | ⟨h, k⟩ | ⟨h, k⟩ <;> rcases orderS_cases r s with ⟨h', k'⟩ | ⟨h', k'⟩ | ⟨h', k'⟩
  all_goals first | omega | (subst k; omega) | (subst k'; omega)
theorem orderS_zero (s r : Sm) : orderS s r = 0 ↔ eqS s r = true := by
  have e : eqS s r = true ↔ s = r := by
    simp only [eqS, Bool.and_eq_true, beq_iff_eq]
    constructor
    · rintro ⟨⟨⟨⟨⟨⟨h1, h2⟩, h3⟩, h4⟩, h5⟩, h6⟩, h7⟩; exact sm_eq h1 h2 h3 h4 h5 h6 h7
    · rintro rfl; simp
  rw [e]
  rcases orderS_cases s r with ⟨h, k⟩ | ⟨h, k⟩ | ⟨h, k⟩
  · constructor
    · omega
    · rintro rfl; omega
  · exact ⟨fun _ => k, fun _ => h⟩
  · constructor
    · omega
    · rintro rfl; omega
theorem le_orderS {s r : Sm} (h : leS s r = true) : orderS s r ≤ 0 := by
  obtain ⟨ms, mr, hf, ht, he, hx, hy, hz⟩ := (leS_iff s r).1 h
  have h1 := (mayS_iff s).1 ms
  have h2 := (mayS_iff r).1 mr
  have hk : s.k ≤ r.k := by
    obtain ⟨⟨_, _, _, _⟩, ⟨_, _, _⟩, _⟩ := h1
    obtain ⟨⟨_, _, _, _⟩, ⟨_, _, _⟩, _⟩ := h2
    omega
  have hx' : s.x ≤ r.x := by
    by_cases c : 0 < s.t
    · exact (hx c).2
    · have := h1.2.2.2.1.2.2 (by omega); have := h2.2.2.2.1.1; omega
  have hy' : s.y ≤ r.y := by
    by_cases c : 1 < s.t
    · exact (hy c).2
    · have := h1.2.2.2.2.1.2.2 (by omega); have := h2.2.2.2.2.1.1; omega
  have hz' : s.z ≤ r.z := by
    by_cases c : 2 < s.t
    · exact (hz c).2
    · have := h1.2.2.2.2.2.2.2 (by omega); have := h2.2.2.2.2.2.1; omega
  clear hx hy hz h1 h2
  rcases orderS_cases s r with ⟨h, _⟩ | ⟨h, _⟩ | ⟨h, k⟩ <;> omega

end Go.Proofs.YtehianjfpmbfpaaGreat
