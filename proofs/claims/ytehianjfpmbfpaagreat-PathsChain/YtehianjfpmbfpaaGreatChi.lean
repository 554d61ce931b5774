/-
  The chain as the document's own text reckons it (each against each, put where it belongs), and times and summaries as such kinds; no program is named in them.
-/
import Derived.Test.YtehianjfpmbfpaaGreatChn
import Derived.Test.YtehianjfpmbfpaaGreatSFacts2
namespace Go.Proofs.YtehianjfpmbfpaaGreat
set_option linter.unusedVariables false

section
variable {α : Type} (O : Kin α)

/-- Number i of l is taken: it may be, none of l that may be is less, none ahead of it is the same. -/
def Pick (l : List α) (i : Nat) : Prop :=
  ∃ x, l[i]? = some x ∧ O.may x = true ∧ ∀ (k : Nat) y, l[k]? = some y → O.may y = true → ¬ ((O.le y x = true ∧ ¬ O.le x y = true) ∨ (k < i ∧ y = x))

theorem first_at : ∀ {l : List α} {x : α}, x ∈ l → ∃ i : Nat, l[i]? = some x ∧ ∀ k : Nat, k < i → l[k]? ≠ some x
  | y :: l, x, h => by
    by_cases e : y = x
    · exact ⟨0, by simp [e], fun k hk => by omega⟩
    · rcases List.mem_cons.1 h with h | h
      · exact absurd h.symm e
      · obtain ⟨i, h1, h2⟩ := first_at h
        refine ⟨i + 1, by simpa using h1, fun k hk => ?_⟩
        cases k with
        | zero => simpa using e
        | succ k => simpa using h2 k (by omega)

theorem pick_low {l : List α} {x : α} : Low O l x ↔ ∃ i : Nat, l[i]? = some x ∧ Pick O l i := by
  constructor
  · rintro ⟨h1, h2, h3⟩
    obtain ⟨i, hi, hf⟩ := first_at h1
    refine ⟨i, hi, x, hi, h2, fun k y hk hm => ?_⟩
    rintro (⟨a, b⟩ | ⟨a, b⟩)
    · have e := h3 y (List.mem_of_getElem? hk) hm a
      subst e
      exact b a
    · subst b
      exact hf k a hk
  · rintro ⟨i, hi, z, hz, hm, hn⟩
    rw [hi] at hz
    cases hz
    refine ⟨List.mem_of_getElem? hi, hm, fun y hy hym hl => ?_⟩
    obtain ⟨k, hk⟩ := List.getElem?_of_mem hy
    have := hn k y hk hym
    by_cases b : O.le x y = true
    · exact O.anti _ _ hym hm hl b
    · exact absurd (.inl ⟨hl, b⟩) this

/-- The chain of the first n places, one by one. -/
inductive Refs (l : List α) : Nat → List α → Prop
  | zero : Refs l 0 []
  | take {n c x} : Refs l n c → l[n]? = some x → Pick O l n → Refs l (n + 1) (insO O c x)
  | skip {n c} : Refs l n c → ¬ Pick O l n → Refs l (n + 1) c

theorem refs_spec {l : List α} {n : Nat} {c : List α} (h : Refs O l n c) : Rises O c ∧ ∀ x, x ∈ c ↔ ∃ i : Nat, i < n ∧ l[i]? = some x ∧ Pick O l i := by
  induction h with
  | zero => exact ⟨List.Pairwise.nil, fun x => by simp⟩
  | @take n c x hr hx hp ih =>
    have hnot : x ∉ c := fun hc => by
      obtain ⟨i, hi, hix, _⟩ := (ih.2 x).1 hc
      obtain ⟨z, hz, hm, hn⟩ := hp
      rw [hx] at hz
      cases hz
      exact hn i x hix hm (.inr ⟨hi, rfl⟩)
    refine ⟨ins_rises O ih.1 hnot, fun y => ?_⟩
    rw [ins_mem, ih.2 y]
    constructor
    · rintro (rfl | ⟨i, h1, h2⟩)
      · exact ⟨n, by omega, hx, hp⟩
      · exact ⟨i, by omega, h2⟩
    · rintro ⟨i, h1, h2, h3⟩
      by_cases e : i = n
      · subst e
        rw [hx] at h2
        cases h2
        exact .inl rfl
      · exact .inr ⟨i, by omega, h2, h3⟩
  | @skip n c hr hp ih =>
    refine ⟨ih.1, fun y => ?_⟩
    rw [ih.2 y]
    constructor
    · rintro ⟨i, h1, h2⟩
      exact ⟨i, by omega, h2⟩
    · rintro ⟨i, h1, h2, h3⟩
      by_cases e : i = n
      · subst e; exact absurd h3 hp
      · exact ⟨i, by omega, h2, h3⟩
/-- It is the chain. -/
theorem refs_chain {l c : List α} (h : Refs O l l.length c) : IsChain O l c := by
  obtain ⟨h1, h2⟩ := refs_spec O h
  refine ⟨h1, fun x => ?_⟩
  rw [h2 x, pick_low]
  constructor
  · rintro ⟨i, _, h⟩; exact ⟨i, h⟩
  · rintro ⟨i, h, k⟩
    exact ⟨i, (List.getElem?_eq_some_iff.1 h).1, h, k⟩
theorem refs_len {l : List α} {n : Nat} {c : List α} (h : Refs O l n c) : c.length ≤ n := by
  induction h with
  | zero => simp
  | @take n c x _ _ _ ih =>
    have e : (insO O c x).length = c.length + 1 := by
      unfold insO
      have := congrArg List.length (List.takeWhile_append_dropWhile (p := fun y => decide (O.ord y x < 0)) (l := c))
      simp only [List.length_append, List.length_singleton] at this ⊢
      omega
    omega
  | skip _ _ ih => omega
end

theorem eqB_iff (a b : Tm) : eqB a b = true ↔ a = b := by
  rw [eq_iff]
  constructor
  · rintro ⟨h1, h2, h3, h4, h5⟩; exact tm_eq h1 h2 h3 h4 h5
  · rintro rfl; simp
theorem eqS_iff (a b : Sm) : eqS a b = true ↔ a = b := by
  simp only [eqS, Bool.and_eq_true, beq_iff_eq]
  constructor
  · rintro ⟨⟨⟨⟨⟨⟨h1, h2⟩, h3⟩, h4⟩, h5⟩, h6⟩, h7⟩; exact sm_eq h1 h2 h3 h4 h5 h6 h7
  · rintro rfl; simp
/-- The total order of times, number by number. -/
theorem orderI_cases (s r : Tm) : (orderI s r = -1 ∧ (s.d < r.d ∨ s.d = r.d ∧ (s.e < r.e ∨ s.e = r.e ∧ (s.x < r.x ∨ s.x = r.x ∧ (s.y < r.y ∨ s.y = r.y ∧ s.z < r.z)))))
    ∨ (orderI s r = 0 ∧ s = r) ∨ (orderI s r = 1 ∧ (r.d < s.d ∨ r.d = s.d ∧ (r.e < s.e ∨ r.e = s.e ∧ (r.x < s.x ∨ r.x = s.x ∧ (r.y < s.y ∨ r.y = s.y ∧ r.z < s.z))))) := by
  unfold orderI
  rcases cmpI_cases s.d r.d with ⟨h, k1⟩ | ⟨h, k1⟩ | ⟨h, k1⟩ <;> simp only [h]
  · exact .inl ⟨by simp, .inl k1⟩
  rotate_left
  · exact .inr (.inr ⟨by simp, .inl k1⟩)
  rcases cmpI_cases s.e r.e with ⟨h, k2⟩ | ⟨h, k2⟩ | ⟨h, k2⟩ <;> simp only [h]
  · exact .inl ⟨by simp, .inr ⟨k1, .inl k2⟩⟩
  rotate_left
  · exact .inr (.inr ⟨by simp, .inr ⟨k1.symm, .inl k2⟩⟩)
  rcases cmpI_cases s.x r.x with ⟨h, k3⟩ | ⟨h, k3⟩ | ⟨h, k3⟩ <;> simp only [h]
  · exact .inl ⟨by simp, .inr ⟨k1, .inr ⟨k2, .inl k3⟩⟩⟩
  rotate_left
  · exact .inr (.inr ⟨by simp, .inr ⟨k1.symm, .inr ⟨k2.symm, .inl k3⟩⟩⟩)
  rcases cmpI_cases s.y r.y with ⟨h, k4⟩ | ⟨h, k4⟩ | ⟨h, k4⟩ <;> simp only [h]
  · exact .inl ⟨by simp, .inr ⟨k1, .inr ⟨k2, .inr ⟨k3, .inl k4⟩⟩⟩⟩
  rotate_left
  · exact .inr (.inr ⟨by simp, .inr ⟨k1.symm, .inr ⟨k2.symm, .inr ⟨k3.symm, .inl k4⟩⟩⟩⟩)
  rcases cmpI_cases s.z r.z with ⟨h, k5⟩ | ⟨h, k5⟩ | ⟨h, k5⟩ <;> simp only [h]
  · exact .inl ⟨by simp, .inr ⟨k1, .inr ⟨k2, .inr ⟨k3, .inr ⟨k4, k5⟩⟩⟩⟩⟩
  · exact .inr (.inl ⟨by simp, tm_eq k2 k1 k3 k4 k5⟩)
  · exact .inr (.inr ⟨by simp, .inr ⟨k1.symm, .inr ⟨k2.symm, .inr ⟨k3.symm, .inr ⟨k4.symm, k5⟩⟩⟩⟩⟩)
theorem orderI_lt (s r : Tm) : orderI s r < 0 ↔ (s.d < r.d ∨ s.d = r.d ∧ (s.e < r.e ∨ s.e = r.e ∧ (s.x < r.x ∨ s.x = r.x ∧ (s.y < r.y ∨ s.y = r.y ∧ s.z < r.z)))) := by
  rcases orderI_cases s r with ⟨h, k⟩ | ⟨h, k⟩ | ⟨h, k⟩
  · exact ⟨fun _ => k, fun _ => by omega⟩
  · subst k; omega
  · omega
theorem orderS_lt (s r : Sm) : orderS s r < 0 ↔ (s.f < r.f ∨ s.f = r.f ∧ (s.t < r.t ∨ s.t = r.t ∧ (s.k < r.k ∨ s.k = r.k ∧ (s.ep < r.ep ∨ s.ep = r.ep ∧ (s.x < r.x ∨ s.x = r.x ∧ (s.y < r.y ∨ s.y = r.y ∧ s.z < r.z)))))) := by
  rcases orderS_cases s r with ⟨h, k⟩ | ⟨h, k⟩ | ⟨h, k⟩
  · exact ⟨fun _ => k, fun _ => by omega⟩
  · subst k; omega
  · omega

theorem leS_trans {a b c : Sm} (h : leS a b = true) (k : leS b c = true) : leS a c = true := by
  obtain ⟨m1, m2, f1, t1, e1, x1, y1, z1⟩ := (leS_iff a b).1 h
  obtain ⟨_, m3, f2, t2, e2, x2, y2, z2⟩ := (leS_iff b c).1 k
  refine (leS_iff a c).2 ⟨m1, m3, f1.trans f2, t1.trans t2, by omega, fun q => ?_, fun q => ?_, fun q => ?_⟩
  · have := x1 q; have := x2 (by omega); omega
  · have := y1 q; have := y2 (by omega); omega
  · have := z1 q; have := z2 (by omega); omega
theorem leS_anti {a b : Sm} (h : leS a b = true) (k : leS b a = true) : a = b := by
  have h1 := le_orderS h
  have h2 := le_orderS k
  have h3 := orderS_anti a b
  exact (eqS_iff a b).1 ((orderS_zero a b).1 (by omega))

/-- Times. -/
def kinT : Kin Tm where
  may := mayB
  le := leB
  ord := orderI
  refl a h := le_refl_may h
  anti a b ha hb h k := (eqB_iff a b).1 (le_anti ha hb h k)
  trans a b c h k := le_trans h k
  oanti a b := order_anti a b
  ozero a b h := by
    rcases orderI_cases a b with ⟨k, _⟩ | ⟨_, k⟩ | ⟨k, _⟩
    · omega
    · exact k
    · omega
  otrans a b c h k := by
    rw [orderI_lt] at h k ⊢
    omega
  ole a b ha hb h := by
    by_cases e : leB b a = true
    · have := (eqB_iff a b).1 (le_anti ha hb h e)
      subst this
      have := order_anti a a
      omega
    · have := less_ahead ha hb (by simp [lessB, h, e])
      omega
/-- Summaries. -/
def kinS : Kin Sm where
  may := mayS
  le := leS
  ord := orderS
  refl a h := leS_refl h
  anti a b ha hb h k := leS_anti h k
  trans a b c h k := leS_trans h k
  oanti a b := orderS_anti a b
  ozero a b h := (eqS_iff a b).1 ((orderS_zero a b).1 h)
  otrans a b c h k := by
    rw [orderS_lt] at h k ⊢
    omega
  ole a b ha hb h := le_orderS h

end Go.Proofs.YtehianjfpmbfpaaGreat
