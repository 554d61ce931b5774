/-
  Chains as plain lists: what stands lowest, in order, each once; no program is named in them.
-/
import Derived.Test.YtehianjfpmbfpaaGreatSFacts
namespace Go.Proofs.YtehianjfpmbfpaaGreat
set_option linter.unusedVariables false

/-- What may be, what is at most what, and one order of all in which what is less stands ahead. -/
structure Kin (α : Type) where
  may : α → Bool
  le : α → α → Bool
  ord : α → α → Int
  refl : ∀ a, may a = true → le a a = true
  anti : ∀ a b, may a = true → may b = true → le a b = true → le b a = true → a = b
  trans : ∀ a b c, le a b = true → le b c = true → le a c = true
  oanti : ∀ a b, ord a b = -ord b a
  ozero : ∀ a b, ord a b = 0 → a = b
  otrans : ∀ a b c, ord a b < 0 → ord b c < 0 → ord a c < 0
  ole : ∀ a b, may a = true → may b = true → le a b = true → ord a b ≤ 0

variable {α : Type} (O : Kin α)

theorem Kin.oself (a : α) : O.ord a a = 0 := by have := O.oanti a a; omega
theorem Kin.otot (a b : α) : O.ord a b < 0 ∨ a = b ∨ O.ord b a < 0 := by
  have := O.oanti a b
  by_cases h : O.ord a b = 0
  · exact .inr (.inl (O.ozero a b h))
  · omega
theorem Kin.oirr (a b : α) (h : O.ord a b < 0) : a ≠ b := by
  intro e; rw [e, O.oself] at h; omega

/-- x is one of those of l that stand lowest. -/
def Low (l : List α) (x : α) : Prop := x ∈ l ∧ O.may x = true ∧ ∀ y ∈ l, O.may y = true → O.le y x = true → y = x
def Rises (c : List α) : Prop := c.Pairwise fun a b => O.ord a b < 0
/-- c is the chain of l. -/
def IsChain (l c : List α) : Prop := Rises O c ∧ ∀ x, x ∈ c ↔ Low O l x

theorem rises_ext : ∀ {c e : List α}, Rises O c → Rises O e → (∀ x, x ∈ c ↔ x ∈ e) → c = e
  | [], [], _, _, _ => rfl
  | [], y :: e, _, _, h => by have := (h y).2 (by simp); simp at this
  | x :: c, [], _, _, h => by have := (h x).1 (by simp); simp at this
  | x :: c, y :: e, hc, he, h => by
    obtain ⟨hx, hc'⟩ := List.pairwise_cons.1 hc
    obtain ⟨hy, he'⟩ := List.pairwise_cons.1 he
    have hxy : x = y := by
      have h1 : x ∈ y :: e := (h x).1 (by simp)
      have h2 : y ∈ x :: c := (h y).2 (by simp)
      rcases List.mem_cons.1 h1 with h1 | h1
      · exact h1
      · rcases List.mem_cons.1 h2 with h2 | h2
        · exact h2.symm
        · have a := hy x h1
          have b := hx y h2
          have := O.oanti x y
          omega
    subst hxy
    have : c = e := rises_ext hc' he' fun z => by
      constructor
      · intro hz
        have := (h z).1 (by simp [hz])
        rcases List.mem_cons.1 this with e1 | e1
        · subst e1; exact absurd rfl (O.oirr _ _ (hx _ hz))
        · exact e1
      · intro hz
        have := (h z).2 (by simp [hz])
        rcases List.mem_cons.1 this with e1 | e1
        · subst e1; exact absurd rfl (O.oirr _ _ (hy _ hz))
        · exact e1
    rw [this]
/-- There is one chain alone. -/
theorem chain_unique {l c e : List α} (hc : IsChain O l c) (he : IsChain O l e) : c = e :=
  rises_ext O hc.1 he.1 fun x => (hc.2 x).trans (he.2 x).symm

theorem ord_least : ∀ (m : List α), m ≠ [] → ∃ y ∈ m, ∀ z ∈ m, O.ord y z ≤ 0
  | [x], _ => ⟨x, by simp, fun z hz => by rw [List.mem_singleton.1 hz, O.oself]; omega⟩
  | x :: y :: m, _ => by
    obtain ⟨u, hu, hl⟩ := ord_least (y :: m) (by simp)
    rcases O.otot x u with h | h | h
    · refine ⟨x, by simp, fun z hz => ?_⟩
      rcases List.mem_cons.1 hz with rfl | hz
      · rw [O.oself]; omega
      · have := hl z hz
        rcases O.otot u z with k | k | k
        · have := O.otrans _ _ _ h k; omega
        · rw [← k]; omega
        · have := O.oanti u z; omega
    · refine ⟨u, by simp [hu], fun z hz => ?_⟩
      rcases List.mem_cons.1 hz with rfl | hz
      · rw [h, O.oself]; omega
      · exact hl z hz
    · refine ⟨u, by simp [hu], fun z hz => ?_⟩
      rcases List.mem_cons.1 hz with rfl | hz
      · omega
      · exact hl z hz
/-- Below each that may be stands a lowest one. -/
theorem low_below {l : List α} {x : α} (hx : x ∈ l) (hm : O.may x = true) : ∃ y, Low O l y ∧ O.le y x = true := by
  obtain ⟨y, hy, hl⟩ := ord_least O (l.filter fun y => O.may y && O.le y x) (by
    intro h
    have : x ∈ l.filter fun y => O.may y && O.le y x := List.mem_filter.2 ⟨hx, by simp [hm, O.refl x hm]⟩
    rw [h] at this; simp at this)
  obtain ⟨y1, y2⟩ := List.mem_filter.1 hy
  simp only [Bool.and_eq_true] at y2
  refine ⟨y, ⟨y1, y2.1, fun z hz hzm hzy => ?_⟩, y2.2⟩
  have hz' : z ∈ l.filter fun y => O.may y && O.le y x := List.mem_filter.2 ⟨hz, by simp [hzm, O.trans _ _ _ hzy y2.2]⟩
  have a := hl z hz'
  have b := O.ole z y hzm y2.1 hzy
  have := O.oanti z y
  exact O.ozero z y (by omega)
/-- What leaves out nothing that stands lowest has the same lowest ones. -/
theorem low_same {l m : List α} (hsub : ∀ x ∈ m, x ∈ l) (hcov : ∀ y ∈ l, O.may y = true → ∃ z ∈ m, O.may z = true ∧ O.le z y = true) (x : α) : Low O l x ↔ Low O m x := by
  constructor
  · rintro ⟨h1, h2, h3⟩
    obtain ⟨z, z1, z2, z3⟩ := hcov x h1 h2
    have e := h3 z (hsub z z1) z2 z3
    subst e
    exact ⟨z1, h2, fun y hy => h3 y (hsub y hy)⟩
  · rintro ⟨h1, h2, h3⟩
    refine ⟨hsub x h1, h2, fun y hy hym hyx => ?_⟩
    obtain ⟨z, z1, z2, z3⟩ := hcov y hy hym
    have e := h3 z z1 z2 (O.trans _ _ _ z3 hyx)
    subst e
    exact O.anti _ _ hym h2 hyx z3
theorem chain_same {l m c : List α} (hsub : ∀ x ∈ m, x ∈ l) (hcov : ∀ y ∈ l, O.may y = true → ∃ z ∈ m, O.may z = true ∧ O.le z y = true) : IsChain O l c ↔ IsChain O m c := by
  unfold IsChain
  simp only [low_same O hsub hcov]
theorem chain_mem {l c : List α} (h : IsChain O l c) {x : α} (hx : x ∈ c) : x ∈ l ∧ O.may x = true := ⟨((h.2 x).1 hx).1, ((h.2 x).1 hx).2.1⟩
theorem chain_cov {l c : List α} (h : IsChain O l c) {y : α} (hy : y ∈ l) (hm : O.may y = true) : ∃ z ∈ c, O.may z = true ∧ O.le z y = true := by
  obtain ⟨z, hz, hl⟩ := low_below O hy hm
  exact ⟨z, (h.2 z).2 hz, hz.2.1, hl⟩
/-- P3.3: the chain of a chain is the chain. -/
theorem chain_again {l c : List α} (h : IsChain O l c) : IsChain O c c :=
  (chain_same O (fun x hx => (chain_mem O h hx).1) (fun y hy hm => chain_cov O h hy hm)).1 h
/-- No one of a chain is at most another one. -/
theorem chain_apart {l c : List α} (h : IsChain O l c) {x y : α} (hx : x ∈ c) (hy : y ∈ c) (hl : O.le x y = true) : x = y :=
  ((h.2 y).1 hy).2.2 x (chain_mem O h hx).1 (chain_mem O h hx).2 hl

def coverB (l : List α) (t : α) : Bool := l.any fun x => O.le x t
theorem cover_iff (l : List α) (t : α) : coverB O l t = true ↔ ∃ x ∈ l, O.le x t = true := by simp [coverB]
/-- P3.3: a chain covers just what those cover that may be. -/
theorem chain_covers {l c : List α} (h : IsChain O l c) (t : α) : coverB O c t = coverB O (l.filter O.may) t := by
  rw [Bool.eq_iff_iff, cover_iff, cover_iff]
  constructor
  · rintro ⟨x, hx, hl⟩
    obtain ⟨h1, h2⟩ := chain_mem O h hx
    exact ⟨x, List.mem_filter.2 ⟨h1, h2⟩, hl⟩
  · rintro ⟨x, hx, hl⟩
    obtain ⟨h1, h2⟩ := List.mem_filter.1 hx
    obtain ⟨z, hz, _, hzl⟩ := chain_cov O h h1 h2
    exact ⟨z, hz, O.trans _ _ _ hzl hl⟩
/-- P3.3: the chain of two rows is the chain of both's chains. -/
theorem chain_union {a b ca cb c : List α} (ha : IsChain O a ca) (hb : IsChain O b cb) : IsChain O (a ++ b) c ↔ IsChain O (ca ++ cb) c := by
  refine chain_same O (fun x hx => ?_) (fun y hy hm => ?_)
  · rcases List.mem_append.1 hx with h | h
    · exact List.mem_append_left _ (chain_mem O ha h).1
    · exact List.mem_append_right _ (chain_mem O hb h).1
  · rcases List.mem_append.1 hy with h | h
    · obtain ⟨z, h1, h2⟩ := chain_cov O ha h hm
      exact ⟨z, List.mem_append_left _ h1, h2⟩
    · obtain ⟨z, h1, h2⟩ := chain_cov O hb h hm
      exact ⟨z, List.mem_append_right _ h1, h2⟩
/-- P3.2: one more behind a chain. -/
theorem chain_step {l c e : List α} {t : α} (h : IsChain O l c) : IsChain O (l ++ [t]) e ↔ IsChain O (c ++ [t]) e := by
  refine chain_same O (fun x hx => ?_) (fun y hy hm => ?_)
  · rcases List.mem_append.1 hx with k | k
    · exact List.mem_append_left _ (chain_mem O h k).1
    · exact List.mem_append_right _ k
  · rcases List.mem_append.1 hy with k | k
    · obtain ⟨z, h1, h2⟩ := chain_cov O h k hm
      exact ⟨z, List.mem_append_left _ h1, h2⟩
    · exact ⟨y, List.mem_append_right _ k, hm, O.refl y hm⟩
/-- What is covered, or may not be, changes nothing. -/
theorem chain_stays {l c : List α} {t : α} (h : IsChain O l c) (ht : O.may t = false ∨ coverB O c t = true) : IsChain O (c ++ [t]) c := by
  refine (chain_same O (fun x hx => List.mem_append_left _ hx) (fun y hy hm => ?_)).2 (chain_again O h)
  rcases List.mem_append.1 hy with k | k
  · exact ⟨y, k, hm, O.refl y hm⟩
  · rw [List.mem_singleton.1 k] at hm ⊢
    rcases ht with ht | ht
    · rw [ht] at hm; cases hm
    · obtain ⟨x, hx, hl⟩ := (cover_iff O c t).1 ht
      exact ⟨x, hx, (chain_mem O h hx).2, hl⟩
theorem chain_nil : IsChain O [] [] := ⟨List.Pairwise.nil, fun x => by simp [Low]⟩
/-- Those that may not be do not count. -/
theorem chain_filter {l c : List α} : IsChain O l c ↔ IsChain O (l.filter O.may) c :=
  chain_same O (fun x hx => (List.mem_filter.1 hx).1) (fun y hy hm => ⟨y, List.mem_filter.2 ⟨hy, hm⟩, hm, O.refl y hm⟩)
/-- In what order they stand, and how often, does not count. -/
theorem chain_set {l m c : List α} (h : ∀ x, x ∈ l ↔ x ∈ m) : IsChain O l c ↔ IsChain O m c :=
  chain_same O (fun x hx => (h x).2 hx) (fun y hy hm => ⟨y, (h y).1 hy, hm, O.refl y hm⟩)

/-- One is put where it belongs. -/
def insO (c : List α) (x : α) : List α := c.takeWhile (fun y => decide (O.ord y x < 0)) ++ [x] ++ c.dropWhile (fun y => decide (O.ord y x < 0))
theorem ins_mem (c : List α) (x y : α) : y ∈ insO O c x ↔ y = x ∨ y ∈ c := by
  unfold insO
  have h : y ∈ c ↔ y ∈ c.takeWhile (fun y => decide (O.ord y x < 0)) ∨ y ∈ c.dropWhile (fun y => decide (O.ord y x < 0)) := by
    rw [← List.mem_append, List.takeWhile_append_dropWhile]
  simp only [List.mem_append, List.mem_singleton, h]
  constructor
  · rintro ((h | h) | h)
    · exact .inr (.inl h)
    · exact .inl h
    · exact .inr (.inr h)
  · rintro (h | h | h)
    · exact .inl (.inr h)
    · exact .inl (.inl h)
    · exact .inr h
theorem ins_rises : ∀ {c : List α} {x : α}, Rises O c → x ∉ c → Rises O (insO O c x)
  | [], x, _, _ => by simp [insO, Rises]
  | y :: c, x, hc, hx => by
    obtain ⟨hy, hc'⟩ := List.pairwise_cons.1 hc
    simp only [List.mem_cons, not_or] at hx
    by_cases h : O.ord y x < 0
    · have e : insO O (y :: c) x = y :: insO O c x := by simp [insO, h]
      rw [e]
      refine List.pairwise_cons.2 ⟨fun z hz => ?_, ins_rises hc' hx.2⟩
      rcases (ins_mem O c x z).1 hz with rfl | hz
      · exact h
      · exact hy z hz
    · have e : insO O (y :: c) x = x :: y :: c := by simp [insO, h]
      rw [e]
      have hxy : O.ord x y < 0 := by
        rcases O.otot x y with k | k | k
        · exact k
        · exact absurd k hx.1
        · exact absurd k h
      refine List.pairwise_cons.2 ⟨fun z hz => ?_, hc⟩
      rcases List.mem_cons.1 hz with rfl | hz
      · exact hxy
      · exact O.otrans _ _ _ hxy (hy z hz)

end Go.Proofs.YtehianjfpmbfpaaGreat
