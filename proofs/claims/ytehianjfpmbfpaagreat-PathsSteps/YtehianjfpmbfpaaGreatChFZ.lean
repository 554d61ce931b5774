import Derived.Test.YtehianjfpmbfpaaGreatSFacts
section
/-
  Chains as plain lists: what stands lowest, in order, each once; no program is named in them.
-/
namespace Go.Proofs.YtehianjfpmbfpaaGreat
set_option linter.unusedVariables false

/-- What may be, what is at most what, and one order of all in which what is less stands ahead. -/
structure Kin (α : Type) where
  may : α → Bool
  le : α → α → Bool
  ord : α → α → Int
  refl : ∀ a, may a = true → le a a = true
  anti : ∀ a b, may a = true → may b = true → le a b = true → le b a = true → a = b
  trans : ∀ a b c, le a b = true → le b c = true → le a c = true
  oanti : ∀ a b, ord a b = -ord b a
  ozero : ∀ a b, ord a b = 0 → a = b
  otrans : ∀ a b c, ord a b < 0 → ord b c < 0 → ord a c < 0
  ole : ∀ a b, may a = true → may b = true → le a b = true → ord a b ≤ 0

variable {α : Type} (O : Kin α)

theorem Kin.oself (a : α) : O.ord a a = 0 := by have := O.oanti a a; omega
theorem Kin.otot (a b : α) : O.ord a b < 0 ∨ a = b ∨ O.ord b a < 0 := by
  have := O.oanti a b
  by_cases h : O.ord a b = 0
  · exact .inr (.inl (O.ozero a b h))
  · omega
theorem Kin.oirr (a b : α) (h : O.ord a b < 0) : a ≠ b := by
  intro e; rw [e, O.oself] at h; omega

/-- x is one of those of l that stand lowest. -/
def Low (l : List α) (x : α) : Prop := x ∈ l ∧ O.may x = true ∧ ∀ y ∈ l, O.may y = true → O.le y x = true → y = x
def Rises (c : List α) : Prop := c.Pairwise fun a b => O.ord a b < 0
/-- c is the chain of l. -/
def IsChain (l c : List α) : Prop := Rises O c ∧ ∀ x, x ∈ c ↔ Low O l x

theorem rises_ext : ∀ {c e : List α}, Rises O c → Rises O e → (∀ x, x ∈ c ↔ x ∈ e) → c = e
  | [], [], _, _, _ => rfl
  | [], y :: e, _, _, h => by have := (h y).2 (by simp); simp at this
  | x :: c, [], _, _, h => by have := (h x).1 (by simp); simp at this
  | x :: c, y :: e, hc, he, h => by
    obtain ⟨hx, hc'⟩ := List.pairwise_cons.1 hc
    obtain ⟨hy, he'⟩ := List.pairwise_cons.1 he
    have hxy : x = y := by
      have h1 : x ∈ y :: e := (h x).1 (by simp)
      have h2 : y ∈ x :: c := (h y).2 (by simp)
      rcases List.mem_cons.1 h1 with h1 | h1
      · exact h1
      · rcases List.mem_cons.1 h2 with h2 | h2
        · exact h2.symm
        · have a := hy x h1
          have b := hx y h2
          have := O.oanti x y
          omega
    subst hxy
    have : c = e := rises_ext hc' he' fun z => by
      constructor
      · intro hz
        have := (h z).1 (by simp [hz])
        rcases List.mem_cons.1 this with e1 | e1
        · subst e1; exact absurd rfl (O.oirr _ _ (hx _ hz))
        · exact e1
      · intro hz
        have := (h z).2 (by simp [hz])
        rcases List.mem_cons.1 this with e1 | e1
        · subst e1; exact absurd rfl (O.oirr _ _ (hy _ hz))
        · exact e1
    rw [this]
/-- There is one chain alone. -/
theorem chain_unique {l c e : List α} (hc : IsChain O l c) (he : IsChain O l e) : c = e :=
  rises_ext O hc.1 he.1 fun x => (hc.2 x).trans (he.2 x).symm

theorem ord_least : ∀ (m : List α), m ≠ [] → ∃ y ∈ m, ∀ z ∈ m, O.ord y z ≤ 0
  | [x], _ => ⟨x, by simp, fun z hz => by rw [List.mem_singleton.1 hz, O.oself]; omega⟩
  | x :: y :: m, _ => by
    obtain ⟨u, hu, hl⟩ := ord_least (y :: m) (by simp)
    rcases O.otot x u with h | h | h
    · refine ⟨x, by simp, fun z hz => ?_⟩
      rcases List.mem_cons.1 hz with rfl | hz
      · rw [O.oself]; omega
      · have := hl z hz
        rcases O.otot u z with k | k | k
        · have := O.otrans _ _ _ h k; omega
        · rw [← k]; omega
        · have := O.oanti u z; omega
    · refine ⟨u, by simp [hu], fun z hz => ?_⟩
      rcases List.mem_cons.1 hz with rfl | hz
      · rw [h, O.oself]; omega
      · exact hl z hz
    · refine ⟨u, by simp [hu], fun z hz => ?_⟩
      rcases List.mem_cons.1 hz with rfl | hz
      · omega
      · exact hl z hz
/-- Below each that may be stands a lowest one. -/
theorem low_below {l : List α} {x : α} (hx : x ∈ l) (hm : O.may x = true) : ∃ y, Low O l y ∧ O.le y x = true := by
  obtain ⟨y, hy, hl⟩ := ord_least O (l.filter fun y => O.may y && O.le y x) (by
    intro h
    have : x ∈ l.filter fun y => O.may y && O.le y x := List.mem_filter.2 ⟨hx, by simp [hm, O.refl x hm]⟩
    rw [h] at this; simp at this)
  obtain ⟨y1, y2⟩ := List.mem_filter.1 hy
  simp only [Bool.and_eq_true] at y2
  refine ⟨y, ⟨y1, y2.1, fun z hz hzm hzy => ?_⟩, y2.2⟩
  have hz' : z ∈ l.filter fun y => O.may y && O.le y x := List.mem_filter.2 ⟨hz, by simp [hzm, O.trans _ _ _ hzy y2.2]⟩
  have a := hl z hz'
  have b := O.ole z y hzm y2.1 hzy
  have := O.oanti z y
  exact O.ozero z y (by omega)
/-- What leaves out nothing that stands lowest has the same lowest ones. -/
theorem low_same {l m : List α} (hsub : ∀ x ∈ m, x ∈ l) (hcov : ∀ y ∈ l, O.may y = true → ∃ z ∈ m, O.may z = true ∧ O.le z y = true) (x : α) : Low O l x ↔ Low O m x := by
  constructor
  · rintro ⟨h1, h2, h3⟩
    obtain ⟨z, z1, z2, z3⟩ := hcov x h1 h2
    have e := h3 z (hsub z z1) z2 z3
    subst e
    exact ⟨z1, h2, fun y hy => h3 y (hsub y hy)⟩
  · rintro ⟨h1, h2, h3⟩
    refine ⟨hsub x h1, h2, fun y hy hym hyx => ?_⟩
    obtain ⟨z, z1, z2, z3⟩ := hcov y hy hym
    have e := h3 z z1 z2 (O.trans _ _ _ z3 hyx)
    subst e
    exact O.anti _ _ hym h2 hyx z3
theorem chain_same {l m c : List α} (hsub : ∀ x ∈ m, x ∈ l) (hcov : ∀ y ∈ l, O.may y = true → ∃ z ∈ m, O.may z = true ∧ O.le z y = true) : IsChain O l c ↔ IsChain O m c := by
  unfold IsChain
  simp only [low_same O hsub hcov]
theorem chain_mem {l c : List α} (h : IsChain O l c) {x : α} (hx : x ∈ c) : x ∈ l ∧ O.may x = true := ⟨((h.2 x).1 hx).1, ((h.2 x).1 hx).2.1⟩
theorem chain_cov {l c : List α} (h : IsChain O l c) {y : α} (hy : y ∈ l) (hm : O.may y = true) : ∃ z ∈ c, O.may z = true ∧ O.le z y = true := by
  obtain ⟨z, hz, hl⟩ := low_below O hy hm
  exact ⟨z, (h.2 z).2 hz, hz.2.1, hl⟩
/-- P3.3: the chain of a chain is the chain. -/
theorem chain_again {l c : List α} (h : IsChain O l c) : IsChain O c c :=
  (chain_same O (fun x hx => (chain_mem O h hx).1) (fun y hy hm => chain_cov O h hy hm)).1 h
/-- No one of a chain is at most another one. -/
theorem chain_apart {l c : List α} (h : IsChain O l c) {x y : α} (hx : x ∈ c) (hy : y ∈ c) (hl : O.le x y = true) : x = y :=
  ((h.2 y).1 hy).2.2 x (chain_mem O h hx).1 (chain_mem O h hx).2 hl

def coverB (l : List α) (t : α) : Bool := l.any fun x => O.le x t
theorem cover_iff (l : List α) (t : α) : coverB O l t = true ↔ ∃ x ∈ l, O.le x t = true := by simp [coverB]
/-- P3.3: a chain covers just what those cover that may be. -/
theorem chain_covers {l c : List α} (h : IsChain O l c) (t : α) : coverB O c t = coverB O (l.filter O.may) t := by
  rw [Bool.eq_iff_iff, cover_iff, cover_iff]
  constructor
  · rintro ⟨x, hx, hl⟩
    obtain ⟨h1, h2⟩ := chain_mem O h hx
    exact ⟨x, List.mem_filter.2 ⟨h1, h2⟩, hl⟩
  · rintro ⟨x, hx, hl⟩
    obtain ⟨h1, h2⟩ := List.mem_filter.1 hx
    obtain ⟨z, hz, _, hzl⟩ := chain_cov O h h1 h2
    exact ⟨z, hz, O.trans _ _ _ hzl hl⟩
/-- P3.3: the chain of two rows is the chain of both's chains. -/
theorem chain_union {a b ca cb c : List α} (ha : IsChain O a ca) (hb : IsChain O b cb) : IsChain O (a ++ b) c ↔ IsChain O (ca ++ cb) c := by
  refine chain_same O (fun x hx => ?_) (fun y hy hm => ?_)
  · rcases List.mem_append.1 hx with h | h
    · exact List.mem_append_left _ (chain_mem O ha h).1
    · exact List.mem_append_right _ (chain_mem O hb h).1
  · rcases List.mem_append.1 hy with h | h
    · obtain ⟨z, h1, h2⟩ := chain_cov O ha h hm
      exact ⟨z, List.mem_append_left _ h1, h2⟩
    · obtain ⟨z, h1, h2⟩ := chain_cov O hb h hm
      exact ⟨z, List.mem_append_right _ h1, h2⟩
/-- P3.2: one more behind a chain. -/
theorem chain_step {l c e : List α} {t : α} (h : IsChain O l c) : IsChain O (l ++ [t]) e ↔ IsChain O (c ++ [t]) e := by
  refine chain_same O (fun x hx => ?_) (fun y hy hm => ?_)
  · rcases List.mem_append.1 hx with k | k
    · exact List.mem_append_left _ (chain_mem O h k).1
    · exact List.mem_append_right _ k
  · rcases List.mem_append.1 hy with k | k
    · obtain ⟨z, h1, h2⟩ := chain_cov O h k hm
      exact ⟨z, List.mem_append_left _ h1, h2⟩
    · exact ⟨y, List.mem_append_right _ k, hm, O.refl y hm⟩
/-- What is covered, or may not be, changes nothing. -/
theorem chain_stays {l c : List α} {t : α} (h : IsChain O l c) (ht : O.may t = false ∨ coverB O c t = true) : IsChain O (c ++ [t]) c := by
  refine (chain_same O (fun x hx => List.mem_append_left _ hx) (fun y hy hm => ?_)).2 (chain_again O h)
  rcases List.mem_append.1 hy with k | k
  · exact ⟨y, k, hm, O.refl y hm⟩
  · rw [List.mem_singleton.1 k] at hm ⊢
    rcases ht with ht | ht
    · rw [ht] at hm; cases hm
    · obtain ⟨x, hx, hl⟩ := (cover_iff O c t).1 ht
      exact ⟨x, hx, (chain_mem O h hx).2, hl⟩
theorem chain_nil : IsChain O [] [] := ⟨List.Pairwise.nil, fun x => by simp [Low]⟩
/-- Those that may not be do not count. -/
theorem chain_filter {l c : List α} : IsChain O l c ↔ IsChain O (l.filter O.may) c :=
  chain_same O (fun x hx => (List.mem_filter.1 hx).1) (fun y hy hm => ⟨y, List.mem_filter.2 ⟨hy, hm⟩, hm, O.refl y hm⟩)
/-- In what order they stand, and how often, does not count. -/
theorem chain_set {l m c : List α} (h : ∀ x, x ∈ l ↔ x ∈ m) : IsChain O l c ↔ IsChain O m c :=
  chain_same O (fun x hx => (h x).2 hx) (fun y hy hm => ⟨y, (h y).1 hy, hm, O.refl y hm⟩)

/-- One is put where it belongs. -/
def insO (c : List α) (x : α) : List α := c.takeWhile (fun y => decide (O.ord y x < 0)) ++ [x] ++ c.dropWhile (fun y => decide (O.ord y x < 0))
theorem ins_mem (c : List α) (x y : α) : y ∈ insO O c x ↔ y = x ∨ y ∈ c := by
  unfold insO
  have h : y ∈ c ↔ y ∈ c.takeWhile (fun y => decide (O.ord y x < 0)) ∨ y ∈ c.dropWhile (fun y => decide (O.ord y x < 0)) := by
    rw [← List.mem_append, List.takeWhile_append_dropWhile]
  simp only [List.mem_append, List.mem_singleton, h]
  constructor
  · rintro ((h | h) | h)
    · exact .inr (.inl h)
    · exact .inl h
    · exact .inr (.inr h)
  · rintro (h | h | h)
    · exact .inl (.inr h)
    · exact .inl (.inl h)
    · exact .inr h
theorem ins_rises : ∀ {c : List α} {x : α}, Rises O c → x ∉ c → Rises O (insO O c x)
  | [], x, _, _ => by simp [insO, Rises]
  | y :: c, x, hc, hx => by
    obtain ⟨hy, hc'⟩ := List.pairwise_cons.1 hc
    simp only [List.mem_cons, not_or] at hx
    by_cases h : O.ord y x < 0
    · have e : insO O (y :: c) x = y :: insO O c x := by simp [insO, h]
      rw [e]
      refine List.pairwise_cons.2 ⟨fun z hz => ?_, ins_rises hc' hx.2⟩
      rcases (ins_mem O c x z).1 hz with rfl | hz
      · exact h
      · exact hy z hz
    · have e : insO O (y :: c) x = x :: y :: c := by simp [insO, h]
      rw [e]
      have hxy : O.ord x y < 0 := by
        rcases O.otot x y with k | k | k
        · exact k
        · exact absurd k hx.1
        · exact absurd k h
      refine List.pairwise_cons.2 ⟨fun z hz => ?_, hc⟩
      rcases List.mem_cons.1 hz with rfl | hz
      · exact hxy
      · exact O.otrans _ _ _ hxy (hy z hz)

end Go.Proofs.YtehianjfpmbfpaaGreat
end

section
/-
  Plain facts of summaries: one that is not less makes more of some time; to go round a loop adds one each time; no program is named in them.
-/
namespace Go.Proofs.YtehianjfpmbfpaaGreat
open Go.RowKit
set_option linter.unusedVariables false

def highS (r : Sm) : Bool := decide (500 ≤ r.x) || decide (500 ≤ r.y) || decide (500 ≤ r.z)
def zeroAt (d : Int) : Tm := ⟨0, d, 0, 0, 0⟩
def fiveAt (d : Int) : Tm := ⟨0, d, if 0 < d then 500 else 0, if 1 < d then 500 else 0, if 2 < d then 500 else 0⟩

theorem raw_zero {s : Sm} (h : mayS s = true) (d : Int) : rawT s (zeroAt d) = ⟨s.ep, s.t, s.x, s.y, s.z⟩ := by
  have hm := (mayS_iff s).1 h
  obtain ⟨-, -, -, hx, hy, hz⟩ := hm
  refine tm_eq ?_ rfl ?_ ?_ ?_
  · simp only [rawT, zeroAt]; omega
  · exact compI_zero 0 s.t s.k s.x (fun h => by have := hx.2.2 h; omega)
  · exact compI_zero 1 s.t s.k s.y (fun h => by have := hy.2.2 h; omega)
  · exact compI_zero 2 s.t s.k s.z (fun h => by have := hz.2.2 h; omega)
theorem apply_zero {s : Sm} (h : mayS s = true) : applyE s (zeroAt s.f) = 0 ∧ applyT s (zeroAt s.f) = ⟨s.ep, s.t, s.x, s.y, s.z⟩ := by
  have hm := (mayS_iff s).1 h
  have hr := raw_zero h s.f
  have h1 : mayB (zeroAt s.f) = true := (may_iff' _).2 (by
    obtain ⟨hd, -⟩ := hm
    simp only [zeroAt]; omega)
  have h2 : mayB (rawT s (zeroAt s.f)) = true := by
    rw [hr]
    refine (may_iff' _).2 ?_
    obtain ⟨hd, -, he, hx, hy, hz⟩ := hm
    exact ⟨⟨he.1, he.2, hd.2.2.1, hd.2.2.2⟩, hx, hy, hz⟩
  have := applyE_mk h h1 rfl h2
  rw [hr] at this
  exact this
theorem comp_five (i t sk rk sa ra old : Int) (hi : i < t) (hsk : i < sk) (hrk : rk ≤ i) (ho : old = 500) (ha : 0 ≤ sa) (hr : ra < 500) : ¬ compI i t sk sa old ≤ compI i t rk ra old := by
  unfold compI
  repeat' split
  all_goals omega
/-- P2.4: one that is not less makes more of some time. -/
theorem not_less {s r : Sm} (ms : mayS s = true) (mr : mayS r = true) (hf : s.f = r.f) (ht : s.t = r.t) (hn : leS s r = false)
    (two : leB (applyT s (zeroAt s.f)) (applyT r (zeroAt s.f)) = true) (h : applyE s (fiveAt s.f) = 0) (k : applyE r (fiveAt s.f) = 0)
    (one : leB (applyT s (fiveAt s.f)) (applyT r (fiveAt s.f)) = true) : highS r = true := by
  cases hh : highS r
  · exfalso
    have hh' : r.x < 500 ∧ r.y < 500 ∧ r.z < 500 := by
      have : ¬ highS r = true := by simp [hh]
      simp only [highS, Bool.or_eq_true, decide_eq_true_eq] at this
      omega
    have hm := (mayS_iff s).1 ms
    have a1 := apply_zero ms
    have a2 := apply_zero mr
    rw [← hf] at a2
    rw [a1.2, a2.2, le_iff] at two
    rw [(applyE_ok h).2.2, (applyE_ok k).2.2, le_iff] at one
    dsimp only at two
    obtain ⟨-, -, -, t1, t2, t3, t4⟩ := two
    obtain ⟨-, -, -, -, o2, o3, o4⟩ := one
    have hk := hm.2.1
    have hle : leS s r = true := by
      refine (leS_iff s r).2 ⟨ms, mr, hf, ht, t1, fun c => ⟨fun ⟨p, q⟩ => ?_, t2 c⟩, fun c => ⟨fun ⟨p, q⟩ => ?_, t3 c⟩, fun c => ⟨fun ⟨p, q⟩ => ?_, t4 c⟩⟩
      · have := o2 c
        simp only [rawT] at this
        rw [← ht] at this
        exact comp_five 0 s.t s.k r.k s.x r.x _ c p q (by simp only [fiveAt]; rw [if_pos (by omega)]) hm.2.2.2.1.1 hh'.1 this
      · have := o3 c
        simp only [rawT] at this
        rw [← ht] at this
        exact comp_five 1 s.t s.k r.k s.y r.y _ c p q (by simp only [fiveAt]; rw [if_pos (by omega)]) hm.2.2.2.2.1.1 hh'.2.1 this
      · have := o4 c
        simp only [rawT] at this
        rw [← ht] at this
        exact comp_five 2 s.t s.k r.k s.z r.z _ c p q (by simp only [fiveAt]; rw [if_pos (by omega)]) hm.2.2.2.2.2.1 hh'.2.2 this
    rw [hle] at hn
    cases hn
  · rfl

/-- Having gone round n times. -/
def roundS (d n : Int) : Sm := ⟨d, d + 1, d, 0, if d = 0 then n else 0, if d = 1 then n else 0, if d = 2 then n else 0⟩
theorem enter_round {d : Int} (h0 : 0 ≤ d) (h2 : d ≤ 2) : enterS d = roundS d 0 := by
  have : d = 0 ∨ d = 1 ∨ d = 2 := by omega
  rcases this with rfl | rfl | rfl <;> rfl
theorem feed_round {d n : Int} (h0 : 0 ≤ d) (h2 : d ≤ 2) (hn : 0 ≤ n) (hm : n ≤ 100) : thenE (roundS d n) (feedS (d + 1)) = 0 ∧ thenS (roundS d n) (feedS (d + 1)) = roundS d (n + 1) := by
  have hd : d = 0 ∨ d = 1 ∨ d = 2 := by omega
  have m1 : mayS (roundS d n) = true := (mayS_iff _).2 (by rcases hd with rfl | rfl | rfl <;> simp [roundS] <;> omega)
  have m2 : mayS (feedS (d + 1)) = true := by rcases hd with rfl | rfl | rfl <;> decide
  have e : rawS (roundS d n) (feedS (d + 1)) = roundS d (n + 1) := by
    rcases hd with rfl | rfl | rfl <;> simp [rawS, roundS, feedS, depthB, compI, minI]
  have m3 : mayS (roundS d (n + 1)) = true := (mayS_iff _).2 (by rcases hd with rfl | rfl | rfl <;> simp [roundS] <;> omega)
  have ht : (roundS d n).t = (feedS (d + 1)).f := by rcases hd with rfl | rfl | rfl <;> rfl
  have := thenE_mk m1 m2 ht (by rw [e]; exact m3)
  rw [e] at this
  exact this
theorem leave_round {d n : Int} (h0 : 0 ≤ d) (h2 : d ≤ 2) (hn : 0 ≤ n) (hm : n ≤ 100) : thenE (roundS d n) (leaveS (d + 1)) = 0 ∧ thenS (roundS d n) (leaveS (d + 1)) = sameS d := by
  have hd : d = 0 ∨ d = 1 ∨ d = 2 := by omega
  have m1 : mayS (roundS d n) = true := (mayS_iff _).2 (by rcases hd with rfl | rfl | rfl <;> simp [roundS] <;> omega)
  have m2 : mayS (leaveS (d + 1)) = true := by rcases hd with rfl | rfl | rfl <;> decide
  have e : rawS (roundS d n) (leaveS (d + 1)) = sameS d := by
    rcases hd with rfl | rfl | rfl <;> simp [rawS, roundS, leaveS, sameS, depthB, compI, minI]
  have m3 : mayS (sameS d) = true := by rcases hd with rfl | rfl | rfl <;> decide
  have ht : (roundS d n).t = (leaveS (d + 1)).f := by rcases hd with rfl | rfl | rfl <;> rfl
  have := thenE_mk m1 m2 ht (by rw [e]; exact m3)
  rw [e] at this
  exact this
theorem apply_round {d n : Int} (h0 : 0 ≤ d) (h2 : d ≤ 2) (hn : 0 ≤ n) (hm : n ≤ 100) : applyE (roundS d n) ⟨3, d, 0, 0, 0⟩ = 0 ∧ applyT (roundS d n) ⟨3, d, 0, 0, 0⟩ = ⟨3, d + 1, if d = 0 then n else 0, if d = 1 then n else 0, if d = 2 then n else 0⟩ := by
  have hd : d = 0 ∨ d = 1 ∨ d = 2 := by omega
  have m1 : mayS (roundS d n) = true := (mayS_iff _).2 (by rcases hd with rfl | rfl | rfl <;> simp [roundS] <;> omega)
  have m2 : mayB ⟨3, d, 0, 0, 0⟩ = true := by rcases hd with rfl | rfl | rfl <;> decide
  have e : rawT (roundS d n) ⟨3, d, 0, 0, 0⟩ = ⟨3, d + 1, if d = 0 then n else 0, if d = 1 then n else 0, if d = 2 then n else 0⟩ := by
    rcases hd with rfl | rfl | rfl <;> simp [rawT, roundS, compI]
  have m3 : mayB ⟨3, d + 1, if d = 0 then n else 0, if d = 1 then n else 0, if d = 2 then n else 0⟩ = true := (may_iff' _).2 (by rcases hd with rfl | rfl | rfl <;> simp <;> omega)
  have := applyE_mk m1 m2 rfl (by rw [e]; exact m3)
  rw [e] at this
  exact this

end Go.Proofs.YtehianjfpmbfpaaGreat
end

section
/-
  The chain as the document's own text reckons it (each against each, put where it belongs), and times and summaries as such kinds; no program is named in them.
-/
namespace Go.Proofs.YtehianjfpmbfpaaGreat
set_option linter.unusedVariables false

section
variable {α : Type} (O : Kin α)

/-- Number i of l is taken: it may be, none of l that may be is less, none ahead of it is the same. -/
def Pick (l : List α) (i : Nat) : Prop :=
  ∃ x, l[i]? = some x ∧ O.may x = true ∧ ∀ (k : Nat) y, l[k]? = some y → O.may y = true → ¬ ((O.le y x = true ∧ ¬ O.le x y = true) ∨ (k < i ∧ y = x))

theorem first_at : ∀ {l : List α} {x : α}, x ∈ l → ∃ i : Nat, l[i]? = some x ∧ ∀ k : Nat, k < i → l[k]? ≠ some x
  | y :: l, x, h => by
    by_cases e : y = x
    · exact ⟨0, by simp [e], fun k hk => by omega⟩
    · rcases List.mem_cons.1 h with h | h
      · exact absurd h.symm e
      · obtain ⟨i, h1, h2⟩ := first_at h
        refine ⟨i + 1, by simpa using h1, fun k hk => ?_⟩
        cases k with
        | zero => simpa using e
        | succ k => simpa using h2 k (by omega)

theorem pick_low {l : List α} {x : α} : Low O l x ↔ ∃ i : Nat, l[i]? = some x ∧ Pick O l i := by
  constructor
  · rintro ⟨h1, h2, h3⟩
    obtain ⟨i, hi, hf⟩ := first_at h1
    refine ⟨i, hi, x, hi, h2, fun k y hk hm => ?_⟩
    rintro (⟨a, b⟩ | ⟨a, b⟩)
    · have e := h3 y (List.mem_of_getElem? hk) hm a
      subst e
      exact b a
    · subst b
      exact hf k a hk
  · rintro ⟨i, hi, z, hz, hm, hn⟩
    rw [hi] at hz
    cases hz
    refine ⟨List.mem_of_getElem? hi, hm, fun y hy hym hl => ?_⟩
    obtain ⟨k, hk⟩ := List.getElem?_of_mem hy
    have := hn k y hk hym
    by_cases b : O.le x y = true
    · exact O.anti _ _ hym hm hl b
    · exact absurd (.inl ⟨hl, b⟩) this

/-- The chain of the first n places, one by one. -/
inductive Refs (l : List α) : Nat → List α → Prop
  | zero : Refs l 0 []
  | take {n c x} : Refs l n c → l[n]? = some x → Pick O l n → Refs l (n + 1) (insO O c x)
  | skip {n c} : Refs l n c → ¬ Pick O l n → Refs l (n + 1) c

theorem refs_spec {l : List α} {n : Nat} {c : List α} (h : Refs O l n c) : Rises O c ∧ ∀ x, x ∈ c ↔ ∃ i : Nat, i < n ∧ l[i]? = some x ∧ Pick O l i := by
  induction h with
  | zero => exact ⟨List.Pairwise.nil, fun x => by simp⟩
  | @take n c x hr hx hp ih =>
    have hnot : x ∉ c := fun hc => by
      obtain ⟨i, hi, hix, _⟩ := (ih.2 x).1 hc
      obtain ⟨z, hz, hm, hn⟩ := hp
      rw [hx] at hz
      cases hz
      exact hn i x hix hm (.inr ⟨hi, rfl⟩)
    refine ⟨ins_rises O ih.1 hnot, fun y => ?_⟩
    rw [ins_mem, ih.2 y]
    constructor
    · rintro (rfl | ⟨i, h1, h2⟩)
      · exact ⟨n, by omega, hx, hp⟩
      · exact ⟨i, by omega, h2⟩
    · rintro ⟨i, h1, h2, h3⟩
      by_cases e : i = n
      · subst e
        rw [hx] at h2
        cases h2
        exact .inl rfl
      · exact .inr ⟨i, by omega, h2, h3⟩
  | @skip n c hr hp ih =>
    refine ⟨ih.1, fun y => ?_⟩
    rw [ih.2 y]
    constructor
    · rintro ⟨i, h1, h2⟩
      exact ⟨i, by omega, h2⟩
    · rintro ⟨i, h1, h2, h3⟩
      by_cases e : i = n
      · subst e; exact absurd h3 hp
      · exact ⟨i, by omega, h2, h3⟩
/-- It is the chain. -/
theorem refs_chain {l c : List α} (h : Refs O l l.length c) : IsChain O l c := by
  obtain ⟨h1, h2⟩ := refs_spec O h
  refine ⟨h1, fun x => ?_⟩
  rw [h2 x, pick_low]
  constructor
  · rintro ⟨i, _, h⟩; exact ⟨i, h⟩
  · rintro ⟨i, h, k⟩
    exact ⟨i, (List.getElem?_eq_some_iff.1 h).1, h, k⟩
theorem refs_len {l : List α} {n : Nat} {c : List α} (h : Refs O l n c) : c.length ≤ n := by
  induction h with
  | zero => simp
  | @take n c x _ _ _ ih =>
    have e : (insO O c x).length = c.length + 1 := by
      unfold insO
      have := congrArg List.length (List.takeWhile_append_dropWhile (p := fun y => decide (O.ord y x < 0)) (l := c))
      simp only [List.length_append, List.length_singleton] at this ⊢
      omega
    omega
  | skip _ _ ih => omega
end

theorem eqB_iff (a b : Tm) : eqB a b = true ↔ a = b := by
  rw [eq_iff]
  constructor
  · rintro ⟨h1, h2, h3, h4, h5⟩; exact tm_eq h1 h2 h3 h4 h5
  · rintro rfl; simp
theorem eqS_iff (a b : Sm) : eqS a b = true ↔ a = b := by
  simp only [eqS, Bool.and_eq_true, beq_iff_eq]
  constructor
  · rintro ⟨⟨⟨⟨⟨⟨h1, h2⟩, h3⟩, h4⟩, h5⟩, h6⟩, h7⟩; exact sm_eq h1 h2 h3 h4 h5 h6 h7
  · rintro rfl; simp
/-- The total order of times, number by number. -/
theorem orderI_cases (s r : Tm) : (orderI s r = -1 ∧ (s.d < r.d ∨ s.d = r.d ∧ (s.e < r.e ∨ s.e = r.e ∧ (s.x < r.x ∨ s.x = r.x ∧ (s.y < r.y ∨ s.y = r.y ∧ s.z < r.z)))))
    ∨ (orderI s r = 0 ∧ s = r) ∨ (orderI s r = 1 ∧ (r.d < s.d ∨ r.d = s.d ∧ (r.e < s.e ∨ r.e = s.e ∧ (r.x < s.x ∨ r.x = s.x ∧ (r.y < s.y ∨ r.y = s.y ∧ r.z < s.z))))) := by
  unfold orderI
  rcases cmpI_cases s.d r.d with ⟨h, k1⟩ | ⟨h, k1⟩ | ⟨h, k1⟩ <;> simp only [h]
  · exact .inl ⟨by simp, .inl k1⟩
  rotate_left
  · exact .inr (.inr ⟨by simp, .inl k1⟩)
  rcases cmpI_cases s.e r.e with ⟨h, k2⟩ | ⟨h, k2⟩ | ⟨h, k2⟩ <;> simp only [h]
  · exact .inl ⟨by simp, .inr ⟨k1, .inl k2⟩⟩
  rotate_left
  · exact .inr (.inr ⟨by simp, .inr ⟨k1.symm, .inl k2⟩⟩)
  rcases cmpI_cases s.x r.x with ⟨h, k3⟩ | ⟨h, k3⟩ | ⟨h, k3⟩ <;> simp only [h]
  · exact .inl ⟨by simp, .inr ⟨k1, .inr ⟨k2, .inl k3⟩⟩⟩
  rotate_left
  · exact .inr (.inr ⟨by simp, .inr ⟨k1.symm, .inr ⟨k2.symm, .inl k3⟩⟩⟩)
  rcases cmpI_cases s.y r.y with ⟨h, k4⟩ | ⟨h, k4⟩ | ⟨h, k4⟩ <;> simp only [h]
  · exact .inl ⟨by simp, .inr ⟨k1, .inr ⟨k2, .inr ⟨k3, .inl k4⟩⟩⟩⟩
  rotate_left
  · exact .inr (.inr ⟨by simp, .inr ⟨k1.symm, .inr ⟨k2.symm, .inr ⟨k3.symm, .inl k4⟩⟩⟩⟩)
  rcases cmpI_cases s.z r.z with ⟨h, k5⟩ | ⟨h, k5⟩ | ⟨h, k5⟩ <;> simp only [h]
  · exact .inl ⟨by simp, .inr ⟨k1, .inr ⟨k2, .inr ⟨k3, .inr ⟨k4, k5⟩⟩⟩⟩⟩
  · exact .inr (.inl ⟨by simp, tm_eq k2 k1 k3 k4 k5⟩)
  · exact .inr (.inr ⟨by simp, .inr ⟨k1.symm, .inr ⟨k2.symm, .inr ⟨k3.symm, .inr ⟨k4.symm, k5⟩⟩⟩⟩⟩)
theorem orderI_lt (s r : Tm) : orderI s r < 0 ↔ (s.d < r.d ∨ s.d = r.d ∧ (s.e < r.e ∨ s.e = r.e ∧ (s.x < r.x ∨ s.x = r.x ∧ (s.y < r.y ∨ s.y = r.y ∧ s.z < r.z)))) := by
  rcases orderI_cases s r with ⟨h, k⟩ | ⟨h, k⟩ | ⟨h, k⟩
  · exact ⟨fun _ => k, fun _ => by omega⟩
  · subst k; omega
  · omega
theorem orderS_lt (s r : Sm) : orderS s r < 0 ↔ (s.f < r.f ∨ s.f = r.f ∧ (s.t < r.t ∨ s.t = r.t ∧ (s.k < r.k ∨ s.k = r.k ∧ (s.ep < r.ep ∨ s.ep = r.ep ∧ (s.x < r.x ∨ s.x = r.x ∧ (s.y < r.y ∨ s.y = r.y ∧ s.z < r.z)))))) := by
  rcases orderS_cases s r with ⟨h, k⟩ | ⟨h, k⟩ | ⟨h, k⟩
  · exact ⟨fun _ => k, fun _ => by omega⟩
  · subst k; omega
  · omega

theorem leS_trans {a b c : Sm} (h : leS a b = true) (k : leS b c = true) : leS a c = true := by
  obtain ⟨m1, m2, f1, t1, e1, x1, y1, z1⟩ := (leS_iff a b).1 h
  obtain ⟨_, m3, f2, t2, e2, x2, y2, z2⟩ := (leS_iff b c).1 k
  refine (leS_iff a c).2 ⟨m1, m3, f1.trans f2, t1.trans t2, by omega, fun q => ?_, fun q => ?_, fun q => ?_⟩
  · have := x1 q; have := x2 (by omega); omega
  · have := y1 q; have := y2 (by omega); omega
  · have := z1 q; have := z2 (by omega); omega
theorem leS_anti {a b : Sm} (h : leS a b = true) (k : leS b a = true) : a = b := by
  have h1 := le_orderS h
  have h2 := le_orderS k
  have h3 := orderS_anti a b
  exact (eqS_iff a b).1 ((orderS_zero a b).1 (by omega))

/-- Times. -/
def kinT : Kin Tm where
  may := mayB
  le := leB
  ord := orderI
  refl a h := le_refl_may h
  anti a b ha hb h k := (eqB_iff a b).1 (le_anti ha hb h k)
  trans a b c h k := le_trans h k
  oanti a b := order_anti a b
  ozero a b h := by
    rcases orderI_cases a b with ⟨k, _⟩ | ⟨_, k⟩ | ⟨k, _⟩
    · omega
    · exact k
    · omega
  otrans a b c h k := by
    rw [orderI_lt] at h k ⊢
    omega
  ole a b ha hb h := by
    by_cases e : leB b a = true
    · have := (eqB_iff a b).1 (le_anti ha hb h e)
      subst this
      have := order_anti a a
      omega
    · have := less_ahead ha hb (by simp [lessB, h, e])
      omega
/-- Summaries. -/
def kinS : Kin Sm where
  may := mayS
  le := leS
  ord := orderS
  refl a h := leS_refl h
  anti a b ha hb h k := leS_anti h k
  trans a b c h k := leS_trans h k
  oanti a b := orderS_anti a b
  ozero a b h := (eqS_iff a b).1 ((orderS_zero a b).1 h)
  otrans a b c h k := by
    rw [orderS_lt] at h k ⊢
    omega
  ole a b ha hb h := le_orderS h

end Go.Proofs.YtehianjfpmbfpaaGreat
end

section
/-
  The chain as the program reckons it: those that may be, put in order, and of these each that is not covered by those ahead; no program is named in it.
-/
namespace Go.Proofs.YtehianjfpmbfpaaGreat
set_option linter.unusedVariables false

variable {α : Type} (O : Kin α)

/-- One more is held against those that were found lowest. -/
def pushO (c : List α) (x : α) : List α := if coverB O c x = true then c else c ++ [x]
def greedyO (s : List α) : List α := s.foldl (pushO O) []
theorem greedy_step (s : List α) (k : Nat) (h : k < s.length) : greedyO O (s.take (k + 1)) = pushO O (greedyO O (s.take k)) s[k] := by
  unfold greedyO
  rw [List.take_succ_eq_append_getElem h, List.foldl_append]
  rfl
theorem push_len (c : List α) (x : α) : (pushO O c x).length ≤ c.length + 1 := by
  unfold pushO; split <;> simp
theorem greedy_len_aux : ∀ (s : List α) (c : List α), (s.foldl (pushO O) c).length ≤ c.length + s.length
  | [], c => by simp
  | x :: s, c => by
    have h1 := greedy_len_aux s (pushO O c x)
    have h2 := push_len O c x
    simp only [List.foldl_cons, List.length_cons]
    omega
theorem greedy_len (s : List α) : (greedyO O s).length ≤ s.length := by
  have := greedy_len_aux O s []
  simpa [greedyO] using this

theorem push_chain {p c : List α} {x : α} (h : IsChain O p c) (hx : O.may x = true) (ho : ∀ y ∈ p, O.ord y x ≤ 0) : IsChain O (p ++ [x]) (pushO O c x) := by
  unfold pushO
  rw [chain_step O h]
  by_cases hc : coverB O c x = true
  · rw [if_pos hc]
    exact chain_stays O h (.inr hc)
  · rw [if_neg hc]
    have hlt : ∀ y ∈ c, O.ord y x < 0 := fun y hy => by
      have h1 := ho y (chain_mem O h hy).1
      by_cases h0 : O.ord y x = 0
      · have := O.ozero y x h0
        subst this
        exact absurd ((cover_iff O c y).2 ⟨y, hy, O.refl y hx⟩) hc
      · omega
    have hr : Rises O (c ++ [x]) := by
      unfold Rises
      rw [List.pairwise_append]
      exact ⟨h.1, by simp, fun a ha b hb => by rw [List.mem_singleton.1 hb]; exact hlt a ha⟩
    refine ⟨hr, fun z => ⟨fun hz => ?_, fun hz => hz.1⟩⟩
    have hmz : O.may z = true := by
      rcases List.mem_append.1 hz with k | k
      · exact (chain_mem O h k).2
      · rw [List.mem_singleton.1 k]; exact hx
    refine ⟨hz, hmz, fun y hy hym hyz => ?_⟩
    rcases List.mem_append.1 hz with k | k <;> rcases List.mem_append.1 hy with j | j
    · exact chain_apart O h j k hyz
    · rw [List.mem_singleton.1 j] at hyz hym
      have a := O.ole x z hx hmz hyz
      have b := hlt z k
      have := O.oanti x z
      omega
    · rw [List.mem_singleton.1 k] at hyz
      exact absurd ((cover_iff O c x).2 ⟨y, j, hyz⟩) hc
    · rw [List.mem_singleton.1 k, List.mem_singleton.1 j]
theorem greedy_chain_aux {s : List α} (hs : s.Pairwise fun a b => O.ord a b ≤ 0) (hm : ∀ x ∈ s, O.may x = true) : ∀ k, k ≤ s.length → IsChain O (s.take k) (greedyO O (s.take k))
  | 0, _ => by simpa [greedyO] using chain_nil O
  | k + 1, hk => by
    have ih := greedy_chain_aux hs hm k (by omega)
    rw [greedy_step O s k (by omega), List.take_succ_eq_append_getElem (by omega)]
    refine push_chain O ih (hm _ (List.getElem_mem _)) (fun y hy => ?_)
    obtain ⟨j, hj, rfl⟩ := List.getElem_of_mem hy
    rw [List.getElem_take]
    have : j < k := by
      have := hj
      rw [List.length_take] at this
      omega
    exact List.pairwise_iff_getElem.1 hs j k (by omega) (by omega) this
/-- What the program reckons is the chain. -/
theorem greedy_chain {l s : List α} (hp : s.Perm (l.filter O.may)) (hs : s.Pairwise fun a b => O.ord a b ≤ 0) : IsChain O l (greedyO O s) := by
  rw [chain_filter O, chain_set O (fun x => (hp.mem_iff (a := x)).symm)]
  have := greedy_chain_aux O hs (fun x hx => (List.mem_filter.1 (hp.mem_iff.1 hx)).2) s.length (Nat.le_refl _)
  rwa [List.take_length] at this
/-- The chain of a row. -/
def chainO (l : List α) : List α := greedyO O ((l.filter O.may).mergeSort fun a b => decide (O.ord a b ≤ 0))
theorem chainO_is (l : List α) : IsChain O l (chainO O l) := by
  refine greedy_chain O (List.mergeSort_perm _ _) ?_
  have := List.pairwise_mergeSort (le := fun a b => decide (O.ord a b ≤ 0)) (fun a b c h k => ?_) (fun a b => ?_) (l.filter O.may)
  · exact this.imp fun h => by simpa using h
  · simp only [decide_eq_true_eq] at h k ⊢
    rcases O.otot a b with x | x | x
    · rcases O.otot b c with y | y | y
      · have := O.otrans _ _ _ x y; omega
      · rw [← y]; exact h
      · have := O.oanti b c; omega
    · rw [x]; exact k
    · have := O.oanti a b; omega
  · have := O.oanti a b
    simp only [Bool.or_eq_true, decide_eq_true_eq]
    omega
theorem chainO_eq {l c : List α} (h : IsChain O l c) : c = chainO O l := chain_unique O h (chainO_is O l)
theorem chainO_len (l : List α) : (chainO O l).length ≤ l.length := by
  have h1 := greedy_len O ((l.filter O.may).mergeSort fun a b => decide (O.ord a b ≤ 0))
  have h2 := (List.mergeSort_perm (l.filter O.may) fun a b => decide (O.ord a b ≤ 0)).length_eq
  have h3 := List.length_filter_le O.may l
  unfold chainO
  omega

end Go.Proofs.YtehianjfpmbfpaaGreat
end

section
/-
  What follows of chains: the chain of a chain, of a chain and one more, of two chains; no program is named in it.
-/
namespace Go.Proofs.YtehianjfpmbfpaaGreat
set_option linter.unusedVariables false

section
variable {α : Type} (O : Kin α)
theorem chainO_nil : chainO O [] = [] := (chainO_eq O (chain_nil O)).symm
theorem chainO_again (l : List α) : chainO O (chainO O l) = chainO O l := (chainO_eq O (chain_again O (chainO_is O l))).symm
theorem chainO_step (l : List α) (t : α) : chainO O (chainO O l ++ [t]) = chainO O (l ++ [t]) :=
  (chainO_eq O ((chain_step O (chainO_is O l)).1 (chainO_is O (l ++ [t])))).symm
theorem chainO_stays (l : List α) (t : α) (ht : O.may t = false ∨ coverB O (chainO O l) t = true) : chainO O (chainO O l ++ [t]) = chainO O l :=
  (chainO_eq O (chain_stays O (chainO_is O l) ht)).symm
theorem chainO_union (a b : List α) : chainO O (chainO O a ++ chainO O b) = chainO O (a ++ b) :=
  (chainO_eq O ((chain_union O (chainO_is O a) (chainO_is O b)).1 (chainO_is O (a ++ b)))).symm
theorem chainO_covers (l : List α) (t : α) : coverB O (chainO O l) t = coverB O (l.filter O.may) t := chain_covers O (chainO_is O l) t
theorem chainO_rises (l : List α) (i k : Nat) (hi : i < (chainO O l).length) (hk : k < (chainO O l).length) (h : i < k) : O.ord (chainO O l)[i] (chainO O l)[k] < 0 :=
  List.pairwise_iff_getElem.1 (chainO_is O l).1 i k hi hk h
theorem chainO_apart (l : List α) (i k : Nat) (hi : i < (chainO O l).length) (hk : k < (chainO O l).length) (h : i ≠ k) : O.le (chainO O l)[i] (chainO O l)[k] = false := by
  cases hl : O.le (chainO O l)[i] (chainO O l)[k]
  · rfl
  · have e := chain_apart O (chainO_is O l) (List.getElem_mem hi) (List.getElem_mem hk) hl
    have z := O.oself (chainO O l)[i]
    rcases Nat.lt_or_gt_of_ne h with h | h
    · have := chainO_rises O l i k hi hk h
      rw [← e] at this
      omega
    · have := chainO_rises O l k i hk hi h
      rw [← e] at this
      omega
theorem chainO_has (l : List α) (i : Nat) (hi : i < l.length) (hm : O.may l[i] = true) : coverB O (chainO O l) l[i] = true := by
  rw [chainO_covers, cover_iff]
  exact ⟨l[i], List.mem_filter.2 ⟨List.getElem_mem hi, hm⟩, O.refl _ hm⟩
theorem chainO_take (l : List α) (k : Nat) (h : k < l.length) : chainO O (chainO O (l.take k) ++ [l[k]]) = chainO O (l.take (k + 1)) := by
  rw [chainO_step, List.take_succ_eq_append_getElem h]
end

theorem orderI_neg (s r : Tm) (h : orderI s r < 0) : orderI s r = -1 := by
  rcases orderI_cases s r with ⟨h, _⟩ | ⟨h, _⟩ | ⟨h, _⟩
  · exact h
  · omega
  · omega
theorem orderS_neg (s r : Sm) (h : orderS s r < 0) : orderS s r = -1 := by
  rcases orderS_cases s r with ⟨h, _⟩ | ⟨h, _⟩ | ⟨h, _⟩
  · exact h
  · omega
  · omega

end Go.Proofs.YtehianjfpmbfpaaGreat
end
