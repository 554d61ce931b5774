/-
  What paths do, as plain data: ways of steps, what they do one behind the other; rows of summaries that hold the lowest of what all ways to a place do, which are one row alone. No program is named here.
-/
import Derived.Test.YtehianjfpmbfpaaGreatChF
import Derived.Test.YtehianjfpmbfpaaGreatHPl
namespace Go.Proofs.YtehianjfpmbfpaaGreat
set_option linter.unusedVariables false
set_option linter.unusedSimpArgs false

/-- A step: from a place to another one, and what it does. -/
structure Stp where
  a : Lc
  b : Lc
  r : Sm
/-- What ways from a place do, that begin with s0. -/
inductive Way (S : List Stp) (a : Lc) (s0 : Sm) : Lc → Sm → Prop
  | none : Way S a s0 a s0
  | more (x : Stp) (s : Sm) : Way S a s0 x.a s → x ∈ S → thenE s x.r = 0 → Way S a s0 x.b (thenS s x.r)
theorem Way.may {S : List Stp} {a b : Lc} {s0 s : Sm} (h0 : mayS s0 = true) (h : Way S a s0 b s) : mayS s = true ∧ s.f = s0.f := by
  induction h with
  | none => exact ⟨h0, rfl⟩
  | more x s _ _ he ih =>
    obtain ⟨_, m, e⟩ := thenE_ok he
    rw [e]
    exact ⟨m, ih.2⟩
theorem comp_in {i t k a o m : Int} (h0 : 0 ≤ a) (h1 : 0 ≤ o) (h2 : i < t → compI i t k a o ≤ m) : 0 ≤ compI i t k a o ∧ (i < t → compI i t k a o ≤ m) ∧ (t ≤ i → compI i t k a o ≤ 0) := by
  refine ⟨?_, h2, fun h => ?_⟩
  · unfold compI
    repeat' split
    all_goals omega
  · unfold compI
    rw [if_neg (by omega)]
    omega
/-- What is at most another may be followed by what the other may. -/
theorem then_le_ok {a b c : Sm} (h : leS a b = true) (h2 : thenE b c = 0) : thenE a c = 0 := by
  obtain ⟨ma, mb, hf, ht, he, hx, hy, hz⟩ := (leS_iff a b).1 h
  obtain ⟨⟨_, mc, hd⟩, m2, e2⟩ := thenE_ok h2
  have ha := (mayS_iff a).1 ma
  have hc := (mayS_iff c).1 mc
  have hm := (mayS_iff _).1 m2
  have hdt : a.t = c.f := ht.trans hd
  obtain ⟨⟨a1, a2, a3, a4⟩, ⟨a5, a6, a7⟩, ⟨a8, a9⟩, ⟨ax, _⟩, ⟨ay, _⟩, ⟨az, _⟩⟩ := ha
  obtain ⟨⟨c1, c2, c3, c4⟩, ⟨c5, c6, c7⟩, ⟨c8, c9⟩, ⟨cx, _⟩, ⟨cy, _⟩, ⟨cz, _⟩⟩ := hc
  obtain ⟨_, _, ⟨m8, m9⟩, ⟨_, mx, _⟩, ⟨_, my, _⟩, ⟨_, mz, _⟩⟩ := hm
  have m9' : b.ep + c.ep ≤ 1048576 := m9
  refine (thenE_mk ma mc hdt ((mayS_iff _).2 ⟨⟨a1, a2, c3, c4⟩, ⟨?_, ?_, ?_⟩, ⟨?_, ?_⟩, ?_, ?_, ?_⟩)).1
  · show 0 ≤ minI a.k c.k
    unfold minI; split <;> omega
  · show minI a.k c.k ≤ a.f
    unfold minI; split <;> omega
  · show minI a.k c.k ≤ c.t
    unfold minI; split <;> omega
  · show 0 ≤ a.ep + c.ep
    omega
  · show a.ep + c.ep ≤ 1048576
    omega
  · exact comp_in cx ax fun hi => Int.le_trans (comp_up 0 c.t c.k c.x a.x b.x fun hk => (hx (by omega)).2) (mx hi)
  · exact comp_in cy ay fun hi => Int.le_trans (comp_up 1 c.t c.k c.y a.y b.y fun hk => (hy (by omega)).2) (my hi)
  · exact comp_in cz az fun hi => Int.le_trans (comp_up 2 c.t c.k c.z a.z b.z fun hk => (hz (by omega)).2) (mz hi)
/-- Rows that hold the beginning, and what follows of their own, cover what all ways do. -/
theorem closed_covers {S : List Stp} {a : Lc} {s0 : Sm} (out : Lc → List Sm) (h0 : coverB kinS (out a) s0 = true)
    (hcl : ∀ x ∈ S, ∀ s ∈ out x.a, thenE s x.r = 0 → coverB kinS (out x.b) (thenS s x.r) = true) {b : Lc} {s : Sm} (h : Way S a s0 b s) : coverB kinS (out b) s = true := by
  induction h with
  | none => exact h0
  | more x s hw hx he ih =>
    obtain ⟨y, hy, hle⟩ := (cover_iff kinS _ _).1 ih
    have h1 := then_le_ok hle he
    obtain ⟨z, hz, hlz⟩ := (cover_iff kinS _ _).1 (hcl x hx y hy h1)
    exact (cover_iff kinS _ _).2 ⟨z, hz, leS_trans hlz (le_then hle h1 he)⟩
/-- The lowest of what is so, in order. -/
structure Front (P : Sm → Prop) (l : List Sm) : Prop where
  up : Rises kinS l
  all : ∀ x ∈ l, P x
  apart : ∀ x ∈ l, ∀ y ∈ l, leS x y = true → x = y
  cov : ∀ s, P s → coverB kinS l s = true
theorem front_sub {P : Sm → Prop} (hP : ∀ s, P s → mayS s = true) {l m : List Sm} (h : Front P l) (k : Front P m) {x : Sm} (hx : x ∈ l) : x ∈ m := by
  obtain ⟨y, hy, hle⟩ := (cover_iff kinS _ _).1 (k.cov x (h.all x hx))
  obtain ⟨z, hz, hlz⟩ := (cover_iff kinS _ _).1 (h.cov y (k.all y hy))
  have e : z = x := h.apart z hz x hx (leS_trans hlz hle)
  subst e
  have : y = z := leS_anti hle hlz
  subst this
  exact hy
/-- There is one such row alone. -/
theorem front_unique {P : Sm → Prop} (hP : ∀ s, P s → mayS s = true) {l m : List Sm} (h : Front P l) (k : Front P m) : l = m :=
  rises_ext kinS h.up k.up fun x => ⟨front_sub hP h k, front_sub hP k h⟩
/-- It is its own chain. -/
theorem Front.chain {P : Sm → Prop} (hP : ∀ s, P s → mayS s = true) {l : List Sm} (h : Front P l) : chainO kinS l = l :=
  (chainO_eq kinS ⟨h.up, fun x => ⟨fun hx => ⟨hx, hP x (h.all x hx), fun y hy _ hl => h.apart y hy x hx hl⟩, fun hx => hx.1⟩⟩).symm
/-- A chain of what is so, which covers all that is so, is the row. -/
theorem front_of {P : Sm → Prop} {l c : List Sm} (hc : IsChain kinS l c) (hl : ∀ x ∈ l, mayS x = true → P x) (hcov : ∀ s, P s → coverB kinS c s = true) : Front P c :=
  ⟨hc.1, fun x hx => hl x (chain_mem kinS hc hx).1 (chain_mem kinS hc hx).2, fun x hx y hy h => chain_apart kinS hc hx hy h, hcov⟩
end Go.Proofs.YtehianjfpmbfpaaGreat
