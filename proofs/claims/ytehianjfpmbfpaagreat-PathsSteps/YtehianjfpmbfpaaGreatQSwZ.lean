import Derived.Test.YtehianjfpmbfpaaGreatChFZ
import Derived.Test.YtehianjfpmbfpaaGreatHPlZ
section
/-
  What paths do, as plain data: ways of steps, what they do one behind the other; rows of summaries that hold the lowest of what all ways to a place do, which are one row alone. No program is named here.
-/
namespace Go.Proofs.YtehianjfpmbfpaaGreat
set_option linter.unusedVariables false
set_option linter.unusedSimpArgs false

/-- A step: from a place to another one, and what it does. -/
structure Stp where
  a : Lc
  b : Lc
  r : Sm
/-- What ways from a place do, that begin with s0. -/
inductive Way (S : List Stp) (a : Lc) (s0 : Sm) : Lc → Sm → Prop
  | none : Way S a s0 a s0
  | more (x : Stp) (s : Sm) : Way S a s0 x.a s → x ∈ S → thenE s x.r = 0 → Way S a s0 x.b (thenS s x.r)
theorem Way.may {S : List Stp} {a b : Lc} {s0 s : Sm} (h0 : mayS s0 = true) (h : Way S a s0 b s) : mayS s = true ∧ s.f = s0.f := by
  induction h with
  | none => exact ⟨h0, rfl⟩
  | more x s _ _ he ih =>
    obtain ⟨_, m, e⟩ := thenE_ok he
    rw [e]
    exact ⟨m, ih.2⟩
theorem comp_in {i t k a o m : Int} (h0 : 0 ≤ a) (h1 : 0 ≤ o) (h2 : i < t → compI i t k a o ≤ m) : 0 ≤ compI i t k a o ∧ (i < t → compI i t k a o ≤ m) ∧ (t ≤ i → compI i t k a o ≤ 0) := by
  refine ⟨?_, h2, fun h => ?_⟩
  · unfold compI
    repeat' split
    all_goals omega
  · unfold compI
    rw [if_neg (by omega)]
    omega
/-- What is at most another may be followed by what the other may. -/
theorem then_le_ok {a b c : Sm} (h : leS a b = true) (h2 : thenE b c = 0) : thenE a c = 0 := by
  obtain ⟨ma, mb, hf, ht, he, hx, hy, hz⟩ := (leS_iff a b).1 h
  obtain ⟨⟨_, mc, hd⟩, m2, e2⟩ := thenE_ok h2
  have ha := (mayS_iff a).1 ma
  have hc := (mayS_iff c).1 mc
  have hm := (mayS_iff _).1 m2
  have hdt : a.t = c.f := ht.trans hd
  obtain ⟨⟨a1, a2, a3, a4⟩, ⟨a5, a6, a7⟩, ⟨a8, a9⟩, ⟨ax, _⟩, ⟨ay, _⟩, ⟨az, _⟩⟩ := ha
  obtain ⟨⟨c1, c2, c3, c4⟩, ⟨c5, c6, c7⟩, ⟨c8, c9⟩, ⟨cx, _⟩, ⟨cy, _⟩, ⟨cz, _⟩⟩ := hc
  obtain ⟨_, _, ⟨m8, m9⟩, ⟨_, mx, _⟩, ⟨_, my, _⟩, ⟨_, mz, _⟩⟩ := hm
  have m9' : b.ep + c.ep ≤ 1048576 := m9
  refine (thenE_mk ma mc hdt ((mayS_iff _).2 ⟨⟨a1, a2, c3, c4⟩, ⟨?_, ?_, ?_⟩, ⟨?_, ?_⟩, ?_, ?_, ?_⟩)).1
  · show 0 ≤ minI a.k c.k
    unfold minI; split <;> omega
  · show minI a.k c.k ≤ a.f
    unfold minI; split <;> omega
  · show minI a.k c.k ≤ c.t
    unfold minI; split <;> omega
  · show 0 ≤ a.ep + c.ep
    omega
  · show a.ep + c.ep ≤ 1048576
    omega
  · exact comp_in cx ax fun hi => Int.le_trans (comp_up 0 c.t c.k c.x a.x b.x fun hk => (hx (by omega)).2) (mx hi)
  · exact comp_in cy ay fun hi => Int.le_trans (comp_up 1 c.t c.k c.y a.y b.y fun hk => (hy (by omega)).2) (my hi)
  · exact comp_in cz az fun hi => Int.le_trans (comp_up 2 c.t c.k c.z a.z b.z fun hk => (hz (by omega)).2) (mz hi)
/-- Rows that hold the beginning, and what follows of their own, cover what all ways do. -/
theorem closed_covers {S : List Stp} {a : Lc} {s0 : Sm} (out : Lc → List Sm) (h0 : coverB kinS (out a) s0 = true)
    (hcl : ∀ x ∈ S, ∀ s ∈ out x.a, thenE s x.r = 0 → coverB kinS (out x.b) (thenS s x.r) = true) {b : Lc} {s : Sm} (h : Way S a s0 b s) : coverB kinS (out b) s = true := by
  induction h with
  | none => exact h0
  | more x s hw hx he ih =>
    obtain ⟨y, hy, hle⟩ := (cover_iff kinS _ _).1 ih
    have h1 := then_le_ok hle he
    obtain ⟨z, hz, hlz⟩ := (cover_iff kinS _ _).1 (hcl x hx y hy h1)
    exact (cover_iff kinS _ _).2 ⟨z, hz, leS_trans hlz (le_then hle h1 he)⟩
/-- The lowest of what is so, in order. -/
structure Front (P : Sm → Prop) (l : List Sm) : Prop where
  up : Rises kinS l
  all : ∀ x ∈ l, P x
  apart : ∀ x ∈ l, ∀ y ∈ l, leS x y = true → x = y
  cov : ∀ s, P s → coverB kinS l s = true
theorem front_sub {P : Sm → Prop} (hP : ∀ s, P s → mayS s = true) {l m : List Sm} (h : Front P l) (k : Front P m) {x : Sm} (hx : x ∈ l) : x ∈ m := by
  obtain ⟨y, hy, hle⟩ := (cover_iff kinS _ _).1 (k.cov x (h.all x hx))
  obtain ⟨z, hz, hlz⟩ := (cover_iff kinS _ _).1 (h.cov y (k.all y hy))
  have e : z = x := h.apart z hz x hx (leS_trans hlz hle)
  subst e
  have : y = z := leS_anti hle hlz
  subst this
  exact hy
/-- There is one such row alone. -/
theorem front_unique {P : Sm → Prop} (hP : ∀ s, P s → mayS s = true) {l m : List Sm} (h : Front P l) (k : Front P m) : l = m :=
  rises_ext kinS h.up k.up fun x => ⟨front_sub hP h k, front_sub hP k h⟩
/-- It is its own chain. -/
theorem Front.chain {P : Sm → Prop} (hP : ∀ s, P s → mayS s = true) {l : List Sm} (h : Front P l) : chainO kinS l = l :=
  (chainO_eq kinS ⟨h.up, fun x => ⟨fun hx => ⟨hx, hP x (h.all x hx), fun y hy _ hl => h.apart y hy x hx hl⟩, fun hx => hx.1⟩⟩).symm
/-- A chain of what is so, which covers all that is so, is the row. -/
theorem front_of {P : Sm → Prop} {l c : List Sm} (hc : IsChain kinS l c) (hl : ∀ x ∈ l, mayS x = true → P x) (hcov : ∀ s, P s → coverB kinS c s = true) : Front P c :=
  ⟨hc.1, fun x hx => hl x (chain_mem kinS hc hx).1 (chain_mem kinS hc hx).2, fun x hx y hy h => chain_apart kinS hc hx hy h, hcov⟩
end Go.Proofs.YtehianjfpmbfpaaGreat
end

section
/-
  Each way has one below it all of whose parts add little: a Feedback that is met again while its loop was not left leads back to where the way stood when it left it the first time. So what two of the lowest do, one behind the other, never goes over. No program is named here.
-/
namespace Go.Proofs.YtehianjfpmbfpaaGreat
set_option linter.unusedVariables false
set_option linter.unusedSimpArgs false

def adA (s : Sm) (i : Nat) : Int := if i = 0 then s.x else if i = 1 then s.y else s.z
def little (c : Int) (s : Sm) : Prop := s.x ≤ c ∧ s.y ≤ c ∧ s.z ≤ c
/-- A step adds nothing, or is a Feedback's. -/
structure StepOk (K : Nat) (pa : Nat → Lc) (x : Stp) : Prop where
  ep : x.r.ep = 0
  kind : (x.r.x = 0 ∧ x.r.y = 0 ∧ x.r.z = 0) ∨ ∃ v i : Nat, v < K ∧ x.a = pa v ∧ i < 3 ∧ x.r.f = (i : Int) + 1 ∧ x.r.t = (i : Int) + 1 ∧ x.r.k = (i : Int) + 1 ∧ ∀ j, j < 3 → adA x.r j = if j = i then 1 else 0
/-- Ways each of whose parts adds little. -/
inductive BWay (S : List Stp) (a : Lc) (s0 : Sm) (c : Int) : Lc → Sm → Prop
  | none : little c s0 → BWay S a s0 c a s0
  | more (x : Stp) (s : Sm) : BWay S a s0 c x.a s → x ∈ S → thenE s x.r = 0 → little c (thenS s x.r) → BWay S a s0 c x.b (thenS s x.r)
theorem BWay.way {S : List Stp} {a b : Lc} {s0 s : Sm} {c : Int} (h : BWay S a s0 c b s) : Way S a s0 b s := by
  induction h with
  | none => exact .none
  | more x s _ hx he _ ih => exact .more x s ih hx he
theorem BWay.little {S : List Stp} {a b : Lc} {s0 s : Sm} {c : Int} (h : BWay S a s0 c b s) : little c s := by
  cases h with
  | none h => exact h
  | more x s _ _ _ h => exact h
/-- What stood when a Feedback was left, against now. -/
structure Rel (i : Nat) (p s : Sm) : Prop where
  f : p.f = s.f
  t : p.t = (i : Int) + 1
  ep : p.ep ≤ s.ep
  k : p.k ≤ s.k
  ad : ∀ j, j ≤ i → adA p j ≤ adA s j
inductive SW (S : List Stp) (a : Lc) (s0 : Sm) (K : Nat) (pa : Nat → Lc) : Lc → Sm → (Nat → List Nat) → Prop
  | mk (b : Lc) (s : Sm) (V : Nat → List Nat) (M : Nat → Nat → Sm) (U : Nat → Nat → Nat → List Nat) : BWay S a s0 K b s → (∀ i, (V i).Nodup ∧ ∀ v ∈ V i, v < K) → (∀ i : Nat, s.t ≤ (i : Int) → V i = []) → (∀ i, i < 3 → adA s i ≤ ((V i).length : Int)) →
      (∀ i v, v ∈ V i → SW S a s0 K pa (pa v) (M i v) (U i v)) → (∀ i v, v ∈ V i → v ∉ U i v i) → (∀ i v, v ∈ V i → Rel i (M i v) s) → SW S a s0 K pa b s V
theorem SW.b {S : List Stp} {a b : Lc} {s0 s : Sm} {K : Nat} {pa : Nat → Lc} {V : Nat → List Nat} (h : SW S a s0 K pa b s V) : BWay S a s0 K b s := by cases h; assumption
theorem nodup_le : ∀ (n : Nat) (l : List Nat), l.Nodup → (∀ v ∈ l, v < n) → l.length ≤ n := by
  intro n
  induction n with
  | zero =>
    intro l _ h
    cases l with
    | nil => simp
    | cons x l => exact absurd (h x (by simp)) (by omega)
  | succ n ih =>
    intro l hn h
    have h1 := ih (l.filter (· ≠ n)) (hn.filter _) (fun v hv => by
      simp only [List.mem_filter, decide_eq_true_eq] at hv
      have := h v hv.1
      have := hv.2
      omega)
    have h2 : l.length ≤ (l.filter (· ≠ n)).length + 1 := by
      have e := List.length_eq_countP_add_countP (fun x => decide (x ≠ n)) (l := l)
      have e2 : l.countP (fun a => decide ¬(decide (a ≠ n)) = true) = l.count n := by
        unfold List.count
        exact List.countP_congr fun a _ => by by_cases ha : a = n <;> simp [ha]
      have e3 := List.nodup_iff_count.1 hn n
      rw [← List.countP_eq_length_filter]
      omega
    omega
theorem leS_ad {s r : Sm} (m1 : mayS s = true) (m2 : mayS r = true) (hf : s.f = r.f) (ht : s.t = r.t) (he : s.ep ≤ r.ep) (hk : s.k ≤ r.k) (ha : ∀ j : Nat, (j : Int) < s.t → adA s j ≤ adA r j) : leS s r = true := by
  rw [leS_iff]
  have h0 := ha 0
  have h1 := ha 1
  have h2 := ha 2
  simp [adA] at h0 h1 h2
  refine ⟨m1, m2, hf, ht, he, ?_, ?_, ?_⟩ <;> intro h
  · exact ⟨by omega, h0 (by omega)⟩
  · exact ⟨by omega, h1 (by omega)⟩
  · exact ⟨by omega, h2 (by omega)⟩
theorem adA_raw (s r : Sm) (i : Nat) (h : i < 3) : adA (rawS s r) i = compI i r.t r.k (adA r i) (adA s i) := by
  have : i = 0 ∨ i = 1 ∨ i = 2 := by omega
  rcases this with rfl | rfl | rfl <;> simp [adA, rawS]
theorem adA_may {s : Sm} (h : mayS s = true) (i : Nat) : 0 ≤ adA s i := by
  have := (mayS_iff s).1 h
  unfold adA
  split
  · omega
  split <;> omega
theorem compI_lt {i t k a o : Int} (h1 : i < t) (h2 : i < k) : compI i t k a o = o + a := by unfold compI; rw [if_pos h1, if_pos h2]
theorem adA_out {s : Sm} (h : mayS s = true) (i : Nat) (hi : i < 3) (ht : s.t ≤ (i : Int)) : adA s i = 0 := by
  have hm := (mayS_iff s).1 h
  have : i = 0 ∨ i = 1 ∨ i = 2 := by omega
  rcases this with rfl | rfl | rfl <;> simp [adA] <;> omega
theorem compI_le {i t k a o m : Int} (h0 : i < t → ¬ i < k → a ≤ m) (h1 : i < t → i < k → o + a ≤ m) (h2 : ¬ i < t → 0 ≤ m) (ho : 0 ≤ o) : compI i t k a o ≤ m := by
  unfold compI
  by_cases e1 : i < t
  · rw [if_pos e1]
    by_cases e2 : i < k
    · rw [if_pos e2]; exact h1 e1 e2
    · rw [if_neg e2]; exact h0 e1 e2
  · rw [if_neg e1]; exact h2 e1
theorem little_of {s : Sm} {K : Nat} {V : Nat → List Nat} (h : ∀ j : Nat, j < 3 → adA s j ≤ ((V j).length : Int)) (hn : ∀ j, (V j).Nodup ∧ ∀ u ∈ V j, u < K) : little K s := by
  have q : ∀ j : Nat, j < 3 → adA s j ≤ (K : Int) := fun j hj => Int.le_trans (h j hj) (Int.ofNat_le.2 (nodup_le K _ (hn j).1 (hn j).2))
  have q0 := q 0 (by omega)
  have q1 := q 1 (by omega)
  have q2 := q 2 (by omega)
  simp [adA] at q0 q1 q2
  exact ⟨q0, q1, q2⟩
section
variable {S : List Stp} {a : Lc} {s0 : Sm} {K : Nat} {pa : Nat → Lc}
/-- On by a step that adds nothing. -/
theorem sw_plain (h0 : mayS s0 = true) {x : Stp} (hx : x ∈ S) (hep : x.r.ep = 0) (hz0 : ∀ j : Nat, j < 3 → adA x.r j = 0) {s' : Sm} {V : Nat → List Nat} (h : SW S a s0 K pa x.a s' V) (he' : thenE s' x.r = 0) : ∃ W, SW S a s0 K pa x.b (thenS s' x.r) W := by
  obtain ⟨⟨m1, mr, htf⟩, m2, e2⟩ := thenE_ok he'
  have hmr := (mayS_iff _).1 mr
  obtain ⟨_, _, _, M, U, hb, hn, hV, hc, hM, hU, hR⟩ := h
  have hcc : ∀ j : Nat, j < 3 → adA (rawS s' x.r) j ≤ ((if (j : Int) < x.r.k then V j else []).length : Int) := fun j hj => by
    rw [adA_raw _ _ j hj, hz0 j hj]
    have h1 := hc j hj
    have h2 := adA_may m1 j
    exact compI_le (fun _ h => by simp [h]) (fun _ h => by simp [h]; omega) (fun _ => by omega) h2
  have hnn : ∀ j : Nat, ((if (j : Int) < x.r.k then V j else [] : List Nat)).Nodup ∧ ∀ u ∈ (if (j : Int) < x.r.k then V j else []), u < K := fun j => by
    split
    · exact hn j
    · exact ⟨List.nodup_nil, fun u hu => by cases hu⟩
  have hmem : ∀ (j u : Nat), u ∈ (if (j : Int) < x.r.k then V j else []) → (j : Int) < x.r.k ∧ u ∈ V j := fun j u hu => by
    split at hu
    · rename_i h; exact ⟨h, hu⟩
    · cases hu
  refine ⟨_, .mk x.b _ (fun j : Nat => if (j : Int) < x.r.k then V j else []) M U (.more x s' hb hx he' (e2 ▸ little_of (V := fun j : Nat => if (j : Int) < x.r.k then V j else []) hcc hnn)) hnn (fun j hj => ?_) (fun j hj => by rw [e2]; exact hcc j hj) (fun j u hu => hM j u (hmem j u hu).2) (fun j u hu => hU j u (hmem j u hu).2) (fun j u hu => ?_)⟩
  · rw [e2] at hj
    have hj' : x.r.t ≤ (j : Int) := hj
    show (if (j : Int) < x.r.k then V j else []) = []
    rw [if_neg (by omega)]
  · obtain ⟨hjk, hu'⟩ := hmem j u hu
    have r := hR j u hu'
    rw [e2]
    refine ⟨r.f, r.t, ?_, ?_, fun q hq => ?_⟩
    · show _ ≤ s'.ep + x.r.ep
      have := r.ep; omega
    · show _ ≤ minI s'.k x.r.k
      have r1 := r.k
      have r2 := r.t
      have r3 := ((mayS_iff _).1 ((hM j u hu').b.way.may h0).1).2.1.2.2
      unfold minI
      split <;> omega
    · have hq3 : q < 3 := by have := hmr.1.2.2.2; have := hmr.2.1.2.2; omega
      rw [adA_raw _ _ q hq3, hz0 q hq3, compI_lt (by have := hmr.2.1.2.2; omega) (by omega)]
      have := r.ad q hq
      omega
/-- On by a Feedback's step that was not met. -/
theorem sw_feed (h0 : mayS s0 = true) {x : Stp} (hx : x ∈ S) (hep : x.r.ep = 0) {v i : Nat} (hv : v < K) (hpa : x.a = pa v) (hi3 : i < 3) (f1 : x.r.f = (i : Int) + 1) (t1 : x.r.t = (i : Int) + 1) (k1 : x.r.k = (i : Int) + 1) (had : ∀ j : Nat, j < 3 → adA x.r j = if j = i then 1 else 0)
    {s' : Sm} {V : Nat → List Nat} (h : SW S a s0 K pa x.a s' V) (hin : v ∉ V i) (he' : thenE s' x.r = 0) : ∃ W, SW S a s0 K pa x.b (thenS s' x.r) W := by
  have h' := h
  obtain ⟨⟨m1, mr, htf⟩, m2, e2⟩ := thenE_ok he'
  have ht' : s'.t = (i : Int) + 1 := htf.trans f1
  have hk' := ((mayS_iff _).1 m1).2.1.2.2
  obtain ⟨_, _, _, M, U, hb, hn, hV, hc, hM, hU, hR⟩ := h
  have hcc : ∀ j : Nat, j < 3 → adA (rawS s' x.r) j ≤ ((if j = i then v :: V j else V j).length : Int) := fun j hj => by
    rw [adA_raw _ _ j hj, had j hj]
    have h1 := hc j hj
    have h2 := adA_may m1 j
    by_cases hji : j = i
    · subst hji
      rw [if_pos rfl, if_pos rfl]
      exact compI_le (fun _ h => by simp; omega) (fun _ h => by simp; omega) (fun _ => by omega) h2
    · rw [if_neg hji, if_neg hji]
      exact compI_le (fun _ h => by omega) (fun _ h => by omega) (fun _ => by omega) h2
  have hnn : ∀ j : Nat, (if j = i then v :: V j else V j).Nodup ∧ ∀ u ∈ (if j = i then v :: V j else V j), u < K := fun j => by
    by_cases hji : j = i
    · subst hji
      rw [if_pos rfl]
      refine ⟨List.nodup_cons.2 ⟨hin, (hn j).1⟩, fun u hu => ?_⟩
      rcases List.mem_cons.1 hu with rfl | hu
      · exact hv
      · exact (hn j).2 u hu
    · rw [if_neg hji]; exact hn j
  have hrel : ∀ (j u : Nat), u ∈ V j → Rel j (M j u) (rawS s' x.r) := fun j u hu => by
    have r := hR j u hu
    have hji : j ≤ i := by
      refine Nat.le_of_not_lt fun h => ?_
      rw [hV j (by omega)] at hu
      cases hu
    refine ⟨r.f, r.t, ?_, ?_, fun q hq => ?_⟩
    · show _ ≤ s'.ep + x.r.ep
      have := r.ep; omega
    · show _ ≤ minI s'.k x.r.k
      have := r.k
      unfold minI
      split <;> omega
    · rw [adA_raw _ _ q (by omega), had q (by omega), compI_lt (by omega) (by omega)]
      have := r.ad q hq
      split <;> omega
  have hself : Rel i s' (rawS s' x.r) := ⟨rfl, ht', by show _ ≤ s'.ep + x.r.ep; omega, by show _ ≤ minI s'.k x.r.k; unfold minI; split <;> omega, fun q hq => by
    rw [adA_raw _ _ q (by omega), had q (by omega), compI_lt (by omega) (by omega)]
    split <;> omega⟩
  have hcase : ∀ (j u : Nat), u ∈ (if j = i then v :: V j else V j) → (j = i ∧ u = v) ∨ u ∈ V j := fun j u hu => by
    by_cases hji : j = i
    · rw [if_pos hji] at hu
      rcases List.mem_cons.1 hu with h | h
      · exact .inl ⟨hji, h⟩
      · exact .inr h
    · rw [if_neg hji] at hu; exact .inr hu
  refine ⟨_, .mk x.b _ (fun j : Nat => if j = i then v :: V j else V j) (fun j u => if j = i ∧ u = v then s' else M j u) (fun j u => if j = i ∧ u = v then V else U j u) (.more x s' hb hx he' (e2 ▸ little_of (V := fun j : Nat => if j = i then v :: V j else V j) hcc hnn)) hnn (fun j hj => ?_) (fun j hj => by rw [e2]; exact hcc j hj) (fun j u hu => ?_) (fun j u hu => ?_) (fun j u hu => ?_)⟩
  · rw [e2] at hj
    have hj' : x.r.t ≤ (j : Int) := hj
    show (if j = i then v :: V j else V j) = []
    rw [if_neg (by omega)]
    exact hV j (by omega)
  · by_cases hc2 : j = i ∧ u = v
    · simp only [hc2, and_self, if_true]
      exact hpa ▸ h'
    · simp only [hc2, if_false]
      exact hM j u ((hcase j u hu).resolve_left hc2)
  · by_cases hc2 : j = i ∧ u = v
    · simp only [hc2, and_self, if_true]
      exact hin
    · simp only [hc2, if_false]
      exact hU j u ((hcase j u hu).resolve_left hc2)
  · rw [e2]
    by_cases hc2 : j = i ∧ u = v
    · simp only [hc2, and_self, if_true]
      exact hself
    · simp only [hc2, if_false]
      exact hrel j u ((hcase j u hu).resolve_left hc2)
/-- EACH WAY HAS ONE BELOW IT THAT IS LITTLE ALL ALONG. -/
theorem way_little {b : Lc} {s : Sm} (hS : ∀ x ∈ S, StepOk K pa x) (h0 : mayS s0 = true) (hz : s0.x = 0 ∧ s0.y = 0 ∧ s0.z = 0) (h : Way S a s0 b s) : ∃ s' V, SW S a s0 K pa b s' V ∧ leS s' s = true := by
  induction h with
  | none =>
    refine ⟨s0, _, .mk a s0 (fun _ => []) (fun _ _ => s0) (fun _ _ _ => []) (.none ⟨by omega, by omega, by omega⟩) (fun i => ⟨List.nodup_nil, fun v hv => by cases hv⟩) (fun i _ => rfl) (fun i hi => ?_) (fun i v hv => by cases hv) (fun i v hv => by cases hv) (fun i v hv => by cases hv), leS_refl h0⟩
    have : i = 0 ∨ i = 1 ∨ i = 2 := by omega
    rcases this with rfl | rfl | rfl <;> simp [adA] <;> omega
  | more x s hw hx he ih =>
    obtain ⟨s', V, hsw, hle⟩ := ih
    have he' := then_le_ok hle he
    have hle' := le_then hle he' he
    have hok := hS x hx
    rcases hok.kind with ⟨z1, z2, z3⟩ | ⟨v, i, hv, hpa, hi3, f1, t1, k1, had⟩
    · obtain ⟨W, hW⟩ := sw_plain h0 hx hok.ep (fun j hj => by
        have : j = 0 ∨ j = 1 ∨ j = 2 := by omega
        rcases this with rfl | rfl | rfl <;> simp [adA, *]) hsw he'
      exact ⟨_, W, hW, hle'⟩
    · by_cases hin : v ∈ V i
      · obtain ⟨_, _, _, M, U, hb, hn, hV, hc, hM, hU, hR⟩ := hsw
        have r := hR i v hin
        have hm := hM i v hin
        have mm := (hm.b.way.may h0).1
        have ms := (hb.way.may h0).1
        have hlr : leS (M i v) s' = true := leS_ad mm ms r.f (by have := (thenE_ok he').1.2.2; have := r.t; omega) r.ep r.k fun j hj => r.ad j (by have := r.t; omega)
        have he2 := then_le_ok hlr he'
        obtain ⟨W, hW⟩ := sw_feed h0 hx hok.ep hv hpa hi3 f1 t1 k1 had (hpa ▸ hm) (hU i v hin) he2
        exact ⟨_, W, hW, leS_trans (le_then hlr he2 he') hle'⟩
      · obtain ⟨W, hW⟩ := sw_feed h0 hx hok.ep hv hpa hi3 f1 t1 k1 had hsw hin he'
        exact ⟨_, W, hW, hle'⟩
end
theorem Way.ep {S : List Stp} {a b : Lc} {s0 s : Sm} (hS : ∀ x ∈ S, x.r.ep = 0) (h : Way S a s0 b s) : s.ep = s0.ep := by
  induction h with
  | none => rfl
  | more x s _ hx he ih =>
    rw [(thenE_ok he).2.2]
    show s.ep + x.r.ep = _
    rw [ih, hS x hx]; omega
/-- Two that add little may stand one behind the other. -/
theorem then_little {s r : Sm} {c : Int} (hc : c ≤ 500) (m1 : mayS s = true) (m2 : mayS r = true) (hd : s.t = r.f) (l1 : little c s) (l2 : little c r) (e1 : s.ep = 0) (e2 : r.ep = 0) : thenE s r = 0 := by
  obtain ⟨⟨a1, a2, a3, a4⟩, ⟨a5, a6, a7⟩, _, ⟨ax, _⟩, ⟨ay, _⟩, ⟨az, _⟩⟩ := (mayS_iff s).1 m1
  obtain ⟨⟨c1, c2, c3, c4⟩, ⟨c5, c6, c7⟩, _, ⟨cx, _⟩, ⟨cy, _⟩, ⟨cz, _⟩⟩ := (mayS_iff r).1 m2
  obtain ⟨p1, p2, p3⟩ := l1
  obtain ⟨q1, q2, q3⟩ := l2
  refine (thenE_mk m1 m2 hd ((mayS_iff _).2 ⟨⟨a1, a2, c3, c4⟩, ⟨?_, ?_, ?_⟩, ⟨?_, ?_⟩, ?_, ?_, ?_⟩)).1
  · show 0 ≤ minI s.k r.k
    unfold minI; split <;> omega
  · show minI s.k r.k ≤ s.f
    unfold minI; split <;> omega
  · show minI s.k r.k ≤ r.t
    unfold minI; split <;> omega
  · show 0 ≤ s.ep + r.ep
    omega
  · show s.ep + r.ep ≤ 1048576
    omega
  · exact comp_in cx ax fun _ => compI_le (fun _ _ => by omega) (fun _ _ => by omega) (fun _ => by omega) ax
  · exact comp_in cy ay fun _ => compI_le (fun _ _ => by omega) (fun _ _ => by omega) (fun _ => by omega) ay
  · exact comp_in cz az fun _ => compI_le (fun _ _ => by omega) (fun _ _ => by omega) (fun _ => by omega) az
/-- Two ways that are little all along make one. -/
theorem way_join {S : List Stp} {a b d : Lc} {s0 s1 t0 s2 : Sm} {c : Int} (hc : c ≤ 500) (hS : ∀ x ∈ S, x.r.ep = 0) (h0 : mayS s0 = true) (e0 : s0.ep = 0) (ht : t0.ep = 0) (h1 : BWay S a s0 c b s1) (hn : thenE s1 t0 = 0 ∧ thenS s1 t0 = s1) (h2 : BWay S b t0 c d s2) : thenE s1 s2 = 0 ∧ Way S a s0 d (thenS s1 s2) := by
  have m1 := (h1.way.may h0).1
  have p1 := (h1.way.ep hS).trans e0
  have mt := (thenE_ok hn.1).1.2.1
  induction h2 with
  | none _ => exact ⟨hn.1, by rw [hn.2]; exact h1.way⟩
  | more x p hp hx he hl ih =>
    obtain ⟨i1, i2⟩ := ih
    obtain ⟨⟨_, mp, ht1⟩, mr1, er1⟩ := thenE_ok i1
    obtain ⟨⟨_, mx, hpx⟩, mr2, er2⟩ := thenE_ok he
    have pe : (thenS p x.r).ep = 0 := ((Way.more x p hp.way hx he).ep hS).trans ht
    rw [er2] at hl pe ⊢
    have k1 : thenE s1 (rawS p x.r) = 0 := then_little hc m1 mr2 ht1 h1.little hl p1 pe
    have k2 := thenE_ok k1
    have k3 : thenE (thenS s1 p) x.r = 0 := by
      rw [er1]
      refine (thenE_mk mr1 mx hpx ?_).1
      rw [raw_assoc mx hpx]
      exact k2.2.1
    refine ⟨k1, ?_⟩
    have w := Way.more x _ i2 hx k3
    have e : thenS (thenS s1 p) x.r = thenS s1 (rawS p x.r) := by
      rw [(thenE_ok k3).2.2, er1, raw_assoc mx hpx, k2.2.2]
    rw [e] at w
    exact w
end Go.Proofs.YtehianjfpmbfpaaGreat
end
