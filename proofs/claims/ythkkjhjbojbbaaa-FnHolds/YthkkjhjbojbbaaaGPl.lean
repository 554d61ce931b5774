/-
  Records as plain data: their order, what is sorted, how often each is in a row, what is left of a row; numbers in order, each once. No program is named here.
-/
import Derived.Test.YthkkjhjbojbbaaaBase
import Derived.Lib.SlicesCompact
namespace Go.Proofs.Ythkkjhjbojbbaaa
set_option linter.unusedVariables false

/-- A record: a key and a value. -/
structure Rc where
  k : Int
  v : Int
theorem Rc.ext' {a b : Rc} (h1 : a.k = b.k) (h2 : a.v = b.v) : a = b := by cases a; cases b; simp_all
instance : DecidableEq Rc := fun a b =>
  if h : a.k = b.k ∧ a.v = b.v then .isTrue (Rc.ext' h.1 h.2) else .isFalse fun e => h (by subst e; exact ⟨rfl, rfl⟩)
instance : Inhabited Rc := ⟨⟨0, 0⟩⟩

def inB (n : Int) : Bool := decide (-1099511627776 ≤ n) && decide (n ≤ 1099511627776)
def mayR (r : Rc) : Bool := inB r.k && inB r.v
def ordR (a b : Rc) : Int := if cmpI a.k b.k ≠ 0 then cmpI a.k b.k else cmpI a.v b.v
/-- a stands ahead of b. -/
def aheadR (a b : Rc) : Prop := a.k < b.k ∨ a.k = b.k ∧ a.v < b.v
theorem ordR_lt (a b : Rc) : ordR a b < 0 ↔ aheadR a b := by
  unfold ordR aheadR cmpI
  constructor
  · intro h
    repeat' split at h
    all_goals omega
  · intro h
    repeat' split
    all_goals omega
theorem ordR_gt (a b : Rc) : 0 < ordR a b ↔ aheadR b a := by
  unfold ordR aheadR cmpI
  constructor
  · intro h
    repeat' split at h
    all_goals omega
  · intro h
    repeat' split
    all_goals omega
theorem ordR_zero (a b : Rc) : ordR a b = 0 ↔ a = b := by
  constructor
  · intro h
    have h1 := ordR_lt a b
    have h2 := ordR_gt a b
    have n1 : ¬ aheadR a b := fun x => by have := h1.2 x; omega
    have n2 : ¬ aheadR b a := fun x => by have := h2.2 x; omega
    unfold aheadR at n1 n2
    exact Rc.ext' (by omega) (by omega)
  · intro h
    subst h
    have h1 := ordR_lt a a
    have h2 := ordR_gt a a
    unfold aheadR at h1 h2
    omega
theorem ahead_irr (a : Rc) : ¬ aheadR a a := by unfold aheadR; omega
theorem ahead_trans {a b c : Rc} (h : aheadR a b) (k : aheadR b c) : aheadR a c := by unfold aheadR at *; omega
theorem ahead_tot (a b : Rc) : aheadR a b ∨ a = b ∨ aheadR b a := by
  by_cases h : a = b
  · exact .inr (.inl h)
  · have : ¬ (a.k = b.k ∧ a.v = b.v) := fun ⟨h1, h2⟩ => h (Rc.ext' h1 h2)
    unfold aheadR; omega
/-- None stands ahead of one that is before it. -/
def SortedR (d : List Rc) : Prop := d.Pairwise fun a b => ordR a b ≤ 0
theorem leR_iff (a b : Rc) : ordR a b ≤ 0 ↔ ¬ aheadR b a := by rw [← ordR_gt]; omega
theorem sortedR_unique : ∀ {d e : List Rc}, d.Perm e → SortedR d → SortedR e → d = e
  | [], e, hp, _, _ => by simpa using hp.length_eq.symm
  | a :: d, [], hp, _, _ => by simp at hp
  | a :: d, b :: e, hp, hd, he => by
    unfold SortedR at hd he
    rw [List.pairwise_cons] at hd he
    have hab : a = b := by
      have h1 : b ∈ a :: d := hp.symm.subset (by simp)
      have h2 : a ∈ b :: e := hp.subset (by simp)
      rcases List.mem_cons.1 h1 with h1 | h1
      · exact h1.symm
      · rcases List.mem_cons.1 h2 with h2 | h2
        · exact h2
        · have h3 := (leR_iff _ _).1 (hd.1 b h1)
          have h4 := (leR_iff _ _).1 (he.1 a h2)
          rcases ahead_tot a b with x | x | x
          · exact absurd x h4
          · exact x
          · exact absurd x h3
    subst hab
    rw [sortedR_unique (List.perm_cons a |>.1 hp) hd.2 he.2]
def leRB (a b : Rc) : Bool := decide (ordR a b ≤ 0)
/-- The row in order. -/
def srt (d : List Rc) : List Rc := d.mergeSort leRB
theorem srt_perm (d : List Rc) : (srt d).Perm d := List.mergeSort_perm _ _
theorem srt_sorted (d : List Rc) : SortedR (srt d) := by
  have := List.pairwise_mergeSort (le := leRB) (fun a b c h k => by
    simp only [leRB, decide_eq_true_eq, leR_iff] at *
    intro x
    rcases ahead_tot a b with y | y | y
    · exact k (ahead_trans x y)
    · subst y; exact k x
    · exact h y) (fun a b => by
    simp only [leRB, Bool.or_eq_true, decide_eq_true_eq, leR_iff]
    by_cases h : aheadR b a
    · exact .inr fun x => ahead_irr _ (ahead_trans h x)
    · exact .inl h) d
  unfold SortedR srt
  exact this.imp fun h => by simpa [leRB] using h
theorem srt_of {d e : List Rc} (hp : e.Perm d) (hs : SortedR e) : e = srt d := sortedR_unique (hp.trans (srt_perm d).symm) hs (srt_sorted d)
theorem srt_len (d : List Rc) : (srt d).length = d.length := (srt_perm d).length_eq
theorem srt_count (d : List Rc) (x : Rc) : (srt d).count x = d.count x := (srt_perm d).count_eq x
theorem srt_eq_iff (d e : List Rc) : srt d = srt e ↔ d.Perm e := by
  constructor
  · intro h
    have := srt_perm d
    rw [h] at this
    exact this.symm.trans (srt_perm e)
  · intro h
    exact srt_of ((srt_perm d).trans h) (srt_sorted d)
theorem srt_eq_count (d e : List Rc) : srt d = srt e ↔ ∀ x, d.count x = e.count x := by rw [srt_eq_iff, List.perm_iff_count]
theorem srt_srt (d : List Rc) : srt (srt d) = srt d := (srt_of (List.Perm.refl _) (srt_sorted d)).symm
theorem srt_nil : srt [] = [] := by simp [srt]

/-- What is left of a when b is taken away, in order. -/
def mns (a b : List Rc) : List Rc := b.foldl (fun l x => l.erase x) (srt a)
theorem mns_count' : ∀ (b l : List Rc) (x : Rc), (b.foldl (fun l x => l.erase x) l).count x = l.count x - b.count x
  | [], l, x => by simp
  | y :: b, l, x => by
    rw [List.foldl_cons, mns_count' b (l.erase y) x, List.count_erase, List.count_cons]
    omega
theorem mns_sub' : ∀ (b l : List Rc), (b.foldl (fun l x => l.erase x) l).Sublist l
  | [], l => List.Sublist.refl _
  | y :: b, l => (mns_sub' b _).trans List.erase_sublist
theorem mns_count (a b : List Rc) (x : Rc) : (mns a b).count x = a.count x - b.count x := by unfold mns; rw [mns_count', srt_count]
theorem mns_sorted (a b : List Rc) : SortedR (mns a b) := List.Pairwise.sublist (mns_sub' b _) (srt_sorted a)
theorem mns_of {a b e : List Rc} (hs : SortedR e) (hc : ∀ x, e.count x = a.count x - b.count x) : e = mns a b :=
  sortedR_unique (List.perm_iff_count.2 fun x => by rw [hc, mns_count]) hs (mns_sorted a b)
theorem mns_len (a b : List Rc) : (mns a b).length ≤ a.length := by
  have := (mns_sub' b (srt a)).length_le
  rw [srt_len] at this; exact this
theorem srt_mns (a b : List Rc) : srt (mns a b) = mns a b := (srt_of (List.Perm.refl _) (mns_sorted a b)).symm
/-- The code's way: each record is passed by as often as it is to be taken away. -/
def passF (f : Rc → Nat) (r x : Rc) : Nat := if x = r then f x - 1 else f x
def passL : List Rc → (Rc → Nat) → List Rc
  | [], _ => []
  | r :: l, f => if 0 < f r then passL l (passF f r) else r :: passL l f
/-- What is still to be taken away behind these. -/
def passW : List Rc → (Rc → Nat) → Rc → Nat
  | [], f => f
  | r :: l, f => if 0 < f r then passW l (passF f r) else passW l f
theorem pass_snoc : ∀ (l : List Rc) (f : Rc → Nat) (r : Rc), passL (l ++ [r]) f = passL l f ++ (if 0 < passW l f r then [] else [r]) ∧ passW (l ++ [r]) f = if 0 < passW l f r then passF (passW l f) r else passW l f
  | [], f, r => by
    constructor
    · by_cases h : 0 < f r <;> simp [passL, passW, h]
    · by_cases h : 0 < f r <;> simp [passW, h]
  | x :: l, f, r => by
    by_cases h : 0 < f x
    · have := pass_snoc l (passF f x) r
      simp only [List.cons_append, passL, passW, h, if_true]
      exact this
    · have := pass_snoc l f r
      simp only [List.cons_append, passL, passW, h, if_false]
      refine ⟨by rw [this.1], this.2⟩
theorem passL_count : ∀ (l : List Rc) (f : Rc → Nat) (x : Rc), (passL l f).count x = l.count x - f x
  | [], f, x => by simp [passL]
  | r :: l, f, x => by
    by_cases h : 0 < f r
    · simp only [passL, h, if_true]
      rw [passL_count l _ x, List.count_cons]
      unfold passF
      by_cases e : x = r
      · subst e; simp; try omega
      · simp [e, Ne.symm e]
    · simp only [passL, h, if_false]
      rw [List.count_cons, List.count_cons, passL_count l _ x]
      by_cases e : x = r
      · subst e; simp; omega
      · simp [Ne.symm e]
theorem passL_sub : ∀ (l : List Rc) (f : Rc → Nat), (passL l f).Sublist l
  | [], f => List.Sublist.refl _
  | r :: l, f => by
    unfold passL
    split
    · exact (passL_sub l _).cons _
    · exact (passL_sub l _).cons_cons _
theorem passL_mns (a b : List Rc) : passL (srt a) (fun x => b.count x) = mns a b :=
  mns_of (List.Pairwise.sublist (passL_sub _ _) (srt_sorted a)) fun x => by rw [passL_count, srt_count]
theorem passW_le : ∀ (l : List Rc) (f : Rc → Nat) (x : Rc), passW l f x ≤ f x
  | [], f, x => Nat.le_refl _
  | r :: l, f, x => by
    unfold passW
    split
    · refine Nat.le_trans (passW_le l _ x) ?_
      unfold passF
      split <;> omega
    · exact passW_le l f x

/-- A row with one more, at its place. -/
def notBeh (t x : Rc) : Bool := decide (ordR x t ≤ 0)
def insR (d : List Rc) (t : Rc) : List Rc := d.takeWhile (notBeh t) ++ t :: d.dropWhile (notBeh t)
def posR (d : List Rc) (t : Rc) : Nat := (d.takeWhile (notBeh t)).length
theorem posR_le (d : List Rc) (t : Rc) : posR d t ≤ d.length := (List.takeWhile_sublist _).length_le
theorem posR_lt (d : List Rc) (t : Rc) (k : Nat) (h : k < posR d t) : ordR (d[k]'(Nat.lt_of_lt_of_le h (posR_le d t))) t ≤ 0 := by
  have h1 : d.takeWhile (notBeh t) <+: d := List.takeWhile_prefix _
  have h2 : (d.takeWhile (notBeh t))[k]'h = d[k]'(Nat.lt_of_lt_of_le h (posR_le d t)) := h1.getElem h
  have h3 := List.all_eq_true.1 (List.all_takeWhile (p := notBeh t) (l := d)) _ (List.getElem_mem h)
  rw [h2] at h3
  simpa [notBeh] using h3
theorem posR_at : ∀ (d : List Rc) (t : Rc) (k : Nat) (hk : k = posR d t) (h : k < d.length), 0 < ordR d[k] t
  | [], _, _, _, h => by simp at h
  | x :: l, t, k, hk, h => by
    unfold posR at hk
    rw [List.takeWhile_cons] at hk
    by_cases hp : notBeh t x = true
    · rw [if_pos hp] at hk
      simp only [List.length_cons] at hk
      subst hk
      exact posR_at l t _ rfl (by simp at h; exact h)
    · rw [if_neg hp] at hk
      simp only [List.length_nil] at hk
      subst hk
      simp [notBeh] at hp
      simpa using hp
theorem tw_take {α : Type} (p : α → Bool) : ∀ d : List α, d.takeWhile p = d.take (d.takeWhile p).length
  | [] => rfl
  | x :: l => by
    by_cases h : p x = true
    · simp only [List.takeWhile_cons, h, if_true, List.length_cons, List.take_succ_cons]
      rw [← tw_take p l]
    · simp [h]
theorem dw_drop {α : Type} (p : α → Bool) : ∀ d : List α, d.dropWhile p = d.drop (d.takeWhile p).length
  | [] => rfl
  | x :: l => by
    by_cases h : p x = true
    · simp only [List.takeWhile_cons, List.dropWhile_cons, h, if_true, List.length_cons, List.drop_succ_cons]
      exact dw_drop p l
    · simp [h]
theorem insR_eq (d : List Rc) (t : Rc) : insR d t = d.take (posR d t) ++ [t] ++ d.drop (posR d t) := by
  unfold insR posR
  rw [← tw_take, ← dw_drop]
  simp
theorem insR_perm (d : List Rc) (t : Rc) : (insR d t).Perm (d ++ [t]) := by
  unfold insR
  have h := List.takeWhile_append_dropWhile (p := notBeh t) (l := d)
  refine (List.perm_middle).trans ?_
  rw [h]
  exact (List.perm_append_comm (l₁ := d) (l₂ := [t])).symm
theorem insR_sorted {d : List Rc} (t : Rc) (hd : SortedR d) : SortedR (insR d t) := by
  unfold SortedR at *
  have h := List.takeWhile_append_dropWhile (p := notBeh t) (l := d)
  rw [← h, List.pairwise_append] at hd
  obtain ⟨h1, h2, h3⟩ := hd
  have hb : ∀ x ∈ d.takeWhile (notBeh t), ordR x t ≤ 0 := fun x hx => by
    have := List.all_eq_true.1 (List.all_takeWhile (p := notBeh t) (l := d)) x hx
    simpa [notBeh] using this
  have hf : ∀ y ∈ d.dropWhile (notBeh t), ordR t y ≤ 0 := by
    intro y hy
    cases hdw : d.dropWhile (notBeh t) with
    | nil => rw [hdw] at hy; simp at hy
    | cons z r =>
      have hz : notBeh t z = false := by
        have := List.head?_dropWhile_not (p := notBeh t) d
        rw [hdw] at this
        simpa using this
      have hz' : aheadR t z := by
        simp [notBeh] at hz
        exact (ordR_gt z t).1 hz
      rw [leR_iff]
      intro hyt
      rw [hdw] at hy h2
      rcases List.mem_cons.1 hy with e | e
      · subst e; exact ahead_irr _ (ahead_trans hz' hyt)
      · have := (leR_iff _ _).1 ((List.pairwise_cons.1 h2).1 y e)
        exact this (ahead_trans hyt hz')
  unfold insR
  rw [List.pairwise_append]
  refine ⟨h1, List.pairwise_cons.2 ⟨hf, h2⟩, fun x hx y hy => ?_⟩
  rcases List.mem_cons.1 hy with e | e
  · subst e; exact hb x hx
  · exact h3 x hx y e
theorem insR_srt (d : List Rc) (t : Rc) : insR (srt d) t = srt (d ++ [t]) :=
  srt_of ((insR_perm _ t).trans ((srt_perm d).append_right [t])) (insR_sorted t (srt_sorted d))
theorem insR_len (d : List Rc) (t : Rc) : (insR d t).length = d.length + 1 := by rw [(insR_perm d t).length_eq]; simp

/-- The keys, rising, each once. -/
def leIB (x y : Int) : Bool := decide (x ≤ y)
def keysR (l : List Rc) : List Int := Lib.compact ((l.map (·.k)).mergeSort fun x y => decide (x ≤ y))
theorem ints_unique : ∀ {d e : List Int}, d.Perm e → (d.Pairwise fun a b => a ≤ b) → (e.Pairwise fun a b => a ≤ b) → d = e
  | [], e, hp, _, _ => by simpa using hp.length_eq.symm
  | a :: d, [], hp, _, _ => by simp at hp
  | a :: d, b :: e, hp, hd, he => by
    rw [List.pairwise_cons] at hd he
    have hab : a = b := by
      have h1 : b ∈ a :: d := hp.symm.subset (by simp)
      have h2 : a ∈ b :: e := hp.subset (by simp)
      rcases List.mem_cons.1 h1 with h1 | h1
      · exact h1.symm
      · rcases List.mem_cons.1 h2 with h2 | h2
        · exact h2
        · have := hd.1 b h1
          have := he.1 a h2
          omega
    subst hab
    rw [ints_unique (List.perm_cons a |>.1 hp) hd.2 he.2]
theorem ints_sorted (d : List Int) : (d.mergeSort fun x y => decide (x ≤ y)).Pairwise fun a b => a ≤ b := by
  have := List.pairwise_mergeSort (le := fun x y : Int => decide (x ≤ y)) (fun a b c h k => by simp at *; omega) (fun a b => by simp; omega) d
  exact this.imp fun h => by simpa using h
theorem keysR_srt (l : List Rc) : keysR l = Lib.compact ((srt l).map (·.k)) := by
  unfold keysR
  have : (l.map (·.k)).mergeSort (fun x y => decide (x ≤ y)) = (srt l).map (·.k) := by
    refine ints_unique ((List.mergeSort_perm _ _).trans ((srt_perm l).symm.map _)) (ints_sorted _) ?_
    rw [List.pairwise_map]
    refine (srt_sorted l).imp fun {a b} h => ?_
    have := (leR_iff a b).1 h
    unfold aheadR at this
    omega
  rw [this]
theorem compact_mem (zs : List Int) (x : Int) : x ∈ Lib.compact zs ↔ x ∈ zs := by
  unfold Lib.compact Lib.compactUpTo
  rw [List.mem_map]
  constructor
  · rintro ⟨i, hi, rfl⟩
    have hi' : i < zs.length := List.mem_range.1 (List.mem_filter.1 hi).1
    simp [getElem!_pos, hi']
  · intro h
    obtain ⟨j, hj, rfl⟩ := List.mem_iff_getElem.1 h
    clear h
    induction j with
    | zero => exact ⟨0, List.mem_filter.2 ⟨List.mem_range.2 hj, by simp [Lib.keeps]⟩, by simp [hj]⟩
    | succ j ih =>
      by_cases hk : Lib.keeps zs.toArray (j + 1) = true
      · exact ⟨j + 1, List.mem_filter.2 ⟨List.mem_range.2 hj, hk⟩, by simp [hj]⟩
      · have hj' : j < zs.length := by omega
        have e : zs[j + 1] = zs[j] := by
          simp [Lib.keeps, hj, hj'] at hk
          exact hk
        rw [e]
        exact ih hj'
theorem compact_rises {zs : List Int} (h : zs.Pairwise fun a b => a ≤ b) : (Lib.compact zs).Pairwise fun a b => a < b := by
  unfold Lib.compact Lib.compactUpTo
  rw [List.pairwise_map]
  have h0 : ((List.range zs.length).filter (Lib.keeps zs.toArray)).Pairwise fun i j => i < j ∧ j < zs.length ∧ Lib.keeps zs.toArray j = true := by
    have h1 := (List.pairwise_lt_range (n := zs.length)).filter (Lib.keeps zs.toArray)
    rw [List.pairwise_iff_getElem] at h1 ⊢
    intro i j hi hj hij
    have hm := List.getElem_mem hj
    have hm' := List.mem_filter.1 hm
    exact ⟨h1 i j hi hj hij, List.mem_range.1 hm'.1, hm'.2⟩
  refine h0.imp fun {i j} ⟨hij, hj, hk⟩ => ?_
  have hi : i < zs.length := by omega
  have hj1 : j - 1 < zs.length := by omega
  have hne : zs[j] ≠ zs[j - 1] := by
    simp [Lib.keeps, hj, hj1] at hk
    rcases hk with hk | hk
    · omega
    · exact hk
  rw [List.pairwise_iff_getElem] at h
  have a1 := h (j - 1) j hj1 hj (by omega)
  have a2 : zs[i] ≤ zs[j - 1] := by
    by_cases e : i = j - 1
    · subst e; exact Int.le_refl _
    · exact h i (j - 1) hi hj1 (by omega)
  simp [hi, hj]
  omega
theorem keysR_mem (l : List Rc) (x : Int) : x ∈ keysR l ↔ ∃ r ∈ l, r.k = x := by
  unfold keysR
  rw [compact_mem, (List.mergeSort_perm _ _).mem_iff, List.mem_map]
theorem keysR_rises (l : List Rc) : (keysR l).Pairwise fun a b => a < b := compact_rises (ints_sorted _)
theorem compact_len (zs : List Int) : (Lib.compact zs).length ≤ zs.length := by
  unfold Lib.compact Lib.compactUpTo
  rw [List.length_map]
  exact Nat.le_trans (List.length_filter_le _ _) (by simp)
theorem keysR_len (l : List Rc) : (keysR l).length ≤ l.length := by
  have := compact_len ((l.map (·.k)).mergeSort fun x y => decide (x ≤ y))
  rw [List.length_mergeSort, List.length_map] at this
  exact this

end Go.Proofs.Ythkkjhjbojbbaaa
