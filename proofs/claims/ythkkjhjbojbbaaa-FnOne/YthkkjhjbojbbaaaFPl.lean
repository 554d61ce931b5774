/-
  What is done to records, as plain data: held numbers, remainders, what a function makes of a record, what a key's records come to, one record of each key. No program is named here.
-/
import Derived.Test.YthkkjhjbojbbaaaGPl
namespace Go.Proofs.Ythkkjhjbojbbaaa
set_option linter.unusedVariables false

/-- A number, held within 2^40 of 0. -/
def heldI (x : Int) : Int := if x < -1099511627776 then -1099511627776 else if 1099511627776 < x then 1099511627776 else x
theorem heldI_in (x : Int) : -1099511627776 ≤ heldI x ∧ heldI x ≤ 1099511627776 := by unfold heldI; repeat' split <;> omega
theorem heldI_id {x : Int} (h : -1099511627776 ≤ x ∧ x ≤ 1099511627776) : heldI x = x := by unfold heldI; repeat' split <;> omega
theorem heldI_idem (x : Int) : heldI (heldI x) = heldI x := heldI_id (heldI_in x)
theorem heldI_maxmin (x : Int) : maxI (-1099511627776) (minI x 1099511627776) = heldI x := by unfold maxI minI heldI; repeat' split <;> omega
theorem heldI_minmax (x : Int) : minI (maxI x (-1099511627776)) 1099511627776 = heldI x := by unfold maxI minI heldI; repeat' split <;> omega
theorem inB_iff (n : Int) : inB n = true ↔ -1099511627776 ≤ n ∧ n ≤ 1099511627776 := by simp [inB]
theorem mayR_iff (r : Rc) : mayR r = true ↔ (-1099511627776 ≤ r.k ∧ r.k ≤ 1099511627776) ∧ -1099511627776 ≤ r.v ∧ r.v ≤ 1099511627776 := by simp [mayR, inB_iff]

/-- x mod b, 0 to b - 1, as Go's remainder makes it. -/
def modI (x b : Int) : Int := if Int.tmod x b < 0 then Int.tmod x b + b else Int.tmod x b
theorem tmod_in {x b : Int} (hb : 1 ≤ b) : -b < Int.tmod x b ∧ Int.tmod x b < b ∧ (0 ≤ x → 0 ≤ Int.tmod x b ∧ Int.tmod x b ≤ x) ∧ (x ≤ 0 → x ≤ Int.tmod x b ∧ Int.tmod x b ≤ 0) := by
  rcases Int.lt_or_le x 0 with h | h
  · have e : Int.tmod x b = -(Int.tmod (-x) b) := by rw [Int.neg_tmod]; omega
    have h0 : 0 ≤ -x := by omega
    rw [Int.tmod_eq_emod_of_nonneg h0] at e
    have h1 := Int.emod_nonneg (-x) (show b ≠ 0 by omega)
    have h2 := Int.emod_lt_of_pos (-x) (show 0 < b by omega)
    have h3 : (-x) % b ≤ -x := by
      rw [Int.emod_def]
      have := Int.mul_nonneg (show 0 ≤ b by omega) (Int.ediv_nonneg h0 (show 0 ≤ b by omega))
      omega
    omega
  · rw [Int.tmod_eq_emod_of_nonneg h]
    have h1 := Int.emod_nonneg x (show b ≠ 0 by omega)
    have h2 := Int.emod_lt_of_pos x (show 0 < b by omega)
    have h3 : x % b ≤ x := by
      rw [Int.emod_def]
      have := Int.mul_nonneg (show 0 ≤ b by omega) (Int.ediv_nonneg h (show 0 ≤ b by omega))
      omega
    omega
theorem modI_in {x b : Int} (hb : 1 ≤ b) : 0 ≤ modI x b ∧ modI x b < b := by
  have := tmod_in (x := x) hb
  unfold modI
  split <;> omega
theorem modI_tmod {x b : Int} (hb : 1 ≤ b) : Int.tmod (x - modI x b) b = 0 := by
  have h : x - modI x b = b * (Int.tdiv x b - if Int.tmod x b < 0 then 1 else 0) := by
    have := Int.mul_tdiv_add_tmod x b
    unfold modI
    split
    · rw [Int.mul_sub]; omega
    · rw [Int.sub_zero]; omega
  rw [h, Int.mul_tmod_right]

def mayMapB (a b : Int) : Bool := decide (1 ≤ a) && decide (a ≤ 5) && decide (-1000 ≤ b) && decide (b ≤ 1000) && (decide (a ≠ 3) || decide (1 ≤ b))
def mayFilB (a b : Int) : Bool := decide (1 ≤ a) && decide (a ≤ 4) && decide (-1000 ≤ b) && decide (b ≤ 1000) && (decide (a ≠ 3) || decide (1 ≤ b))
def mayRedB (a : Int) : Bool := decide (1 ≤ a) && decide (a ≤ 4)
/-- What a function makes of a record. -/
def mapR (a b : Int) (r : Rc) : Rc :=
  if mayMapB a b = false then r
  else if a = 1 then ⟨r.k, heldI (r.v + b)⟩ else if a = 2 then ⟨r.k, heldI (r.v * b)⟩ else if a = 3 then ⟨modI r.v b, r.v⟩ else if a = 4 then ⟨r.v, r.k⟩ else ⟨r.k, b⟩
/-- Whether a record is let through. -/
def filR (a b : Int) (r : Rc) : Bool :=
  mayFilB a b && (if a = 1 then decide (r.v < b) else if a = 2 then decide (b ≤ r.v) else if a = 3 then decide (modI r.k b = 0) else true)
def routeI (k m : Int) : Int := if m < 1 then 0 else modI k m
theorem mapR_may (a b : Int) (r : Rc) (h : mayR r = true) : mayR (mapR a b r) = true := by
  cases hm : mayMapB a b
  · unfold mapR; rw [if_pos hm]; exact h
  · rw [mayR_iff] at *
    have h1 : ¬ mayMapB a b = false := by rw [hm]; simp
    simp only [mayMapB, Bool.and_eq_true, decide_eq_true_eq, Bool.or_eq_true] at hm
    unfold mapR
    rw [if_neg h1]
    have a1 := heldI_in (r.v + b)
    have a2 := heldI_in (r.v * b)
    split
    · exact ⟨h.1, a1⟩
    · split
      · exact ⟨h.1, a2⟩
      · split
        · have := modI_in (x := r.v) (b := b) (by omega)
          exact ⟨by show -1099511627776 ≤ modI r.v b ∧ modI r.v b ≤ 1099511627776; omega, h.2⟩
        · split
          · exact ⟨h.2, h.1⟩
          · exact ⟨h.1, by show -1099511627776 ≤ b ∧ b ≤ 1099511627776; omega⟩
theorem routeI_in (k m : Int) : 0 ≤ routeI k m ∧ routeI k m < maxI 1 m := by
  unfold routeI maxI
  split
  · split <;> omega
  · have := modI_in (x := k) (b := m) (by omega)
    split <;> omega

/-- The sum of the values. -/
def sumV (g : List Rc) : Int := (g.map (·.v)).sum
theorem sumV_nil : sumV [] = 0 := rfl
theorem sumV_app (g h : List Rc) : sumV (g ++ h) = sumV g + sumV h := by simp [sumV, List.sum_append]
theorem sumV_one (r : Rc) : sumV [r] = r.v := by simp [sumV]
theorem sumV_perm {g h : List Rc} (p : g.Perm h) : sumV g = sumV h := by
  unfold sumV
  induction p with
  | nil => rfl
  | cons x _ ih => simp only [List.map_cons, List.sum_cons, ih]
  | swap x y l => simp only [List.map_cons, List.sum_cons]; omega
  | trans _ _ i1 i2 => rw [i1, i2]
theorem sumV_bound (M : Int) : ∀ (g : List Rc), (∀ r ∈ g, -M ≤ r.v ∧ r.v ≤ M) → -(M * g.length) ≤ sumV g ∧ sumV g ≤ M * g.length
  | [], _ => by simp [sumV]
  | x :: g, h => by
    have i := sumV_bound M g (fun r hr => h r (List.mem_cons_of_mem _ hr))
    have hx := h x (List.mem_cons_self ..)
    have e : sumV (x :: g) = x.v + sumV g := by simp [sumV]
    rw [e, List.length_cons]
    have e2 : M * ((g.length + 1 : Nat) : Int) = M * g.length + M := by rw [Int.natCast_succ, Int.mul_add, Int.mul_one]
    rw [e2]
    omega
def maxV : List Rc → Int
  | [] => 0
  | x :: l => l.foldl (fun m r => if m < r.v then r.v else m) x.v
def minV : List Rc → Int
  | [] => 0
  | x :: l => l.foldl (fun m r => if r.v < m then r.v else m) x.v
def IsMax (g : List Rc) (m : Int) : Prop := (∃ r ∈ g, r.v = m) ∧ ∀ r ∈ g, r.v ≤ m
def IsMin (g : List Rc) (m : Int) : Prop := (∃ r ∈ g, r.v = m) ∧ ∀ r ∈ g, m ≤ r.v
theorem IsMax.unique {g : List Rc} {m n : Int} (h : IsMax g m) (k : IsMax g n) : m = n := by
  obtain ⟨⟨r, hr, rfl⟩, h2⟩ := h
  obtain ⟨⟨s, hs, rfl⟩, k2⟩ := k
  have := h2 s hs
  have := k2 r hr
  omega
theorem IsMin.unique {g : List Rc} {m n : Int} (h : IsMin g m) (k : IsMin g n) : m = n := by
  obtain ⟨⟨r, hr, rfl⟩, h2⟩ := h
  obtain ⟨⟨s, hs, rfl⟩, k2⟩ := k
  have := h2 s hs
  have := k2 r hr
  omega
theorem IsMax.snoc {g : List Rc} {m : Int} (h : IsMax g m) (x : Rc) : IsMax (g ++ [x]) (if m < x.v then x.v else m) := by
  obtain ⟨⟨r, hr, e⟩, h2⟩ := h
  split
  · refine ⟨⟨x, by simp, rfl⟩, fun s hs => ?_⟩
    rcases List.mem_append.1 hs with hs | hs
    · have := h2 s hs; omega
    · simp at hs; subst hs; omega
  · refine ⟨⟨r, by simp [hr], e⟩, fun s hs => ?_⟩
    rcases List.mem_append.1 hs with hs | hs
    · exact h2 s hs
    · simp at hs; subst hs; omega
theorem IsMin.snoc {g : List Rc} {m : Int} (h : IsMin g m) (x : Rc) : IsMin (g ++ [x]) (if x.v < m then x.v else m) := by
  obtain ⟨⟨r, hr, e⟩, h2⟩ := h
  split
  · refine ⟨⟨x, by simp, rfl⟩, fun s hs => ?_⟩
    rcases List.mem_append.1 hs with hs | hs
    · have := h2 s hs; omega
    · simp at hs; subst hs; omega
  · refine ⟨⟨r, by simp [hr], e⟩, fun s hs => ?_⟩
    rcases List.mem_append.1 hs with hs | hs
    · exact h2 s hs
    · simp at hs; subst hs; omega
theorem IsMax.one (x : Rc) : IsMax [x] x.v := ⟨⟨x, by simp, rfl⟩, fun r hr => by simp at hr; subst hr; exact Int.le_refl _⟩
theorem IsMin.one (x : Rc) : IsMin [x] x.v := ⟨⟨x, by simp, rfl⟩, fun r hr => by simp at hr; subst hr; exact Int.le_refl _⟩
theorem maxV_fold : ∀ (l p : List Rc) (m : Int), IsMax p m → IsMax (p ++ l) (l.foldl (fun m r => if m < r.v then r.v else m) m)
  | [], p, m, h => by simpa using h
  | x :: l, p, m, h => by
    have := maxV_fold l (p ++ [x]) _ (h.snoc x)
    simpa using this
theorem minV_fold : ∀ (l p : List Rc) (m : Int), IsMin p m → IsMin (p ++ l) (l.foldl (fun m r => if r.v < m then r.v else m) m)
  | [], p, m, h => by simpa using h
  | x :: l, p, m, h => by
    have := minV_fold l (p ++ [x]) _ (h.snoc x)
    simpa using this
theorem maxV_is {g : List Rc} (h : g ≠ []) : IsMax g (maxV g) := by
  cases g with
  | nil => exact absurd rfl h
  | cons x l => exact maxV_fold l [x] x.v (IsMax.one x)
theorem minV_is {g : List Rc} (h : g ≠ []) : IsMin g (minV g) := by
  cases g with
  | nil => exact absurd rfl h
  | cons x l => exact minV_fold l [x] x.v (IsMin.one x)
theorem IsMax.perm {g h : List Rc} {m : Int} (p : g.Perm h) (k : IsMax g m) : IsMax h m := by
  obtain ⟨⟨r, hr, e⟩, k2⟩ := k
  exact ⟨⟨r, p.mem_iff.1 hr, e⟩, fun s hs => k2 s (p.mem_iff.2 hs)⟩
theorem IsMin.perm {g h : List Rc} {m : Int} (p : g.Perm h) (k : IsMin g m) : IsMin h m := by
  obtain ⟨⟨r, hr, e⟩, k2⟩ := k
  exact ⟨⟨r, p.mem_iff.1 hr, e⟩, fun s hs => k2 s (p.mem_iff.2 hs)⟩
theorem IsMax.app {g h : List Rc} {m n : Int} (k : IsMax g m) (j : IsMax h n) : IsMax (g ++ h) (if m < n then n else m) := by
  obtain ⟨⟨r, hr, e⟩, k2⟩ := k
  obtain ⟨⟨s, hs, f⟩, j2⟩ := j
  split
  · refine ⟨⟨s, by simp [hs], f⟩, fun t ht => ?_⟩
    rcases List.mem_append.1 ht with ht | ht
    · have := k2 t ht; omega
    · exact j2 t ht
  · refine ⟨⟨r, by simp [hr], e⟩, fun t ht => ?_⟩
    rcases List.mem_append.1 ht with ht | ht
    · exact k2 t ht
    · have := j2 t ht; omega
theorem IsMin.app {g h : List Rc} {m n : Int} (k : IsMin g m) (j : IsMin h n) : IsMin (g ++ h) (if n < m then n else m) := by
  obtain ⟨⟨r, hr, e⟩, k2⟩ := k
  obtain ⟨⟨s, hs, f⟩, j2⟩ := j
  split
  · refine ⟨⟨s, by simp [hs], f⟩, fun t ht => ?_⟩
    rcases List.mem_append.1 ht with ht | ht
    · have := k2 t ht; omega
    · exact j2 t ht
  · refine ⟨⟨r, by simp [hr], e⟩, fun t ht => ?_⟩
    rcases List.mem_append.1 ht with ht | ht
    · exact k2 t ht
    · have := j2 t ht; omega

/-- What the records of one key come to. -/
def agg (a : Int) (g : List Rc) : Int := if a = 1 then (g.length : Int) else if a = 2 then heldI (sumV g) else if a = 3 then maxV g else minV g
theorem agg_perm (a : Int) {g h : List Rc} (p : g.Perm h) : agg a g = agg a h := by
  unfold agg
  by_cases hn : g = []
  · subst hn; rw [p.nil_eq]
  · have hn' : h ≠ [] := fun e => hn (by subst e; exact p.eq_nil)
    rw [p.length_eq, sumV_perm p, ((maxV_is hn).perm p).unique (maxV_is hn'), ((minV_is hn).perm p).unique (minV_is hn')]
theorem agg_in (a : Int) {g : List Rc} (hn : g ≠ []) (hl : g.length ≤ 1000000) (h : ∀ r ∈ g, -1099511627776 ≤ r.v ∧ r.v ≤ 1099511627776) : -1099511627776 ≤ agg a g ∧ agg a g ≤ 1099511627776 := by
  unfold agg
  split
  · omega
  · split
    · exact heldI_in _
    · split
      · obtain ⟨⟨r, hr, e⟩, _⟩ := maxV_is hn
        have := h r hr
        omega
      · obtain ⟨⟨r, hr, e⟩, _⟩ := minV_is hn
        have := h r hr
        omega

def ofKey (k : Int) (r : Rc) : Bool := decide (r.k = k)
/-- One record of each key, the keys rising. -/
def redR (a : Int) (l : List Rc) : List Rc := if mayRedB a = true then (keysR l).map fun k => ⟨k, agg a (l.filter (ofKey k))⟩ else []
theorem redR_keys {a : Int} (ha : mayRedB a = true) (l : List Rc) : (redR a l).map (·.k) = keysR l := by
  unfold redR
  rw [if_pos ha, List.map_map]
  exact (List.map_congr_left (fun _ _ => rfl)).trans (List.map_id _)
theorem redR_len {a : Int} (ha : mayRedB a = true) (l : List Rc) : (redR a l).length = (keysR l).length := by rw [← redR_keys ha, List.length_map]
theorem redR_le (a : Int) (l : List Rc) : (redR a l).length ≤ l.length := by
  by_cases ha : mayRedB a = true
  · rw [redR_len ha]; exact keysR_len l
  · unfold redR; rw [if_neg ha]; simp
theorem keysR_perm {l m : List Rc} (p : l.Perm m) : keysR l = keysR m := by
  unfold keysR
  rw [ints_unique (((List.mergeSort_perm _ _).trans (p.map _)).trans (List.mergeSort_perm _ _).symm) (ints_sorted _) (ints_sorted _)]
theorem redR_perm (a : Int) {l m : List Rc} (p : l.Perm m) : redR a l = redR a m := by
  unfold redR
  rw [keysR_perm p]
  split
  · refine List.map_congr_left fun k _ => ?_
    rw [agg_perm a (p.filter _)]
  · rfl
theorem filter_ne {l : List Rc} {k : Int} (h : k ∈ keysR l) : l.filter (ofKey k) ≠ [] := by
  obtain ⟨r, hr, e⟩ := (keysR_mem l k).1 h
  intro h0
  have : r ∈ l.filter (ofKey k) := List.mem_filter.2 ⟨hr, by simp [ofKey, e]⟩
  rw [h0] at this
  simp at this
theorem redR_may (a : Int) {l : List Rc} (hl : l.length ≤ 1000000) (h : ∀ r ∈ l, mayR r = true) : ∀ r ∈ redR a l, mayR r = true := by
  intro r hr
  unfold redR at hr
  split at hr
  · obtain ⟨k, hk, rfl⟩ := List.mem_map.1 hr
    obtain ⟨s, hs, e⟩ := (keysR_mem l k).1 hk
    have h1 := (mayR_iff s).1 (h s hs)
    rw [mayR_iff]
    refine ⟨by rw [e] at h1; exact h1.1, agg_in a (filter_ne hk) (Nat.le_trans (List.length_filter_le _ _) hl) fun r hr => ?_⟩
    exact ((mayR_iff r).1 (h r (List.mem_filter.1 hr).1)).2
  · simp at hr

/-- The rows of one key, one behind the other, each come to a record: the code's own way. -/
def shr : List Rc → Nat
  | [] => 0
  | x :: l => 1 + (l.takeWhile (ofKey x.k)).length
theorem shr_pos {l : List Rc} (h : 0 < l.length) : 1 ≤ shr l ∧ shr l ≤ l.length := by
  cases l with
  | nil => simp at h
  | cons x l =>
    have := (List.takeWhile_sublist (l := l) (ofKey x.k)).length_le
    simp only [shr, List.length_cons]
    omega
def redF (a : Int) : Nat → List Rc → List Rc
  | 0, _ => []
  | f + 1, [] => []
  | f + 1, x :: l => ⟨x.k, agg a ((x :: l).take (shr (x :: l)))⟩ :: redF a f ((x :: l).drop (shr (x :: l)))
theorem redF_fuel (a : Int) : ∀ (f g : Nat) (l : List Rc), l.length ≤ f → l.length ≤ g → redF a f l = redF a g l
  | 0, g, l, hf, hg => by
    have : l = [] := List.eq_nil_of_length_eq_zero (by omega)
    subst this
    cases g <;> rfl
  | f + 1, 0, l, hf, hg => by
    have : l = [] := List.eq_nil_of_length_eq_zero (by omega)
    subst this
    rfl
  | f + 1, g + 1, [], hf, hg => rfl
  | f + 1, g + 1, x :: l, hf, hg => by
    simp only [redF]
    have h1 : 1 ≤ shr (x :: l) := (shr_pos (by simp)).1
    rw [redF_fuel a f g _ (by rw [List.length_drop]; simp at hf ⊢; omega) (by rw [List.length_drop]; simp at hg ⊢; omega)]
def redS (a : Int) (l : List Rc) : List Rc := redF a l.length l
theorem redS_nil (a : Int) : redS a [] = [] := rfl
theorem redS_step (a : Int) (l : List Rc) (h : 0 < l.length) : redS a l = ⟨(l[0]).k, agg a (l.take (shr l))⟩ :: redS a (l.drop (shr l)) := by
  cases l with
  | nil => simp at h
  | cons x l =>
    unfold redS
    have h1 : 1 ≤ shr (x :: l) := (shr_pos (by simp)).1
    rw [show (x :: l).length = l.length + 1 from rfl]
    simp only [redF, List.getElem_cons_zero]
    rw [redF_fuel a l.length _ _ (by rw [List.length_drop]; simp; omega) (Nat.le_refl _)]
theorem sorted_key {S : List Rc} (h : SortedR S) : S.Pairwise fun a b => a.k ≤ b.k := by
  refine List.Pairwise.imp (fun {a b} h => ?_) h
  have := (leR_iff a b).1 h
  unfold aheadR at this
  omega
theorem take_shr {x : Rc} {l : List Rc} : (x :: l).take (shr (x :: l)) = x :: l.takeWhile (ofKey x.k) := by
  show (x :: l).take (1 + (l.takeWhile (ofKey x.k)).length) = _
  rw [Nat.add_comm, List.take_succ_cons, ← tw_take]
theorem drop_shr {x : Rc} {l : List Rc} : (x :: l).drop (shr (x :: l)) = l.dropWhile (ofKey x.k) := by
  show (x :: l).drop (1 + (l.takeWhile (ofKey x.k)).length) = _
  rw [Nat.add_comm, List.drop_succ_cons, ← dw_drop]
theorem behind_key {x : Rc} {l : List Rc} (h : SortedR (x :: l)) : ∀ y ∈ l.dropWhile (ofKey x.k), x.k < y.k := by
  intro y hy
  have hk := sorted_key h
  rw [List.pairwise_cons] at hk
  cases hd : l.dropWhile (ofKey x.k) with
  | nil => rw [hd] at hy; simp at hy
  | cons z r =>
    have hz : ofKey x.k z = false := by
      have := List.head?_dropWhile_not (p := ofKey x.k) l
      rw [hd] at this
      simpa using this
    have hzl : z ∈ l := (List.dropWhile_sublist (ofKey x.k)).subset (by rw [hd]; simp)
    have h1 := hk.1 z hzl
    have h2 : ¬ z.k = x.k := by simpa [ofKey] using hz
    have h3 : (z :: r).Pairwise fun a b => a.k ≤ b.k := by rw [← hd]; exact hk.2.sublist (List.dropWhile_sublist _)
    rw [hd] at hy
    rcases List.mem_cons.1 hy with e | e
    · subst e; omega
    · have := (List.pairwise_cons.1 h3).1 y e
      omega
theorem rises_unique : ∀ {d e : List Int}, (d.Pairwise fun a b => a < b) → (e.Pairwise fun a b => a < b) → (∀ x, x ∈ d ↔ x ∈ e) → d = e := by
  intro d e hd he h
  have nd : d.Nodup := hd.imp fun h => by omega
  have ne : e.Nodup := he.imp fun h => by omega
  exact ints_unique ((List.perm_ext_iff_of_nodup nd ne).2 h) (hd.imp fun h => by omega) (he.imp fun h => by omega)
theorem keys_sorted {x : Rc} {l : List Rc} (h : SortedR (x :: l)) : keysR (x :: l) = x.k :: keysR (l.dropWhile (ofKey x.k)) := by
  refine rises_unique (keysR_rises _) (List.pairwise_cons.2 ⟨fun y hy => ?_, keysR_rises _⟩) fun y => ?_
  · obtain ⟨r, hr, e⟩ := (keysR_mem _ _).1 hy
    have := behind_key h r hr
    omega
  · rw [keysR_mem, List.mem_cons, keysR_mem]
    constructor
    · rintro ⟨r, hr, e⟩
      rcases List.mem_cons.1 hr with rfl | hr
      · exact .inl e.symm
      · by_cases hk : r.k = x.k
        · left; omega
        · right
          refine ⟨r, ?_, e⟩
          rw [← List.takeWhile_append_dropWhile (p := ofKey x.k) (l := l)] at hr
          rcases List.mem_append.1 hr with hr | hr
          · have := List.all_eq_true.1 (List.all_takeWhile (p := ofKey x.k) (l := l)) r hr
            simp [ofKey] at this
            exact absurd this hk
          · exact hr
    · rintro (e | ⟨r, hr, e⟩)
      · exact ⟨x, by simp, e.symm⟩
      · exact ⟨r, List.mem_cons_of_mem _ ((List.dropWhile_sublist _).subset hr), e⟩
theorem filter_first {x : Rc} {l : List Rc} (h : SortedR (x :: l)) : (x :: l).filter (ofKey x.k) = x :: l.takeWhile (ofKey x.k) := by
  rw [List.filter_cons_of_pos (by simp [ofKey])]
  congr 1
  have e := List.takeWhile_append_dropWhile (p := ofKey x.k) (l := l)
  have h1 : (l.takeWhile (ofKey x.k)).filter (ofKey x.k) = l.takeWhile (ofKey x.k) := List.filter_eq_self.2 fun y hy => List.all_eq_true.1 (List.all_takeWhile (p := ofKey x.k) (l := l)) y hy
  have h2 : (l.dropWhile (ofKey x.k)).filter (ofKey x.k) = [] := List.filter_eq_nil_iff.2 fun y hy => by
    have := behind_key h y hy
    simp [ofKey]
    omega
  have e2 := congrArg (List.filter (ofKey x.k)) e
  rw [List.filter_append, h1, h2, List.append_nil] at e2
  exact e2.symm
theorem filter_rest {x : Rc} {l : List Rc} {k : Int} (hk : x.k < k) : (x :: l).filter (ofKey k) = (l.dropWhile (ofKey x.k)).filter (ofKey k) := by
  rw [List.filter_cons_of_neg (by simp [ofKey]; omega)]
  have e := List.takeWhile_append_dropWhile (p := ofKey x.k) (l := l)
  have h1 : (l.takeWhile (ofKey x.k)).filter (ofKey k) = [] := List.filter_eq_nil_iff.2 fun y hy => by
    have := List.all_eq_true.1 (List.all_takeWhile (p := ofKey x.k) (l := l)) y hy
    simp [ofKey] at this ⊢
    omega
  have e2 := congrArg (List.filter (ofKey k)) e
  rw [List.filter_append, h1, List.nil_append] at e2
  exact e2.symm
theorem redF_eq {a : Int} (ha : mayRedB a = true) : ∀ (f : Nat) (S : List Rc), SortedR S → S.length ≤ f → redF a f S = redR a S
  | 0, S, _, hf => by
    have : S = [] := List.eq_nil_of_length_eq_zero (by omega)
    subst this
    simp [redF, redR, ha, keysR, Lib.compact, Lib.compactUpTo]
  | f + 1, [], _, hf => by simp [redF, redR, ha, keysR, Lib.compact, Lib.compactUpTo]
  | f + 1, x :: l, h, hf => by
    simp only [redF]
    have h1 : SortedR (l.dropWhile (ofKey x.k)) := (List.pairwise_cons.1 h).2.sublist (List.dropWhile_sublist _)
    have h2 := (List.dropWhile_sublist (l := l) (ofKey x.k)).length_le
    rw [drop_shr, take_shr, redF_eq ha f _ h1 (by simp at hf; omega)]
    unfold redR
    rw [if_pos ha, if_pos ha, keys_sorted h, List.map_cons, filter_first h]
    congr 1
    refine List.map_congr_left fun k hk => ?_
    obtain ⟨r, hr, e⟩ := (keysR_mem _ _).1 hk
    rw [filter_rest (by have := behind_key h r hr; omega)]
/-- The code's way comes to the same, of any row. -/
theorem redS_srt {a : Int} (ha : mayRedB a = true) (l : List Rc) : redS a (srt l) = redR a l := by
  unfold redS
  rw [redF_eq ha _ _ (srt_sorted l) (Nat.le_refl _)]
  exact redR_perm a (srt_perm l)
/-- Rows of one key: the first and the last. -/
theorem group_min {x : Rc} {l : List Rc} (h : SortedR (x :: l)) (hk : ∀ y ∈ l, y.k = x.k) : minV (x :: l) = x.v := by
  refine (minV_is (by simp)).unique ⟨⟨x, by simp, rfl⟩, fun r hr => ?_⟩
  rcases List.mem_cons.1 hr with rfl | hr
  · exact Int.le_refl _
  · have h1 := (leR_iff _ _).1 ((List.pairwise_cons.1 h).1 r hr)
    have := hk r hr
    unfold aheadR at h1
    omega
theorem group_max {g : List Rc} {k : Int} (h : SortedR g) (hk : ∀ y ∈ g, y.k = k) (n : Nat) (hn : n + 1 = g.length) : maxV g = (g[n]'(by omega)).v := by
  have hne : g ≠ [] := fun e => by rw [e] at hn; simp at hn
  refine (maxV_is hne).unique ⟨⟨g[n]'(by omega), List.getElem_mem _, rfl⟩, fun r hr => ?_⟩
  obtain ⟨i, hi, rfl⟩ := List.mem_iff_getElem.1 hr
  by_cases e : i = n
  · subst e; exact Int.le_refl _
  · have h1 := (leR_iff _ _).1 (List.pairwise_iff_getElem.1 h i n hi (by omega) (by omega))
    have h2 := hk _ (List.getElem_mem hi)
    have h3 := hk _ (List.getElem_mem (show n < g.length by omega))
    unfold aheadR at h1
    omega

end Go.Proofs.Ythkkjhjbojbbaaa
