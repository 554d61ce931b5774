/-
  Numbers of times: what adding makes of them, what their frontier is, what goes from it and what comes; no program is named in it.
-/
import Derived.Test.YtpkhmhigoafklaaChF
namespace Go.Proofs.Ytpkhmhigoafklaa
set_option linter.unusedVariables false

/-- Numbers of times: those whose number is not 0, in their order, and the numbers. -/
structure Cs where
  T : List Tm
  f : Tm → Int

def fitsB (n : Int) : Bool := decide (-1073741824 ≤ n) && decide (n ≤ 1073741824)
theorem fitsB_iff (n : Int) : fitsB n = true ↔ -1073741824 ≤ n ∧ n ≤ 1073741824 := by simp [fitsB]
def putF (f : Tm → Int) (t : Tm) (n : Int) : Tm → Int := fun x => if eqB x t = true then n else f x
theorem putF_same (f : Tm → Int) (t : Tm) (n : Int) : putF f t n t = n := by simp [putF, (eqB_iff t t).2 rfl]
theorem putF_other (f : Tm → Int) {t x : Tm} (n : Int) (h : x ≠ t) : putF f t n x = f x := by
  have : ¬ eqB x t = true := fun e => h ((eqB_iff x t).1 e)
  simp [putF, this]
theorem putF_twice (f : Tm → Int) (t : Tm) (n m : Int) : putF (putF f t n) t m = putF f t m := by
  funext x
  by_cases h : x = t
  · subst h; rw [putF_same, putF_same]
  · rw [putF_other _ _ h, putF_other _ _ h, putF_other _ _ h]
theorem putF_self (f : Tm → Int) (t : Tm) : putF f t (f t) = f := by
  funext x
  by_cases h : x = t
  · subst h; rw [putF_same]
  · rw [putF_other _ _ h]
def dropT (T : List Tm) (t : Tm) : List Tm := T.filter fun x => !eqB x t
theorem mem_dropT {T : List Tm} {t x : Tm} : x ∈ dropT T t ↔ x ∈ T ∧ x ≠ t := by
  unfold dropT
  rw [List.mem_filter]
  refine and_congr_right fun _ => ?_
  rw [Bool.not_eq_true', ← Bool.not_eq_true, Ne, not_congr (eqB_iff x t)]
theorem dropT_rises {T : List Tm} (t : Tm) (h : Rises kinT T) : Rises kinT (dropT T t) := h.filter _
theorem dropT_none {T : List Tm} {t : Tm} (h : t ∉ T) : dropT T t = T := by
  refine List.filter_eq_self.2 fun x hx => ?_
  have : ¬ eqB x t = true := fun e => h ((eqB_iff x t).1 e ▸ hx)
  simp [this]
theorem rises_nodup {T : List Tm} (h : Rises kinT T) : T.Nodup := h.imp fun {a b} hab => Kin.oirr kinT a b hab
theorem dropT_len {T : List Tm} {t : Tm} (h : Rises kinT T) (ht : t ∈ T) : (dropT T t).length + 1 = T.length := by
  have hn := rises_nodup h
  clear h
  induction T with
  | nil => simp at ht
  | cons y T ih =>
    obtain ⟨h1, h2⟩ := List.nodup_cons.1 hn
    by_cases e : y = t
    · subst e
      have : dropT (y :: T) y = T := by
        have := dropT_none h1
        simp only [dropT] at this ⊢
        rw [List.filter_cons, if_neg (by simp [(eqB_iff y y).2 rfl]), this]
      rw [this]; rfl
    · have hy : ¬ eqB y t = true := fun k => e ((eqB_iff y t).1 k)
      have := ih (by rcases List.mem_cons.1 ht with k | k; exact absurd k.symm e; exact k) h2
      have e2 : dropT (y :: T) t = y :: dropT T t := by simp [dropT, hy]
      rw [e2]; simp; omega
theorem ins_len (c : List Tm) (x : Tm) : (insO kinT c x).length = c.length + 1 := by
  unfold insO
  have := congrArg List.length (List.takeWhile_append_dropWhile (p := fun y => decide (kinT.ord y x < 0)) (l := c))
  simp only [List.length_append, List.length_singleton] at this ⊢
  omega
def nextT (T : List Tm) (t : Tm) (n : Int) : List Tm := if n = 0 then dropT T t else insO kinT (dropT T t) t

structure Cs.ok (s : Cs) : Prop where
  rises : Rises kinT s.T
  mem : ∀ x, x ∈ s.T ↔ s.f x ≠ 0
  may : ∀ x ∈ s.T, mayB x = true
  fits : ∀ x, fitsB (s.f x) = true
  few : s.T.length ≤ 400

def Cs.none : Cs := ⟨[], fun _ => 0⟩
theorem Cs.none_ok : Cs.none.ok := ⟨List.Pairwise.nil, fun x => by simp [Cs.none], fun x h => (by cases h), fun x => rfl, by simp [Cs.none]⟩
/-- n is made the number of t. -/
def Cs.next (s : Cs) (t : Tm) (n : Int) : Cs := ⟨nextT s.T t n, putF s.f t n⟩
def Cs.up (s : Cs) : List Tm := s.T.filter fun x => decide (0 < s.f x)
def Cs.front (s : Cs) : List Tm := chainO kinT s.up
/-- Those of a that b has not. -/
def outO (a b : List Tm) : List Tm := a.filter fun x => !(b.any fun y => eqB x y)
def Cs.err (s : Cs) (t : Tm) (n : Int) : Int :=
  if (mayB t && fitsB n) = true then if fitsB (s.f t + n) = true then if (nextT s.T t (s.f t + n)).length ≤ 400 then 0 else 3 else 4 else 1
def Cs.add (s : Cs) (t : Tm) (n : Int) : Cs := if s.err t n = 0 then s.next t (s.f t + n) else s
def Cs.gone (s : Cs) (t : Tm) (n : Int) : List Tm := outO s.front (s.add t n).front
def Cs.come (s : Cs) (t : Tm) (n : Int) : List Tm := outO (s.add t n).front s.front

theorem Cs.err_ok {s : Cs} {t : Tm} {n : Int} (h : s.err t n = 0) : mayB t = true ∧ fitsB n = true ∧ fitsB (s.f t + n) = true ∧ (nextT s.T t (s.f t + n)).length ≤ 400 := by
  unfold Cs.err at h
  split at h
  · rename_i h1
    split at h
    · rename_i h2
      split at h
      · rename_i h3
        rw [Bool.and_eq_true] at h1
        exact ⟨h1.1, h1.2, h2, h3⟩
      · cases h
    · cases h
  · cases h
theorem Cs.err_of {s : Cs} {t : Tm} {n : Int} (h1 : mayB t = true) (h2 : fitsB n = true) (h3 : fitsB (s.f t + n) = true) (h4 : (nextT s.T t (s.f t + n)).length ≤ 400) : s.err t n = 0 := by
  simp [Cs.err, h1, h2, h3, h4]

theorem outO_self (a : List Tm) : outO a a = [] := by
  refine List.filter_eq_nil_iff.2 fun x hx => ?_
  have : (a.any fun y => eqB x y) = true := List.any_eq_true.2 ⟨x, hx, (eqB_iff x x).2 rfl⟩
  simp [this]
theorem mem_outO {a b : List Tm} {x : Tm} : x ∈ outO a b ↔ x ∈ a ∧ x ∉ b := by
  unfold outO
  rw [List.mem_filter]
  refine and_congr_right fun _ => ?_
  rw [Bool.not_eq_true', ← Bool.not_eq_true, List.any_eq_true]
  refine not_congr ⟨fun ⟨y, hy, e⟩ => (eqB_iff x y).1 e ▸ hy, fun h => ⟨x, h, (eqB_iff x x).2 rfl⟩⟩
theorem anyB_iff (b : List Tm) (x : Tm) : (b.any fun y => eqB x y) = true ↔ x ∈ b := by
  rw [List.any_eq_true]
  exact ⟨fun ⟨y, hy, e⟩ => (eqB_iff x y).1 e ▸ hy, fun h => ⟨x, h, (eqB_iff x x).2 rfl⟩⟩

section
variable {s : Cs} {t : Tm} {n : Int}
theorem Cs.next_mem (hs : s.ok) (x : Tm) : x ∈ nextT s.T t n ↔ putF s.f t n x ≠ 0 := by
  by_cases e : x = t
  · subst e
    rw [putF_same]
    unfold nextT
    split
    · rename_i h
      rw [mem_dropT]
      exact ⟨fun k => absurd rfl k.2, fun k => absurd h k⟩
    · rename_i h
      rw [ins_mem]
      exact ⟨fun _ => h, fun _ => .inl rfl⟩
  · rw [putF_other _ _ e, ← hs.mem]
    unfold nextT
    split
    · rw [mem_dropT]
      exact ⟨fun k => k.1, fun k => ⟨k, e⟩⟩
    · rw [ins_mem, mem_dropT]
      exact ⟨fun k => (k.resolve_left e).1, fun k => .inr ⟨k, e⟩⟩
theorem Cs.next_rises (hs : s.ok) : Rises kinT (nextT s.T t n) := by
  unfold nextT
  split
  · exact dropT_rises t hs.rises
  · exact ins_rises kinT (dropT_rises t hs.rises) fun h => (mem_dropT.1 h).2 rfl
theorem Cs.next_ok (hs : s.ok) (ht : mayB t = true) (hn : fitsB n = true) (hl : (nextT s.T t n).length ≤ 400) : (s.next t n).ok where
  rises := Cs.next_rises hs
  mem := Cs.next_mem hs
  may x hx := by
    by_cases e : x = t
    · rw [e]; exact ht
    · have := (Cs.next_mem hs x).1 hx
      rw [putF_other _ _ e] at this
      exact hs.may x ((hs.mem x).2 this)
  fits x := by
    show fitsB (putF s.f t n x) = true
    by_cases e : x = t
    · rw [e, putF_same]; exact hn
    · rw [putF_other _ _ e]; exact hs.fits x
  few := hl
theorem Cs.add_ok (hs : s.ok) : (s.add t n).ok := by
  unfold Cs.add
  split
  · rename_i h
    obtain ⟨h1, h2, h3, h4⟩ := Cs.err_ok h
    exact Cs.next_ok hs h1 h3 h4
  · exact hs
theorem Cs.ext' {s' : Cs} (hs : s.ok) (hs' : s'.ok) (h : s.f = s'.f) : s = s' := by
  have : s.T = s'.T := rises_ext kinT hs.rises hs'.rises fun x => by rw [hs.mem, hs'.mem, h]
  cases s; cases s'; simp_all
/-- How many there are then. -/
theorem Cs.next_len (hs : s.ok) : (nextT s.T t n).length = if n = 0 then (if s.f t = 0 then s.T.length else s.T.length - 1) else (if s.f t = 0 then s.T.length + 1 else s.T.length) := by
  unfold nextT
  by_cases h0 : s.f t = 0
  · have hm : t ∉ s.T := fun h => (hs.mem t).1 h h0
    rw [dropT_none hm, if_pos h0, if_pos h0]
    split
    · rfl
    · rw [ins_len]
  · have := dropT_len hs.rises ((hs.mem t).2 h0)
    rw [if_neg h0, if_neg h0]
    split
    · omega
    · rw [ins_len]; omega
/-- As the program asks: is there room? -/
theorem Cs.room (hs : s.ok) : (nextT s.T t n).length ≤ 400 ↔ ¬ (s.f t = 0 ∧ n ≠ 0 ∧ 400 ≤ s.T.length) := by
  rw [Cs.next_len hs]
  have := hs.few
  split <;> split <;> rename_i h1 h2 <;> simp [h1, h2] <;> omega
theorem Cs.mem_up (hs : s.ok) (x : Tm) : x ∈ s.up ↔ 0 < s.f x := by
  unfold Cs.up
  rw [List.mem_filter, hs.mem]
  simp only [decide_eq_true_eq]
  omega
theorem Cs.front_of (hs : s.ok) {l : List Tm} (h : ∀ x, x ∈ l ↔ 0 < s.f x) : chainO kinT l = s.front :=
  chainO_eq kinT ((chain_set kinT fun x => by rw [h, Cs.mem_up hs]).1 (chainO_is kinT l))
/-- Where no number goes above 0, or from above it, the frontier stays. -/
theorem Cs.front_same (hs : s.ok) (ht : mayB t = true) (hn : fitsB n = true) (hl : (nextT s.T t n).length ≤ 400) (h : 0 < s.f t ↔ 0 < n) : (s.next t n).front = s.front := by
  have hk := Cs.next_ok hs ht hn hl
  refine Cs.front_of hs fun x => ?_
  rw [Cs.mem_up hk]
  show 0 < putF s.f t n x ↔ _
  by_cases e : x = t
  · rw [e, putF_same]; exact h.symm
  · rw [putF_other _ _ e]
theorem Cs.front_rises (s : Cs) : Rises kinT s.front := (chainO_is kinT s.up).1
theorem Cs.front_len (hs : s.ok) : s.front.length ≤ 400 := by
  have h1 := chainO_len kinT s.up
  have h2 : s.up.length ≤ s.T.length := List.length_filter_le _ _
  have := hs.few
  unfold Cs.front
  omega
theorem outO_len (a b : List Tm) : (outO a b).length ≤ a.length := List.length_filter_le _ _

/-- A number that is added and taken away again. -/
theorem Cs.back (hs : s.ok) (h : s.err t n = 0) : (s.add t n).err t (-n) = 0 ∧ (s.add t n).add t (-n) = s := by
  obtain ⟨h1, h2, h3, h4⟩ := Cs.err_ok h
  have hf : (s.add t n).f t + -n = s.f t := by
    unfold Cs.add
    rw [if_pos h]
    show putF s.f t (s.f t + n) t + -n = _
    rw [putF_same]; omega
  have ho := Cs.add_ok (t := t) (n := n) hs
  have hb : (nextT (s.add t n).T t (s.f t)).length ≤ 400 := by
    have e : (s.next t (s.f t + n)).next t (s.f t) = ⟨nextT (nextT s.T t (s.f t + n)) t (s.f t), s.f⟩ := by
      unfold Cs.next
      simp only [putF_twice, putF_self]
    have e1 : s.add t n = s.next t (s.f t + n) := by unfold Cs.add; rw [if_pos h]
    have e2 : nextT (s.add t n).T t (s.f t) = s.T := by
      refine rises_ext kinT (Cs.next_rises ho) hs.rises fun x => ?_
      rw [Cs.next_mem ho, hs.mem, e1]
      show putF (putF s.f t (s.f t + n)) t (s.f t) x ≠ 0 ↔ _
      rw [putF_twice, putF_self]
    rw [e2]; exact hs.few
  have he : (s.add t n).err t (-n) = 0 := Cs.err_of h1 (by rw [fitsB_iff] at *; omega) (by rw [hf]; exact hs.fits t) (by rw [hf]; exact hb)
  refine ⟨he, Cs.ext' (Cs.add_ok ho) hs ?_⟩
  have e1 : s.add t n = s.next t (s.f t + n) := by unfold Cs.add; rw [if_pos h]
  have e3 : (s.add t n).add t (-n) = (s.add t n).next t (s.f t) := by
    show (if (s.add t n).err t (-n) = 0 then (s.add t n).next t ((s.add t n).f t + -n) else s.add t n) = _
    rw [if_pos he, hf]
  rw [e3, e1]
  show putF (putF s.f t (s.f t + n)) t (s.f t) = s.f
  rw [putF_twice, putF_self]
end

theorem Cs.gone_not {s : Cs} {t : Tm} {n : Int} (h : s.err t n ≠ 0) : s.gone t n = [] ∧ s.come t n = [] := by
  have : s.add t n = s := by unfold Cs.add; rw [if_neg h]
  unfold Cs.gone Cs.come
  rw [this]
  exact ⟨outO_self _, outO_self _⟩

/-- Two rows with no one twice: how many of the one the other has not. -/
theorem outO_count : ∀ {a b : List Tm}, a.Nodup → b.Nodup → (outO a b).length + b.length = (outO b a).length + a.length
  | [], b, _, _ => by
    have : outO b [] = b := List.filter_eq_self.2 fun x _ => rfl
    rw [this]; simp [outO]
  | x :: a, b, ha, hb => by
    obtain ⟨h1, h2⟩ := List.nodup_cons.1 ha
    have ih := outO_count h2 hb
    by_cases hx : x ∈ b
    · have e1 : outO (x :: a) b = outO a b := by
        unfold outO
        rw [List.filter_cons, if_neg]
        simp [(anyB_iff b x).2 hx]
      have e2 : (outO b (x :: a)).length + 1 = (outO b a).length := by
        have hmem : x ∈ outO b a := mem_outO.2 ⟨hx, h1⟩
        have e3 : outO b (x :: a) = dropT (outO b a) x := by
          unfold outO dropT
          rw [List.filter_filter]
          refine List.filter_congr fun y _ => ?_
          rw [List.any_cons, Bool.not_or]
        have hn : (outO b a).Nodup := hb.filter _
        rw [e3]
        clear ih ha h1 h2 hb hx e1 e3
        revert hmem hn
        generalize outO b a = Z
        intro hmem hn
        induction Z with
        | nil => simp at hmem
        | cons y T ih =>
          obtain ⟨h1, h2⟩ := List.nodup_cons.1 hn
          by_cases e : y = x
          · subst e
            have e4 : dropT (y :: T) y = T := by
              have := dropT_none h1
              simp only [dropT] at this ⊢
              rw [List.filter_cons, if_neg (by simp [(eqB_iff y y).2 rfl]), this]
            rw [e4]; rfl
          · have hy : ¬ eqB y x = true := fun k => e ((eqB_iff y x).1 k)
            have := ih (by rcases List.mem_cons.1 hmem with k | k; exact absurd k.symm e; exact k) h2
            have e5 : dropT (y :: T) x = y :: dropT T x := by simp [dropT, hy]
            rw [e5]; simp; omega
      rw [e1]; simp; omega
    · have e1 : outO (x :: a) b = x :: outO a b := by
        unfold outO
        rw [List.filter_cons, if_pos]
        have : ¬ (b.any fun y => eqB x y) = true := fun k => hx ((anyB_iff b x).1 k)
        simpa using this
      have e2 : outO b (x :: a) = outO b a := by
        unfold outO
        refine List.filter_congr fun y hy => ?_
        have : ¬ eqB y x = true := fun k => hx ((eqB_iff y x).1 k ▸ hy)
        rw [List.any_cons]
        simp [this]
      rw [e1, e2]; simp; omega
theorem front_count {a b : List Tm} (ha : Rises kinT a) (hb : Rises kinT b) : (outO a b).length + b.length = (outO b a).length + a.length := outO_count (rises_nodup ha) (rises_nodup hb)

/-- A number that is added to a time's. -/
structure Opn where
  t : Tm
  n : Int
/-- Numbers that are added, one behind the other. -/
def Cs.adds (s : Cs) (l : List Opn) : Cs := l.foldl (fun s o => s.add o.t o.n) s
theorem Cs.adds_ok {s : Cs} (hs : s.ok) : ∀ l : List Opn, (s.adds l).ok := by
  intro l
  induction l generalizing s with
  | nil => exact hs
  | cons o l ih => exact ih (Cs.add_ok hs)
theorem Cs.adds_snoc (s : Cs) (l : List Opn) (o : Opn) : s.adds (l ++ [o]) = (s.adds l).add o.t o.n := by simp [Cs.adds, List.foldl_append]
theorem Cs.adds_take (s : Cs) (l : List Opn) (k : Nat) (h : k < l.length) : s.adds (l.take (k + 1)) = (s.adds (l.take k)).add l[k].t l[k].n := by
  rw [List.take_succ_eq_append_getElem h, Cs.adds_snoc]
/-- What was added to one time, together. -/
def sumOf (l : List Opn) (x : Tm) : Int := (l.map fun o => if (mayB o.t && eqB o.t x) = true then o.n else 0).sum
theorem sumOf_snoc (l : List Opn) (o : Opn) (x : Tm) : sumOf (l ++ [o]) x = sumOf l x + if (mayB o.t && eqB o.t x) = true then o.n else 0 := by simp [sumOf]
theorem sumOf_reverse (l : List Opn) (x : Tm) : sumOf l.reverse x = sumOf l x := by
  induction l with
  | nil => rfl
  | cons o l ih =>
    rw [List.reverse_cons, sumOf_snoc, ih]
    simp only [sumOf, List.map_cons, List.sum_cons]
    omega
/-- While the numbers are small and few nothing is refused but times that may not be. -/
theorem Cs.adds_small : ∀ (l : List Opn), l.length ≤ 100 → (∀ o ∈ l, -100 ≤ o.n ∧ o.n ≤ 100) →
    (∀ x, (Cs.none.adds l).f x = sumOf l x) ∧ (Cs.none.adds l).T.length ≤ l.length ∧ ∀ x, -(100 * (l.length : Int)) ≤ sumOf l x ∧ sumOf l x ≤ 100 * (l.length : Int) := by
  intro l
  induction h : l.length generalizing l with
  | zero =>
    intro _ _
    have : l = [] := List.length_eq_zero_iff.1 h
    subst this
    exact ⟨fun x => rfl, by simp [Cs.adds, Cs.none], fun x => by simp [sumOf]⟩
  | succ k ih =>
    intro hk hsm
    have hne : l ≠ [] := fun e => by rw [e] at h; simp at h
    obtain ⟨l', o, rfl⟩ : ∃ l' o, l = l' ++ [o] := ⟨l.dropLast, l.getLast hne, (List.dropLast_concat_getLast hne).symm⟩
    have hl' : l'.length = k := by simpa using h
    obtain ⟨h1, h2, h3⟩ := ih l' hl' (by omega) fun o' ho' => hsm o' (by simp [ho'])
    have hb := hsm o (by simp)
    have hok := Cs.adds_ok Cs.none_ok l'
    have hsum : ∀ x, -(100 * ((k + 1 : Nat) : Int)) ≤ sumOf (l' ++ [o]) x ∧ sumOf (l' ++ [o]) x ≤ 100 * ((k + 1 : Nat) : Int) := fun x => by
      rw [sumOf_snoc]
      have := h3 x
      split <;> constructor <;> push_cast <;> omega
    rw [Cs.adds_snoc]
    by_cases hm : mayB o.t = true
    · have he : (Cs.none.adds l').err o.t o.n = 0 := by
        refine Cs.err_of hm ((fitsB_iff _).2 (by omega)) ((fitsB_iff _).2 ?_) ?_
        · rw [h1]; have := h3 o.t; omega
        · rw [Cs.next_len hok]
          split <;> split <;> omega
      refine ⟨fun x => ?_, ?_, hsum⟩
      · unfold Cs.add
        rw [if_pos he, sumOf_snoc]
        show putF _ o.t _ x = _
        by_cases e : x = o.t
        · rw [e, putF_same, h1, hm, (eqB_iff _ _).2 rfl]; simp
        · rw [putF_other _ _ e, h1]
          have : ¬ eqB o.t x = true := fun k => e ((eqB_iff _ _).1 k).symm
          simp [this]
      · unfold Cs.add
        rw [if_pos he]
        show (nextT _ _ _).length ≤ _
        rw [Cs.next_len hok]
        split <;> split <;> omega
    · have he : (Cs.none.adds l').err o.t o.n ≠ 0 := fun e => hm (Cs.err_ok e).1
      refine ⟨fun x => ?_, ?_, hsum⟩
      · unfold Cs.add
        rw [if_neg he, h1, sumOf_snoc]
        simp [hm]
      · unfold Cs.add
        rw [if_neg he]; omega
theorem Cs.small_err (l : List Opn) (hl : l.length ≤ 100) (hsm : ∀ o ∈ l, -100 ≤ o.n ∧ o.n ≤ 100) (t : Tm) (n : Int) (hn : -100 ≤ n ∧ n ≤ 100) : (Cs.none.adds l).err t n = 0 ↔ mayB t = true := by
  obtain ⟨h1, h2, h3⟩ := Cs.adds_small l hl hsm
  refine ⟨fun e => (Cs.err_ok e).1, fun hm => Cs.err_of hm ((fitsB_iff _).2 (by omega)) ((fitsB_iff _).2 ?_) ?_⟩
  · rw [h1]; have := h3 t; omega
  · rw [Cs.next_len (Cs.adds_ok Cs.none_ok l)]
    split <;> split <;> omega

end Go.Proofs.Ytpkhmhigoafklaa
