/-
  Ways along edges, as plain data: from a node to a node, through nodes whose low is not less than a number, and none of which is a Feedback of that depth; and how they are found: in as many rounds as there are nodes. No program is named here.
-/
import Derived.Test.YtehianjfpmbfpaaGreatHPl
namespace Go.Proofs.YtehianjfpmbfpaaGreat
set_option linter.unusedVariables false
set_option linter.unusedSimpArgs false

/-- The lesser depth of a node. -/
def lowP (n : Nd) : Int := minI (inDP n) n.d
/-- May a way go through t? -/
def okT (N : List Nd) (m : Int) (t : Nat) : Bool := !(decide (lowP (nth N t) < m) || (decide ((nth N t).k = 10) && decide ((nth N t).d = m)))
theorem okT_iff (N : List Nd) (m : Int) (t : Nat) : okT N m t = true ↔ m ≤ lowP (nth N t) ∧ ¬ ((nth N t).k = 10 ∧ (nth N t).d = m) := by
  by_cases h1 : (nth N t).k = 10 <;> by_cases h2 : (nth N t).d = m <;> simp [okT, h1, h2]
/-- A way of at least one edge. -/
inductive Tr (N : List Nd) (E : List Ed) (m : Int) (a : Nat) : Nat → Prop
  | one (e : Ed) (b : Nat) : e ∈ E → e.f = a → e.t = b → okT N m b = true → Tr N E m a b
  | more (b : Nat) (e : Ed) (c : Nat) : Tr N E m a b → e ∈ E → e.f = b → e.t = c → okT N m c = true → Tr N E m a c
theorem Tr.trans {N : List Nd} {E : List Ed} {m : Int} {a b c : Nat} (h : Tr N E m a b) (k : Tr N E m b c) : Tr N E m a c := by
  induction k with
  | one e b' he hf ht ok => exact .more b e b' h he hf ht ok
  | more b' e c' _ he hf ht ok ih => exact .more b' e c' ih he hf ht ok

/-- One edge, looked at. -/
def sE (N : List Nd) (m : Int) (v : Nat) (S : List Bool) (e : Ed) : List Bool :=
  if okT N m e.t.toNat = true ∧ (e.f = v ∨ S.getD e.f.toNat false = true) then S.set e.t.toNat true else S
/-- All edges, one behind the other. -/
def sR (N : List Nd) (E : List Ed) (m : Int) (v : Nat) (S : List Bool) : List Bool := E.foldl (sE N m v) S
/-- As many rounds. -/
def sK (N : List Nd) (E : List Ed) (m : Int) (v : Nat) : Nat → List Bool
  | 0 => List.replicate N.length false
  | k + 1 => sR N E m v (sK N E m v k)
def roundB (N : List Nd) (E : List Ed) (v : Nat) : Bool := (sK N E (lowP (nth N v)) v N.length).getD v false
/-- Edges lead from nodes to nodes. -/
def InN (N : List Nd) (E : List Ed) : Prop := ∀ e ∈ E, 0 ≤ e.f ∧ e.f < N.length ∧ 0 ≤ e.t ∧ e.t < N.length

theorem sE_len (N : List Nd) (m : Int) (v : Nat) (S : List Bool) (e : Ed) : (sE N m v S e).length = S.length := by
  unfold sE
  split <;> simp
theorem sF_len (N : List Nd) (m : Int) (v : Nat) : ∀ (E : List Ed) (S : List Bool), (E.foldl (sE N m v) S).length = S.length
  | [], S => rfl
  | e :: E, S => by rw [List.foldl_cons, sF_len N m v E, sE_len]
theorem sK_len (N : List Nd) (E : List Ed) (m : Int) (v k : Nat) : (sK N E m v k).length = N.length := by
  induction k with
  | zero => simp [sK]
  | succ k ih => unfold sK sR; rw [sF_len, ih]
theorem getD_set (S : List Bool) (i j : Nat) : (S.set i true).getD j false = if i = j ∧ j < S.length then true else S.getD j false := by
  simp only [List.getD_eq_getElem?_getD, List.getElem?_set]
  by_cases h : i = j
  · subst h
    by_cases hl : i < S.length
    · simp [hl]
    · simp [hl]
  · simp [h]
/-- What is found is so. -/
def Sound (N : List Nd) (E : List Ed) (m : Int) (v : Nat) (S : List Bool) : Prop := ∀ i, S.getD i false = true → Tr N E m v i
theorem sE_sound {N : List Nd} {E : List Ed} {m : Int} {v : Nat} {S : List Bool} {e : Ed} (hin : InN N E) (he : e ∈ E) (h : Sound N E m v S) : Sound N E m v (sE N m v S e) := by
  intro i hi
  obtain ⟨h0, _, h1, _⟩ := hin e he
  unfold sE at hi
  by_cases hc : okT N m e.t.toNat = true ∧ (e.f = v ∨ S.getD e.f.toNat false = true)
  · rw [if_pos hc, getD_set] at hi
    by_cases hj : e.t.toNat = i ∧ i < S.length
    · obtain ⟨rfl, _⟩ := hj
      rcases hc.2 with hf | hf
      · exact .one e _ he hf (by omega) hc.1
      · exact .more e.f.toNat e _ (h _ hf) he (by omega) (by omega) hc.1
    · rw [if_neg hj] at hi; exact h i hi
  · rw [if_neg hc] at hi; exact h i hi
theorem sF_sound {N : List Nd} {E : List Ed} {m : Int} {v : Nat} (hin : InN N E) : ∀ (F : List Ed) (S : List Bool), (∀ e ∈ F, e ∈ E) → Sound N E m v S → Sound N E m v (F.foldl (sE N m v) S)
  | [], S, _, h => h
  | e :: F, S, hF, h => by
    rw [List.foldl_cons]
    exact sF_sound hin F _ (fun x hx => hF x (List.mem_cons_of_mem _ hx)) (sE_sound hin (hF e List.mem_cons_self) h)
theorem sK_sound {N : List Nd} {E : List Ed} {m : Int} {v : Nat} (hin : InN N E) (k : Nat) : Sound N E m v (sK N E m v k) := by
  induction k with
  | zero =>
    intro i hi
    simp [sK, List.getD_eq_getElem?_getD, List.getElem?_replicate] at hi
    split at hi <;> simp at hi
  | succ k ih => exact sF_sound hin E _ (fun _ h => h) ih
/-- How many are found. -/
def cnt (S : List Bool) : Nat := S.count true
theorem set_same (S : List Bool) (i : Nat) (h : S.getD i false = true) : S.set i true = S := by
  refine List.ext_getElem (by simp) fun j h1 h2 => ?_
  rw [List.getElem_set]
  split
  · rename_i hij
    subst hij
    have : S[i]?.getD false = true := by rw [← List.getD_eq_getElem?_getD]; exact h
    rw [List.getElem?_eq_getElem h2] at this
    exact this.symm
  · rfl
theorem cnt_set : ∀ (S : List Bool) (i : Nat), i < S.length → S.getD i false = false → cnt (S.set i true) = cnt S + 1
  | [], i, h, _ => by simp at h
  | b :: S, 0, _, h => by
    have : b = false := by simpa using h
    subst this
    simp [cnt]
  | b :: S, i + 1, h, hf => by
    have := cnt_set S i (by simpa using h) (by simpa using hf)
    unfold cnt at this ⊢
    rw [List.set_cons_succ, List.count_cons, List.count_cons, this]
    omega
/-- An edge looked at finds one more, or nothing changes. -/
theorem sE_cnt (N : List Nd) (m : Int) (v : Nat) (S : List Bool) (e : Ed) (ht : e.t.toNat < S.length) : sE N m v S e = S ∨ cnt (sE N m v S e) = cnt S + 1 := by
  unfold sE
  by_cases hc : okT N m e.t.toNat = true ∧ (e.f = v ∨ S.getD e.f.toNat false = true)
  · rw [if_pos hc]
    cases hb : S.getD e.t.toNat false
    · right; exact cnt_set S _ ht hb
    · left; exact set_same S _ hb
  · rw [if_neg hc]; exact .inl rfl
theorem sF_cnt {N : List Nd} {m : Int} {v : Nat} : ∀ (F : List Ed) (S : List Bool), (∀ e ∈ F, e.t.toNat < S.length) → (cnt S ≤ cnt (F.foldl (sE N m v) S)) ∧ (cnt (F.foldl (sE N m v) S) = cnt S → F.foldl (sE N m v) S = S ∧ ∀ e ∈ F, sE N m v S e = S)
  | [], S, _ => ⟨Nat.le_refl _, fun _ => ⟨rfl, by simp⟩⟩
  | e :: F, S, h => by
    have h1 := sE_cnt N m v S e (h e List.mem_cons_self)
    have h2 := sF_cnt (N := N) (m := m) (v := v) F (sE N m v S e) (fun x hx => by rw [sE_len]; exact h x (List.mem_cons_of_mem _ hx))
    rw [List.foldl_cons]
    rcases h1 with h1 | h1
    · rw [h1] at h2 ⊢
      refine ⟨h2.1, fun hc => ⟨(h2.2 hc).1, ?_⟩⟩
      intro x hx
      rcases List.mem_cons.1 hx with rfl | hx
      · exact h1
      · exact (h2.2 hc).2 x hx
    · refine ⟨by omega, fun hc => ?_⟩
      have := h2.1
      omega
/-- Nothing more is to be found. -/
def Closed (N : List Nd) (E : List Ed) (m : Int) (v : Nat) (S : List Bool) : Prop := ∀ e ∈ E, sE N m v S e = S
theorem cnt_full (S : List Bool) (h : S.length ≤ cnt S) (i : Nat) (hi : i < S.length) : S.getD i false = true := by
  have h1 : cnt S = S.length := Nat.le_antisymm List.count_le_length h
  have h2 := List.count_eq_length.1 h1
  have h3 := h2 S[i] (List.getElem_mem hi)
  rw [List.getD_eq_getElem?_getD, List.getElem?_eq_getElem hi]
  exact h3.symm
theorem sK_closed {N : List Nd} {E : List Ed} {m : Int} {v : Nat} (hin : InN N E) (k : Nat) : Closed N E m v (sK N E m v k) ∨ k ≤ cnt (sK N E m v k) := by
  induction k with
  | zero => right; exact Nat.zero_le _
  | succ k ih =>
    have hT : ∀ e ∈ E, e.t.toNat < (sK N E m v k).length := fun e he => by
      rw [sK_len]
      have := hin e he
      omega
    have h1 := sF_cnt (N := N) (m := m) (v := v) E (sK N E m v k) hT
    rcases ih with hc | hc
    · left
      have : sK N E m v (k + 1) = sK N E m v k := by
        show E.foldl (sE N m v) (sK N E m v k) = _
        have key : ∀ (F : List Ed), (∀ e ∈ F, e ∈ E) → F.foldl (sE N m v) (sK N E m v k) = sK N E m v k := by
          intro F
          induction F with
          | nil => intro _; rfl
          | cons e F ihF =>
            intro hF
            rw [List.foldl_cons, hc e (hF e List.mem_cons_self)]
            exact ihF fun x hx => hF x (List.mem_cons_of_mem _ hx)
        exact key E fun _ h => h
      rw [this]; exact hc
    · by_cases he : cnt (sK N E m v (k + 1)) = cnt (sK N E m v k)
      · left
        obtain ⟨h2, h3⟩ := h1.2 he
        have : sK N E m v (k + 1) = sK N E m v k := h2
        rw [this]; exact h3
      · right
        have h2 : cnt (sK N E m v k) ≤ cnt (sK N E m v (k + 1)) := h1.1
        omega
theorem closed_all {N : List Nd} {E : List Ed} {m : Int} {v : Nat} {S : List Bool} (hin : InN N E) (hl : S.length = N.length) (hc : Closed N E m v S) {t : Nat} (h : Tr N E m v t) : S.getD t false = true := by
  have key : ∀ (e : Ed) (b : Nat), e ∈ E → (e.f = v ∨ S.getD e.f.toNat false = true) → e.t = b → okT N m b = true → S.getD b false = true := by
    intro e b he hf ht ok
    have hb : e.t.toNat = b := by omega
    have := hc e he
    unfold sE at this
    rw [hb, if_pos ⟨ok, hf⟩] at this
    rw [← this, getD_set]
    have h2 := hin e he
    rw [if_pos ⟨rfl, by rw [hl]; omega⟩]
  induction h with
  | one e b he hf ht ok => exact key e b he (.inl hf) ht ok
  | more b e c _ he hf ht ok ih => exact key e c he (.inr (by rw [hf]; simpa using ih)) ht ok
/-- What is found in as many rounds as there are nodes is just what there is a way to. -/
theorem sK_iff {N : List Nd} {E : List Ed} {m : Int} {v : Nat} (hin : InN N E) (t : Nat) (ht : t < N.length) : (sK N E m v N.length).getD t false = true ↔ Tr N E m v t := by
  constructor
  · exact fun h => sK_sound hin _ t h
  · intro h
    rcases sK_closed (m := m) (v := v) hin N.length with hc | hc
    · exact closed_all hin (sK_len N E m v _) hc h
    · exact cnt_full _ (by rw [sK_len]; exact hc) t (by rw [sK_len]; exact ht)
theorem roundB_iff {N : List Nd} {E : List Ed} {v : Nat} (hin : InN N E) (hv : v < N.length) : roundB N E v = true ↔ Tr N E (lowP (nth N v)) v v := sK_iff hin v hv

end Go.Proofs.YtehianjfpmbfpaaGreat
