import Derived.Test.YtehianjfpmbfpaaGreatHPlZ
import Derived.Test.YtehianjfpmbfpaaGreatSFacts
import Derived.Test.YtehianjfpmbfpaaGreatBase
section
/-
  Ways along edges, as plain data: from a node to a node, through nodes whose low is not less than a number, and none of which is a Feedback of that depth; and how they are found: in as many rounds as there are nodes. No program is named here.
-/
namespace Go.Proofs.YtehianjfpmbfpaaGreat
set_option linter.unusedVariables false
set_option linter.unusedSimpArgs false

/-- The lesser depth of a node. -/
def lowP (n : Nd) : Int := minI (inDP n) n.d
/-- May a way go through t? -/
def okT (N : List Nd) (m : Int) (t : Nat) : Bool := !(decide (lowP (nth N t) < m) || (decide ((nth N t).k = 10) && decide ((nth N t).d = m)))
theorem okT_iff (N : List Nd) (m : Int) (t : Nat) : okT N m t = true ↔ m ≤ lowP (nth N t) ∧ ¬ ((nth N t).k = 10 ∧ (nth N t).d = m) := by
  by_cases h1 : (nth N t).k = 10 <;> by_cases h2 : (nth N t).d = m <;> simp [okT, h1, h2]
/-- A way of at least one edge. -/
inductive Tr (N : List Nd) (E : List Ed) (m : Int) (a : Nat) : Nat → Prop
  | one (e : Ed) (b : Nat) : e ∈ E → e.f = a → e.t = b → okT N m b = true → Tr N E m a b
  | more (b : Nat) (e : Ed) (c : Nat) : Tr N E m a b → e ∈ E → e.f = b → e.t = c → okT N m c = true → Tr N E m a c
theorem Tr.trans {N : List Nd} {E : List Ed} {m : Int} {a b c : Nat} (h : Tr N E m a b) (k : Tr N E m b c) : Tr N E m a c := by
  induction k with
  | one e b' he hf ht ok => exact .more b e b' h he hf ht ok
  | more b' e c' _ he hf ht ok ih => exact .more b' e c' ih he hf ht ok

/-- One edge, looked at. -/
def sE (N : List Nd) (m : Int) (v : Nat) (S : List Bool) (e : Ed) : List Bool :=
  if okT N m e.t.toNat = true ∧ (e.f = v ∨ S.getD e.f.toNat false = true) then S.set e.t.toNat true else S
/-- All edges, one behind the other. -/
def sR (N : List Nd) (E : List Ed) (m : Int) (v : Nat) (S : List Bool) : List Bool := E.foldl (sE N m v) S
/-- As many rounds. -/
def sK (N : List Nd) (E : List Ed) (m : Int) (v : Nat) : Nat → List Bool
  | 0 => List.replicate N.length false
  | k + 1 => sR N E m v (sK N E m v k)
def roundB (N : List Nd) (E : List Ed) (v : Nat) : Bool := (sK N E (lowP (nth N v)) v N.length).getD v false
/-- Edges lead from nodes to nodes. -/
def InN (N : List Nd) (E : List Ed) : Prop := ∀ e ∈ E, 0 ≤ e.f ∧ e.f < N.length ∧ 0 ≤ e.t ∧ e.t < N.length

theorem sE_len (N : List Nd) (m : Int) (v : Nat) (S : List Bool) (e : Ed) : (sE N m v S e).length = S.length := by
  unfold sE
  split <;> simp
theorem sF_len (N : List Nd) (m : Int) (v : Nat) : ∀ (E : List Ed) (S : List Bool), (E.foldl (sE N m v) S).length = S.length
  | [], S => rfl
  | e :: E, S => by rw [List.foldl_cons, sF_len N m v E, sE_len]
theorem sK_len (N : List Nd) (E : List Ed) (m : Int) (v k : Nat) : (sK N E m v k).length = N.length := by
  induction k with
  | zero => simp [sK]
  | succ k ih => unfold sK sR; rw [sF_len, ih]
theorem getD_set (S : List Bool) (i j : Nat) : (S.set i true).getD j false = if i = j ∧ j < S.length then true else S.getD j false := by
  simp only [List.getD_eq_getElem?_getD, List.getElem?_set]
  by_cases h : i = j
  · subst h
    by_cases hl : i < S.length
    · simp [hl]
    · simp [hl]
  · simp [h]
/-- What is found is so. -/
def Sound (N : List Nd) (E : List Ed) (m : Int) (v : Nat) (S : List Bool) : Prop := ∀ i, S.getD i false = true → Tr N E m v i
theorem sE_sound {N : List Nd} {E : List Ed} {m : Int} {v : Nat} {S : List Bool} {e : Ed} (hin : InN N E) (he : e ∈ E) (h : Sound N E m v S) : Sound N E m v (sE N m v S e) := by
  intro i hi
  obtain ⟨h0, _, h1, _⟩ := hin e he
  unfold sE at hi
  by_cases hc : okT N m e.t.toNat = true ∧ (e.f = v ∨ S.getD e.f.toNat false = true)
  · rw [if_pos hc, getD_set] at hi
    by_cases hj : e.t.toNat = i ∧ i < S.length
    · obtain ⟨rfl, _⟩ := hj
      rcases hc.2 with hf | hf
      · exact .one e _ he hf (by omega) hc.1
      · exact .more e.f.toNat e _ (h _ hf) he (by omega) (by omega) hc.1
    · rw [if_neg hj] at hi; exact h i hi
  · rw [if_neg hc] at hi; exact h i hi
theorem sF_sound {N : List Nd} {E : List Ed} {m : Int} {v : Nat} (hin : InN N E) : ∀ (F : List Ed) (S : List Bool), (∀ e ∈ F, e ∈ E) → Sound N E m v S → Sound N E m v (F.foldl (sE N m v) S)
  | [], S, _, h => h
  | e :: F, S, hF, h => by
    rw [List.foldl_cons]
    exact sF_sound hin F _ (fun x hx => hF x (List.mem_cons_of_mem _ hx)) (sE_sound hin (hF e List.mem_cons_self) h)
theorem sK_sound {N : List Nd} {E : List Ed} {m : Int} {v : Nat} (hin : InN N E) (k : Nat) : Sound N E m v (sK N E m v k) := by
  induction k with
  | zero =>
    intro i hi
    simp [sK, List.getD_eq_getElem?_getD, List.getElem?_replicate] at hi
    split at hi <;> simp at hi
  | succ k ih => exact sF_sound hin E _ (fun _ h => h) ih
/-- How many are found. -/
def cnt (S : List Bool) : Nat := S.count true
theorem set_same (S : List Bool) (i : Nat) (h : S.getD i false = true) : S.set i true = S := by
  refine List.ext_getElem (by simp) fun j h1 h2 => ?_
  rw [List.getElem_set]
  split
  · rename_i hij
    subst hij
    have : S[i]?.getD false = true := by rw [← List.getD_eq_getElem?_getD]; exact h
    rw [List.getElem?_eq_getElem h2] at this
    exact this.symm
  · rfl
theorem cnt_set : ∀ (S : List Bool) (i : Nat), i < S.length → S.getD i false = false → cnt (S.set i true) = cnt S + 1
  | [], i, h, _ => by simp at h
  | b :: S, 0, _, h => by
    have : b = false := by simpa using h
    subst this
    simp [cnt]
  | b :: S, i + 1, h, hf => by
    have := cnt_set S i (by simpa using h) (by simpa using hf)
    unfold cnt at this ⊢
    rw [List.set_cons_succ, List.count_cons, List.count_cons, this]
    omega
/-- An edge looked at finds one more, or nothing changes. -/
theorem sE_cnt (N : List Nd) (m : Int) (v : Nat) (S : List Bool) (e : Ed) (ht : e.t.toNat < S.length) : sE N m v S e = S ∨ cnt (sE N m v S e) = cnt S + 1 := by
  unfold sE
  by_cases hc : okT N m e.t.toNat = true ∧ (e.f = v ∨ S.getD e.f.toNat false = true)
  · rw [if_pos hc]
    cases hb : S.getD e.t.toNat false
    · right; exact cnt_set S _ ht hb
    · left; exact set_same S _ hb
  · rw [if_neg hc]; exact .inl rfl
theorem sF_cnt {N : List Nd} {m : Int} {v : Nat} : ∀ (F : List Ed) (S : List Bool), (∀ e ∈ F, e.t.toNat < S.length) → (cnt S ≤ cnt (F.foldl (sE N m v) S)) ∧ (cnt (F.foldl (sE N m v) S) = cnt S → F.foldl (sE N m v) S = S ∧ ∀ e ∈ F, sE N m v S e = S)
  | [], S, _ => ⟨Nat.le_refl _, fun _ => ⟨rfl, by simp⟩⟩
  | e :: F, S, h => by
    have h1 := sE_cnt N m v S e (h e List.mem_cons_self)
    have h2 := sF_cnt (N := N) (m := m) (v := v) F (sE N m v S e) (fun x hx => by rw [sE_len]; exact h x (List.mem_cons_of_mem _ hx))
    rw [List.foldl_cons]
    rcases h1 with h1 | h1
    · rw [h1] at h2 ⊢
      refine ⟨h2.1, fun hc => ⟨(h2.2 hc).1, ?_⟩⟩
      intro x hx
      rcases List.mem_cons.1 hx with rfl | hx
      · exact h1
      · exact (h2.2 hc).2 x hx
    · refine ⟨by omega, fun hc => ?_⟩
      have := h2.1
      omega
/-- Nothing more is to be found. -/
def Closed (N : List Nd) (E : List Ed) (m : Int) (v : Nat) (S : List Bool) : Prop := ∀ e ∈ E, sE N m v S e = S
theorem cnt_full (S : List Bool) (h : S.length ≤ cnt S) (i : Nat) (hi : i < S.length) : S.getD i false = true := by
  have h1 : cnt S = S.length := Nat.le_antisymm List.count_le_length h
  have h2 := List.count_eq_length.1 h1
  have h3 := h2 S[i] (List.getElem_mem hi)
  rw [List.getD_eq_getElem?_getD, List.getElem?_eq_getElem hi]
  exact h3.symm
theorem sK_closed {N : List Nd} {E : List Ed} {m : Int} {v : Nat} (hin : InN N E) (k : Nat) : Closed N E m v (sK N E m v k) ∨ k ≤ cnt (sK N E m v k) := by
  induction k with
  | zero => right; exact Nat.zero_le _
  | succ k ih =>
    have hT : ∀ e ∈ E, e.t.toNat < (sK N E m v k).length := fun e he => by
      rw [sK_len]
      have := hin e he
      omega
    have h1 := sF_cnt (N := N) (m := m) (v := v) E (sK N E m v k) hT
    rcases ih with hc | hc
    · left
      have : sK N E m v (k + 1) = sK N E m v k := by
        show E.foldl (sE N m v) (sK N E m v k) = _
        have key : ∀ (F : List Ed), (∀ e ∈ F, e ∈ E) → F.foldl (sE N m v) (sK N E m v k) = sK N E m v k := by
          intro F
          induction F with
          | nil => intro _; rfl
          | cons e F ihF =>
            intro hF
            rw [List.foldl_cons, hc e (hF e List.mem_cons_self)]
            exact ihF fun x hx => hF x (List.mem_cons_of_mem _ hx)
        exact key E fun _ h => h
      rw [this]; exact hc
    · by_cases he : cnt (sK N E m v (k + 1)) = cnt (sK N E m v k)
      · left
        obtain ⟨h2, h3⟩ := h1.2 he
        have : sK N E m v (k + 1) = sK N E m v k := h2
        rw [this]; exact h3
      · right
        have h2 : cnt (sK N E m v k) ≤ cnt (sK N E m v (k + 1)) := h1.1
        omega
theorem closed_all {N : List Nd} {E : List Ed} {m : Int} {v : Nat} {S : List Bool} (hin : InN N E) (hl : S.length = N.length) (hc : Closed N E m v S) {t : Nat} (h : Tr N E m v t) : S.getD t false = true := by
  have key : ∀ (e : Ed) (b : Nat), e ∈ E → (e.f = v ∨ S.getD e.f.toNat false = true) → e.t = b → okT N m b = true → S.getD b false = true := by
    intro e b he hf ht ok
    have hb : e.t.toNat = b := by omega
    have := hc e he
    unfold sE at this
    rw [hb, if_pos ⟨ok, hf⟩] at this
    rw [← this, getD_set]
    have h2 := hin e he
    rw [if_pos ⟨rfl, by rw [hl]; omega⟩]
  induction h with
  | one e b he hf ht ok => exact key e b he (.inl hf) ht ok
  | more b e c _ he hf ht ok ih => exact key e c he (.inr (by rw [hf]; simpa using ih)) ht ok
/-- What is found in as many rounds as there are nodes is just what there is a way to. -/
theorem sK_iff {N : List Nd} {E : List Ed} {m : Int} {v : Nat} (hin : InN N E) (t : Nat) (ht : t < N.length) : (sK N E m v N.length).getD t false = true ↔ Tr N E m v t := by
  constructor
  · exact fun h => sK_sound hin _ t h
  · intro h
    rcases sK_closed (m := m) (v := v) hin N.length with hc | hc
    · exact closed_all hin (sK_len N E m v _) hc h
    · exact cnt_full _ (by rw [sK_len]; exact hc) t (by rw [sK_len]; exact ht)
theorem roundB_iff {N : List Nd} {E : List Ed} {v : Nat} (hin : InN N E) (hv : v < N.length) : roundB N E v = true ↔ Tr N E (lowP (nth N v)) v v := sK_iff hin v hv

end Go.Proofs.YtehianjfpmbfpaaGreat
end

section
/-
  Summaries as plain data, for a program without times: whether one may be, what two do one behind the other, and whether one is at most another. No program is named here.
-/
namespace Go.Proofs.YtehianjfpmbfpaaGreat
set_option linter.unusedVariables false
set_option linter.unusedSimpArgs false

/-- What is at most another adds no more, wherever both keep. -/
theorem leS_add {s r : Sm} (h : leS s r = true) : (s.t ≤ 0 ∨ s.x ≤ r.x) ∧ (s.t ≤ 1 ∨ s.y ≤ r.y) ∧ (s.t ≤ 2 ∨ s.z ≤ r.z) := by
  simp only [leS, Bool.and_eq_true, Bool.or_eq_true, decide_eq_true_eq] at h
  obtain ⟨⟨⟨_, h1⟩, h2⟩, h3⟩ := h
  exact ⟨h1.imp id (·.2), h2.imp id (·.2), h3.imp id (·.2)⟩

end Go.Proofs.YtehianjfpmbfpaaGreat
end

section
/-
  Walks along edges of a graph that may run, as plain data: what such a walk does to times, step by step, is a summary; and a walk back to its beginning does something that is not at most nothing (P9.3). No program is named here.
-/
namespace Go.Proofs.YtehianjfpmbfpaaGreat
open Go.RowKit
set_option linter.unusedVariables false
set_option linter.unusedSimpArgs false

theorem depB_iff (d : Int) : depthB d = true ↔ 0 ≤ d ∧ d ≤ 3 := by simp [depthB]
/-- The depths of a node that may be. -/
structure Fit (n : Nd) : Prop where
  lo : 0 ≤ n.d
  hi : n.d ≤ 3
  enter : n.k = 8 → 0 < n.d
  leave : n.k = 9 → n.d < 3
  feed : n.k = 10 → 0 < n.d
theorem Fit.inD {n : Nd} (h : Fit n) : inDP n = (if n.k = 8 then n.d - 1 else if n.k = 9 then n.d + 1 else n.d) := by
  obtain ⟨h1, h2, h3, h4, h5⟩ := h
  unfold inDP
  rw [IntWalk.wrap64_in (n.d - 1) ⟨by omega, by omega⟩, IntWalk.wrap64_in (n.d + 1) ⟨by omega, by omega⟩]
theorem Fit.ins {n : Nd} (h : Fit n) : 0 ≤ inDP n ∧ inDP n ≤ 3 := by
  rw [h.inD]
  obtain ⟨h1, h2, h3, h4, h5⟩ := h
  repeat' split
  all_goals omega
theorem Fit.low {n : Nd} (h : Fit n) : 0 ≤ lowP n ∧ lowP n ≤ n.d ∧ lowP n ≤ inDP n ∧ (n.k = 10 → lowP n = n.d) := by
  have h1 := h.ins
  have h2 := h.inD
  have h3 := h.lo
  refine ⟨?_, ?_, ?_, ?_⟩
  · unfold lowP minI; split <;> omega
  · unfold lowP minI; split <;> omega
  · unfold lowP minI; split <;> omega
  · intro h4
    rw [h4] at h2
    simp at h2
    unfold lowP minI
    rw [h2]
    split <;> rfl
/-- What a node that has an input and an output does to times. -/
theorem innP_fit {n : Nd} (h : Fit n) (h1 : 2 ≤ n.k) (h2 : n.k ≤ 10) :
    innP n = ⟨inDP n, n.d, lowP n, 0, if n.k = 10 ∧ n.d = 1 then 1 else 0, if n.k = 10 ∧ n.d = 2 then 1 else 0, if n.k = 10 ∧ n.d = 3 then 1 else 0⟩ := by
  have hin := h.inD
  have hb := h.ins
  have hlo := h.lo
  have hhi := h.hi
  unfold innP
  by_cases h8 : n.k = 8
  · have hd := h.enter h8
    rw [if_pos h8] at hin ⊢
    have hl : lowP n = n.d - 1 := by unfold lowP minI; split <;> omega
    have h10 : ¬ n.k = 10 := by omega
    unfold enterS
    rw [if_pos ⟨(depB_iff _).2 hb, by omega⟩, hl, hin]
    simp [h10]
  by_cases h9 : n.k = 9
  · have hd := h.leave h9
    rw [if_neg h8, if_pos h9] at hin ⊢
    have hl : lowP n = n.d := by unfold lowP minI; split <;> omega
    have h10 : ¬ n.k = 10 := by omega
    unfold leaveS
    rw [if_pos ⟨(depB_iff _).2 hb, by omega⟩, hl, hin]
    simp [h10]
  rw [if_neg h8, if_neg h9] at hin
  have hl : lowP n = n.d := by unfold lowP minI; split <;> omega
  rw [if_neg h8, if_neg h9]
  by_cases h10 : n.k = 10
  · have hd := h.feed h10
    rw [if_pos h10]
    unfold feedS
    rw [if_pos ⟨(depB_iff _).2 ⟨hlo, hhi⟩, by omega⟩, hl, hin]
    simp [h10]
  · rw [if_neg h10, if_pos ⟨by omega, by omega⟩]
    unfold sameS
    rw [if_pos ((depB_iff _).2 ⟨hlo, hhi⟩), hl, hin]
    simp [h10]

/-- A graph that may run, as far as walks ask. -/
structure Acc (N : List Nd) (E : List Ed) : Prop where
  inN : InN N E
  fit : ∀ i, i < N.length → Fit (nth N i)
  dep : ∀ e ∈ E, (nth N e.f.toNat).d = inDP (nth N e.t.toNat)
  round : ∀ v, v < N.length → ¬ (nth N v).k = 10 → ¬ Tr N E (lowP (nth N v)) v v
/-- A walk from v: where it is, what it has done, the nodes that it came to, the last one first. -/
inductive Wk (N : List Nd) (E : List Ed) (v : Nat) : Nat → Sm → List Nat → Prop
  | start : Wk N E v v (sameS (nth N v).d) []
  | step (a : Nat) (s : Sm) (L : List Nat) (e : Ed) (b : Nat) : Wk N E v a s L → e ∈ E → e.f = a → e.t = b → 2 ≤ (nth N b).k → (nth N b).k ≤ 10 → Wk N E v b (rawS s (innP (nth N b))) (b :: L)
/-- What is said of the summary on the way. -/
structure Good (f t c : Int) (s : Sm) : Prop where
  f : s.f = f
  t : s.t = t
  k0 : 0 ≤ s.k
  kf : s.k ≤ s.f
  kt : s.k ≤ s.t
  ep : s.ep = 0
  x : 0 ≤ s.x ∧ s.x ≤ c ∧ (s.t ≤ 0 → s.x = 0)
  y : 0 ≤ s.y ∧ s.y ≤ c ∧ (s.t ≤ 1 → s.y = 0)
  z : 0 ≤ s.z ∧ s.z ≤ c ∧ (s.t ≤ 2 → s.z = 0)
theorem Good.may {f t c : Int} {s : Sm} (h : Good f t c s) (hf : 0 ≤ f ∧ f ≤ 3) (ht : 0 ≤ t ∧ t ≤ 3) (hc : c ≤ 1000) : mayS s = true := by
  obtain ⟨h1, h2, h3, h4, h5, h6, ⟨a1, a2, a3⟩, ⟨b1, b2, b3⟩, ⟨c1, c2, c3⟩⟩ := h
  rw [mayS_iff]
  refine ⟨⟨by omega, by omega, by omega, by omega⟩, ⟨h3, h4, h5⟩, ⟨by omega, by omega⟩, ⟨a1, fun _ => by omega, fun h => by have := a3 h; omega⟩, ⟨b1, fun _ => by omega, fun h => by have := b3 h; omega⟩, ⟨c1, fun _ => by omega, fun h => by have := c3 h; omega⟩⟩
theorem comp_good {i to keep add old c : Int} (h1 : 0 ≤ add) (h2 : add ≤ 1) (h3 : 0 ≤ old) (h4 : old ≤ c) (hc : 0 ≤ c) : 0 ≤ compI i to keep add old ∧ compI i to keep add old ≤ c + 1 ∧ (to ≤ i → compI i to keep add old = 0) := by
  unfold compI
  refine ⟨?_, ?_, ?_⟩
  · repeat' split
    all_goals omega
  · repeat' split
    all_goals omega
  · intro h
    rw [if_neg (by omega)]
theorem one_or (p : Prop) [Decidable p] : 0 ≤ (if p then (1 : Int) else 0) ∧ (if p then (1 : Int) else 0) ≤ 1 := by split <;> omega
theorem Good.step {f t c : Int} {s : Sm} {n : Nd} (h : Good f t c s) (hc : 0 ≤ c) (hn : Fit n) (h1 : 2 ≤ n.k) (h2 : n.k ≤ 10) (hd : t = inDP n) : Good f n.d (c + 1) (rawS s (innP n)) := by
  obtain ⟨g1, g2, g3, g4, g5, g6, ⟨a1, a2, a3⟩, ⟨b1, b2, b3⟩, ⟨c1, c2, c3⟩⟩ := h
  have hl := hn.low
  rw [innP_fit hn h1 h2]
  have o1 := one_or (n.k = 10 ∧ n.d = 1)
  have o2 := one_or (n.k = 10 ∧ n.d = 2)
  have o3 := one_or (n.k = 10 ∧ n.d = 3)
  have hk : minI s.k (lowP n) ≤ s.k ∧ minI s.k (lowP n) ≤ lowP n ∧ 0 ≤ minI s.k (lowP n) := by unfold minI; split <;> omega
  refine ⟨g1, rfl, hk.2.2, ?_, ?_, ?_, comp_good o1.1 o1.2 a1 a2 hc, comp_good o2.1 o2.2 b1 b2 hc, comp_good o3.1 o3.2 c1 c2 hc⟩
  · show minI s.k (lowP n) ≤ s.f
    omega
  · show minI s.k (lowP n) ≤ n.d
    omega
  · show s.ep + 0 = 0
    omega
theorem good_start {n : Nd} (h : Fit n) : Good n.d n.d 0 (sameS n.d) := by
  have := h.lo
  have := h.hi
  unfold sameS
  rw [if_pos ((depB_iff _).2 ⟨h.lo, h.hi⟩)]
  exact ⟨rfl, rfl, by simpa using h.lo, by simp, by simp, rfl, by simp, by simp, by simp⟩
/-- The summary on the way. -/
theorem Wk.good {N : List Nd} {E : List Ed} (hA : Acc N E) {v a : Nat} {s : Sm} {L : List Nat} (hv : v < N.length) (h : Wk N E v a s L) : a < N.length ∧ Good (nth N v).d (nth N a).d L.length s := by
  induction h with
  | start => exact ⟨hv, good_start (hA.fit v hv)⟩
  | step a s L e b _ he hf ht h1 h2 ih =>
    have hin := hA.inN e he
    have hb : b < N.length := by omega
    have hdep := hA.dep e he
    rw [show e.f.toNat = a by omega, show e.t.toNat = b by omega] at hdep
    refine ⟨hb, ?_⟩
    have := ih.2.step (by omega) (hA.fit b hb) h1 h2 hdep
    simpa using this
/-- P9.3: each step is one that may be done. -/
theorem Wk.may {N : List Nd} {E : List Ed} (hA : Acc N E) {v a : Nat} {s : Sm} {L : List Nat} (hv : v < N.length) (h : Wk N E v a s L) (hl : L.length < 1000) {e : Ed} {b : Nat} (he : e ∈ E) (hf : e.f = a) (ht : e.t = b) (h1 : 2 ≤ (nth N b).k) (h2 : (nth N b).k ≤ 10) :
    thenE s (innP (nth N b)) = 0 ∧ thenS s (innP (nth N b)) = rawS s (innP (nth N b)) := by
  obtain ⟨ha, hg⟩ := h.good hA hv
  have hfv := hA.fit v hv
  have hfa := hA.fit a ha
  have hw := (Wk.step a s L e b h he hf ht h1 h2).good hA hv
  have hfb := hA.fit b hw.1
  have hin := hfb.ins
  have hlo := hfb.low
  have hdep := hA.dep e he
  rw [show e.f.toNat = a by omega, show e.t.toNat = b by omega] at hdep
  have hr : mayS (innP (nth N b)) = true := by
    have hg2 : Good (inDP (nth N b)) (nth N b).d 1 (innP (nth N b)) := by
      rw [innP_fit hfb h1 h2]
      have o1 := one_or ((nth N b).k = 10 ∧ (nth N b).d = 1)
      have o2 := one_or ((nth N b).k = 10 ∧ (nth N b).d = 2)
      have o3 := one_or ((nth N b).k = 10 ∧ (nth N b).d = 3)
      refine ⟨rfl, rfl, hlo.1, hlo.2.2.1, hlo.2.1, rfl, ⟨o1.1, o1.2, fun h => ?_⟩, ⟨o2.1, o2.2, fun h => ?_⟩, ⟨o3.1, o3.2, fun h => ?_⟩⟩
      all_goals
        simp only at h ⊢
        rw [if_neg (by omega)]
    exact hg2.may hin ⟨hfb.lo, hfb.hi⟩ (by omega)
  have hfr : s.t = (innP (nth N b)).f := by rw [hg.t, innP_fit hfb h1 h2]; exact hdep
  refine thenE_mk (hg.may ⟨hfv.lo, hfv.hi⟩ ⟨hfa.lo, hfa.hi⟩ (by omega)) hr hfr (hw.2.may ⟨hfv.lo, hfv.hi⟩ ⟨hfb.lo, hfb.hi⟩ ?_)
  simp
  omega
/-- A Feedback of the depth m was passed, and behind it no node of a lesser low. -/
def Hot (N : List Nd) (m : Int) : List Nat → Prop
  | [] => False
  | b :: L => ((nth N b).k = 10 ∧ (nth N b).d = m) ∨ (Hot N m L ∧ m ≤ lowP (nth N b))
/-- The counter of depth m. -/
def adC (s : Sm) (m : Int) : Int := if m = 1 then s.x else if m = 2 then s.y else s.z
theorem comp_hot {i to keep add old : Int} (h1 : i < to) (h2 : i < keep) : compI i to keep add old = old + add := by
  unfold compI
  rw [if_pos h1, if_pos h2]
theorem Wk.hot {N : List Nd} {E : List Ed} (hA : Acc N E) {v a : Nat} {s : Sm} {L : List Nat} (hv : v < N.length) (h : Wk N E v a s L) {m : Int} (hm : m = 1 ∨ m = 2 ∨ m = 3) (hh : Hot N m L) : 1 ≤ adC s m := by
  induction h with
  | start => exact hh.elim
  | step a s L e b hw he hf ht h1 h2 ih =>
    have hg := (hw.good hA hv).2
    have hb := ((Wk.step a s L e b hw he hf ht h1 h2).good hA hv).1
    have hfb := hA.fit b hb
    have hlo := hfb.low
    have o1 := one_or ((nth N b).k = 10 ∧ (nth N b).d = 1)
    have o2 := one_or ((nth N b).k = 10 ∧ (nth N b).d = 2)
    have o3 := one_or ((nth N b).k = 10 ∧ (nth N b).d = 3)
    have gx := hg.x
    have gy := hg.y
    have gz := hg.z
    rw [innP_fit hfb h1 h2]
    have hlow : m ≤ lowP (nth N b) := by
      rcases hh with ⟨h3, h4⟩ | ⟨_, h3⟩
      · rw [hlo.2.2.2 h3, h4]; exact Int.le_refl _
      · exact h3
    have hold : (nth N b).k = 10 ∧ (nth N b).d = m ∨ 1 ≤ adC s m := by
      rcases hh with h3 | ⟨h3, _⟩
      · exact .inl h3
      · exact .inr (ih h3)
    rcases hm with rfl | rfl | rfl
    · show 1 ≤ compI 0 (nth N b).d (lowP (nth N b)) (if (nth N b).k = 10 ∧ (nth N b).d = 1 then 1 else 0) s.x
      rw [comp_hot (by omega) (by omega)]
      rcases hold with h3 | h3
      · rw [if_pos h3]; omega
      · have : 1 ≤ s.x := h3
        omega
    · show 1 ≤ compI 1 (nth N b).d (lowP (nth N b)) (if (nth N b).k = 10 ∧ (nth N b).d = 2 then 1 else 0) s.y
      rw [comp_hot (by omega) (by omega)]
      rcases hold with h3 | h3
      · rw [if_pos h3]; omega
      · have : 1 ≤ s.y := h3
        omega
    · show 1 ≤ compI 2 (nth N b).d (lowP (nth N b)) (if (nth N b).k = 10 ∧ (nth N b).d = 3 then 1 else 0) s.z
      rw [comp_hot (by omega) (by omega)]
      rcases hold with h3 | h3
      · rw [if_pos h3]; omega
      · have : 1 ≤ s.z := h3
        omega
theorem hot_of {N : List Nd} {m : Int} : ∀ {L : List Nat} {w : Nat}, w ∈ L → (nth N w).k = 10 → (nth N w).d = m → (∀ u ∈ L, m ≤ lowP (nth N u)) → Hot N m L
  | [], w, h, _, _, _ => by simp at h
  | b :: L, w, h, h1, h2, h3 => by
    rcases List.mem_cons.1 h with rfl | h
    · exact .inl ⟨h1, h2⟩
    · exact .inr ⟨hot_of h h1 h2 fun u hu => h3 u (List.mem_cons_of_mem _ hu), h3 b List.mem_cons_self⟩
/-- From the beginning there is a way to each node of a walk, and on to where it is. -/
theorem Wk.path {N : List Nd} {E : List Ed} {v a : Nat} {s : Sm} {L : List Nat} (h : Wk N E v a s L) {m : Int} (hok : ∀ x ∈ L, okT N m x = true) :
    (L = [] → a = v) ∧ (L ≠ [] → a ∈ L) ∧ ∀ x ∈ L, Tr N E m v x ∧ (x = a ∨ Tr N E m x a) := by
  induction h with
  | start => exact ⟨fun _ => rfl, fun h => absurd rfl h, by simp⟩
  | step a s L e b hw he hf ht h1 h2 ih =>
    obtain ⟨i1, i2, i3⟩ := ih fun x hx => hok x (List.mem_cons_of_mem _ hx)
    have hb := hok b List.mem_cons_self
    refine ⟨fun h => by simp at h, fun _ => List.mem_cons_self, fun x hx => ?_⟩
    rcases List.mem_cons.1 hx with rfl | hx
    · refine ⟨?_, .inl rfl⟩
      cases L with
      | nil =>
        have := i1 rfl
        subst this
        exact .one e _ he hf ht hb
      | cons c L => exact .more a e _ (i3 a (i2 (by simp))).1 he hf ht hb
    · obtain ⟨j1, j2⟩ := i3 x hx
      refine ⟨j1, .inr ?_⟩
      rcases j2 with rfl | j2
      · exact .one e _ he hf ht hb
      · exact .more a e _ j2 he hf ht hb
theorem low_min (N : List Nd) : ∀ (L : List Nat), L ≠ [] → ∃ w ∈ L, ∀ u ∈ L, lowP (nth N w) ≤ lowP (nth N u)
  | [], h => absurd rfl h
  | [b], _ => ⟨b, by simp, by simp⟩
  | b :: c :: L, _ => by
    obtain ⟨w, hw, hm⟩ := low_min N (c :: L) (by simp)
    by_cases h : lowP (nth N b) ≤ lowP (nth N w)
    · refine ⟨b, by simp, fun u hu => ?_⟩
      rcases List.mem_cons.1 hu with rfl | hu
      · exact Int.le_refl _
      · exact Int.le_trans h (hm u hu)
    · refine ⟨w, List.mem_cons_of_mem _ hw, fun u hu => ?_⟩
      rcases List.mem_cons.1 hu with rfl | hu
      · omega
      · exact hm u hu
theorem Wk.lt {N : List Nd} {E : List Ed} (hA : Acc N E) {v a : Nat} {s : Sm} {L : List Nat} (hv : v < N.length) (h : Wk N E v a s L) : ∀ x ∈ L, x < N.length := by
  induction h with
  | start => simp
  | step a s L e b hw he hf ht h1 h2 ih =>
    intro x hx
    rcases List.mem_cons.1 hx with rfl | hx
    · exact ((Wk.step a s L e _ hw he hf ht h1 h2).good hA hv).1
    · exact ih x hx
/-- P9.3: a walk back to its beginning does what is not at most nothing. -/
theorem Wk.back {N : List Nd} {E : List Ed} (hA : Acc N E) {v : Nat} {s : Sm} {L : List Nat} (hv : v < N.length) (h : Wk N E v v s L) (hL : L ≠ []) : leS s (sameS (nth N v).d) = false := by
  have hg := (h.good hA hv).2
  have hlt := h.lt hA hv
  have hfv := hA.fit v hv
  have hlv := hfv.low
  obtain ⟨w, hw, hmin⟩ := low_min N L hL
  cases hle : leS s (sameS (nth N v).d)
  · rfl
  exfalso
  by_cases hF : ∃ u ∈ L, (nth N u).k = 10 ∧ (nth N u).d = lowP (nth N w)
  · obtain ⟨u, hu, hk, hd⟩ := hF
    have hfu := hA.fit u (hlt u hu)
    have h1 := hfu.feed hk
    have h2 := hfu.hi
    have hot := hot_of hu hk hd hmin
    have hmem : v ∈ L := by
      cases h with
      | start => exact absurd rfl hL
      | step a s L e b hw he hf ht h1 h2 => exact List.mem_cons_self
    have hvm := hmin v hmem
    have hadd := leS_add hle
    have hst := hg.t
    have hz : (sameS (nth N v).d).x = 0 ∧ (sameS (nth N v).d).y = 0 ∧ (sameS (nth N v).d).z = 0 := by unfold sameS; split <;> exact ⟨rfl, rfl, rfl⟩
    rw [hz.1, hz.2.1, hz.2.2] at hadd
    have hmc : lowP (nth N w) = 1 ∨ lowP (nth N w) = 2 ∨ lowP (nth N w) = 3 := by omega
    have hh := h.hot hA hv hmc hot
    rcases hmc with e | e | e <;> rw [e] at hh
    · have : 1 ≤ s.x := hh
      omega
    · have : 1 ≤ s.y := hh
      omega
    · have : 1 ≤ s.z := hh
      omega
  · have hok : ∀ x ∈ L, okT N (lowP (nth N w)) x = true := fun x hx => (okT_iff _ _ _).2 ⟨hmin x hx, fun hc => hF ⟨x, hx, hc⟩⟩
    obtain ⟨_, _, h3⟩ := h.path hok
    obtain ⟨t1, t2⟩ := h3 w hw
    have hk : ¬ (nth N w).k = 10 := fun hk => hF ⟨w, hw, hk, ((hA.fit w (hlt w hw)).low.2.2.2 hk).symm⟩
    refine hA.round w (hlt w hw) hk ?_
    rcases t2 with rfl | t2
    · exact t1
    · exact t2.trans t1

end Go.Proofs.YtehianjfpmbfpaaGreat
end

section
/-
  Which numbers may be of a Map, a Filter, a Reduce, as plain data (FPl's, for a program without bags). No program is named here.
-/
namespace Go.Proofs.YtehianjfpmbfpaaGreat
set_option linter.unusedVariables false

def mayMapB (a b : Int) : Bool := decide (1 ≤ a) && decide (a ≤ 5) && decide (-1000 ≤ b) && decide (b ≤ 1000) && (decide (a ≠ 3) || decide (1 ≤ b))
def mayFilB (a b : Int) : Bool := decide (1 ≤ a) && decide (a ≤ 4) && decide (-1000 ≤ b) && decide (b ≤ 1000) && (decide (a ≠ 3) || decide (1 ≤ b))
def mayRedB (a : Int) : Bool := decide (1 ≤ a) && decide (a ≤ 4)

end Go.Proofs.YtehianjfpmbfpaaGreat
end

section
/-
  Windows of epochs as plain data: which may be, their first and last epochs, which ones have an epoch, in order. No program is named here.
-/
namespace Go.Proofs.YtehianjfpmbfpaaGreat
set_option linter.unusedVariables false

def mayW (a b : Int) : Bool := decide (1 ≤ a) && decide (a ≤ 20) && decide (1 ≤ b) && decide (b ≤ a)
theorem mayW_iff (a b : Int) : mayW a b = true ↔ 1 ≤ a ∧ a ≤ 20 ∧ 1 ≤ b ∧ b ≤ a := by simp [mayW, and_assoc]
def inE (e : Int) : Bool := decide (0 ≤ e) && decide (e ≤ 1048576)
theorem inE_iff (e : Int) : inE e = true ↔ 0 ≤ e ∧ e ≤ 1048576 := by simp [inE]
def firstW (b k : Int) : Int := if 1 ≤ b ∧ b ≤ 20 ∧ 0 ≤ k ∧ k ≤ 1048576 then b * k else -1
def lastW (a b k : Int) : Int := if mayW a b = true ∧ 0 ≤ k ∧ k ≤ 1048576 then b * k + a - 1 else -1
/-- The first and the last window that has the epoch. -/
def loW (a b e : Int) : Int := if e - a + 1 ≤ 0 then 0 else (e - a + b) / b
def hiW (b e : Int) : Int := e / b
theorem le_hiW {b e k : Int} (hb : 1 ≤ b) : k ≤ hiW b e ↔ b * k ≤ e := by
  unfold hiW
  rw [Int.le_ediv_iff_mul_le (by omega), Int.mul_comm]
theorem loW_le {a b e k : Int} (ha : 1 ≤ a) (hb : 1 ≤ b) (hk : 0 ≤ k) : loW a b e ≤ k ↔ e ≤ b * k + a - 1 := by
  unfold loW
  split
  · have := Int.mul_nonneg (show 0 ≤ b by omega) hk
    constructor <;> intro _ <;> omega
  · have h1 : (e - a + b) / b ≤ k ↔ (e - a + b) / b < k + 1 := by omega
    rw [h1, Int.ediv_lt_iff_lt_mul (by omega), Int.add_mul, Int.one_mul, Int.mul_comm k b]
    omega
theorem loW_nonneg {a b e : Int} (hb : 1 ≤ b) (hba : b ≤ a) : 0 ≤ loW a b e := by
  unfold loW
  split
  · exact Int.le_refl _
  · exact Int.ediv_nonneg (by omega) (by omega)
theorem hiW_nonneg {b e : Int} (hb : 1 ≤ b) (he : 0 ≤ e) : 0 ≤ hiW b e := Int.ediv_nonneg he (by omega)
theorem hiW_in {b e : Int} (hb : 1 ≤ b) : b * hiW b e ≤ e ∧ e < b * hiW b e + b := by
  unfold hiW
  exact ⟨Int.mul_ediv_self_le (by omega), Int.lt_mul_ediv_self_add (by omega)⟩
theorem hiW_le {b e : Int} (hb : 1 ≤ b) (he : 0 ≤ e) : hiW b e ≤ e := by
  have h1 := hiW_in (e := e) hb
  have h2 := hiW_nonneg hb he
  have h3 : 0 ≤ (b - 1) * hiW b e := Int.mul_nonneg (by omega) h2
  rw [Int.sub_mul, Int.one_mul] at h3
  omega
/-- The epoch's last window has it. -/
theorem lo_le_hi {a b e : Int} (ha : 1 ≤ a) (hb : 1 ≤ b) (hba : b ≤ a) (he : 0 ≤ e) : loW a b e ≤ hiW b e := by
  rw [loW_le ha hb (hiW_nonneg hb he)]
  have := hiW_in (e := e) hb
  omega
/-- How many windows have it. -/
def manyW (a b e : Int) : Nat := if mayW a b = true ∧ inE e = true then (hiW b e - loW a b e + 1).toNat else 0
/-- The windows that have the epoch. -/
def ofW (a b e : Int) : List Int := (List.range (manyW a b e)).map fun (i : Nat) => loW a b e + (i : Int)
theorem ofW_len (a b e : Int) : (ofW a b e).length = manyW a b e := by simp [ofW]
theorem ofW_get (a b e : Int) (i : Nat) (h : i < (ofW a b e).length) : (ofW a b e)[i] = loW a b e + (i : Int) := by simp [ofW]
theorem ofW_none {a b e : Int} (h : ¬ (mayW a b = true ∧ inE e = true)) : ofW a b e = [] := by
  unfold ofW manyW
  rw [if_neg h]
  rfl
theorem ofW_mem {a b e : Int} (h : mayW a b = true) (he : inE e = true) (k : Int) : k ∈ ofW a b e ↔ 0 ≤ k ∧ b * k ≤ e ∧ e ≤ b * k + a - 1 := by
  obtain ⟨h1, h2, h3, h4⟩ := (mayW_iff a b).1 h
  obtain ⟨e1, e2⟩ := (inE_iff e).1 he
  have hlo := loW_nonneg (e := e) h3 h4
  have hhi := lo_le_hi h1 h3 h4 e1
  unfold ofW manyW
  rw [if_pos ⟨h, he⟩, List.mem_map]
  constructor
  · rintro ⟨i, hi, rfl⟩
    have hi' := List.mem_range.1 hi
    have hk : 0 ≤ loW a b e + (i : Int) := by omega
    exact ⟨hk, (le_hiW h3).1 (by omega), (loW_le h1 h3 hk).1 (by omega)⟩
  · rintro ⟨hk, k1, k2⟩
    have k1' := (le_hiW h3).2 k1
    have k2' := (loW_le h1 h3 hk).2 k2
    exact ⟨(k - loW a b e).toNat, List.mem_range.2 (by omega), by omega⟩
theorem manyW_pos {a b e : Int} (h : mayW a b = true) (he : inE e = true) : 1 ≤ manyW a b e ∧ ((manyW a b e : Nat) : Int) = hiW b e - loW a b e + 1 := by
  obtain ⟨h1, h2, h3, h4⟩ := (mayW_iff a b).1 h
  obtain ⟨e1, e2⟩ := (inE_iff e).1 he
  have hhi := lo_le_hi h1 h3 h4 e1
  unfold manyW
  rw [if_pos ⟨h, he⟩]
  omega
/-- Not more than a by b, rounded up. -/
theorem manyW_le {a b e : Int} (h : mayW a b = true) (he : inE e = true) : ((manyW a b e : Nat) : Int) ≤ (a + b - 1) / b := by
  obtain ⟨h1, h2, h3, h4⟩ := (mayW_iff a b).1 h
  obtain ⟨e1, e2⟩ := (inE_iff e).1 he
  have hm := manyW_pos h he
  have hlo := loW_nonneg (e := e) h3 h4
  rw [Int.le_ediv_iff_mul_le (by omega), hm.2, Int.mul_comm]
  have k1 := (loW_le h1 h3 hlo).1 (Int.le_refl (loW a b e))
  have k2 := hiW_in (e := e) h3
  rw [Int.mul_add, Int.mul_sub, Int.mul_one]
  omega
theorem manyW_one {a e : Int} (h : mayW a a = true) (he : inE e = true) : manyW a a e = 1 := by
  have h1 := manyW_le h he
  have h2 := manyW_pos h he
  obtain ⟨a1, a2, _, _⟩ := (mayW_iff a a).1 h
  have h3 : (a + a - 1) / a < 2 := by rw [Int.ediv_lt_iff_lt_mul (by omega)]; omega
  omega
/-- A step further. -/
theorem hiW_step {b e : Int} (hb : 1 ≤ b) : hiW b (e + b) = hiW b e + 1 := by
  unfold hiW
  rw [Int.add_ediv_of_dvd_right (Int.dvd_refl b), Int.ediv_self (by omega)]
theorem loW_step {a b e : Int} (ha : 1 ≤ a) (hb : 1 ≤ b) (hba : b ≤ a) (he : 0 ≤ e) : (loW a b (e + b) = loW a b e + 1) ∨ (loW a b (e + b) = 0 ∧ loW a b e = 0) := by
  have hlo := loW_nonneg (e := e) hb hba
  have hlo' := loW_nonneg (e := e + b) hb hba
  by_cases h : e + b - a + 1 ≤ 0
  · right
    unfold loW
    rw [if_pos h, if_pos (by omega)]
    exact ⟨rfl, rfl⟩
  · left
    have q1 : loW a b (e + b) ≤ loW a b e + 1 := by
      rw [loW_le ha hb (by omega), Int.mul_add, Int.mul_one]
      have := (loW_le ha hb hlo).1 (Int.le_refl (loW a b e))
      omega
    have q3 : 1 ≤ loW a b (e + b) := by
      rcases Int.lt_or_le (loW a b (e + b)) 1 with x | x
      · have h0 : loW a b (e + b) ≤ 0 := by omega
        rw [loW_le ha hb (Int.le_refl 0), Int.mul_zero] at h0
        omega
      · exact x
    have q2 : loW a b e ≤ loW a b (e + b) - 1 := by
      rw [loW_le ha hb (by omega), Int.mul_sub, Int.mul_one]
      have := (loW_le ha hb hlo').1 (Int.le_refl (loW a b (e + b)))
      omega
    omega

end Go.Proofs.YtehianjfpmbfpaaGreat
end

section
/-
  Which graphs may run, as plain data: whether a node may be, what is the first thing that is wrong with a graph; and what follows: of a graph that is accepted, with a Capture more, without an edge, with one twice, with its edges turned about, with a node spoiled. No program is named here.
-/
namespace Go.Proofs.YtehianjfpmbfpaaGreat
open Go.RowKit
set_option linter.unusedVariables false
set_option linter.unusedSimpArgs false

/-- P9.1. -/
def nodeB (n : Nd) : Bool :=
  depthB n.d &&
  if n.k = 1 ∨ n.k = 11 then decide (n.a = 0) && decide (n.b = 0) && decide (n.d = 0)
  else if n.k = 2 then mayMapB n.a n.b
  else if n.k = 3 then mayFilB n.a n.b
  else if n.k = 4 ∨ n.k = 5 then decide (n.a = 0) && decide (n.b = 0)
  else if n.k = 6 then mayRedB n.a && decide (n.b = 0)
  else if n.k = 7 then mayW n.a n.b && decide (n.d = 0)
  else if n.k = 8 then decide (n.a = 0) && decide (n.b = 0) && decide (0 < n.d)
  else if n.k = 9 then decide (n.a = 0) && decide (n.b = 0) && decide (n.d < 3)
  else if n.k = 10 then decide (0 < n.d) && decide (1 ≤ n.a) && decide (n.a ≤ 6) && decide (n.b = 0)
  else false
theorem nodeB_fit {n : Nd} (h : nodeB n = true) : Fit n := by
  unfold nodeB at h
  rw [Bool.and_eq_true, depB_iff] at h
  obtain ⟨⟨h1, h2⟩, h3⟩ := h
  refine ⟨h1, h2, fun hk => ?_, fun hk => ?_, fun hk => ?_⟩
  all_goals
    rw [hk] at h3
    simp at h3
    omega
theorem nodeB_kind {n : Nd} (h : nodeB n = true) : 1 ≤ n.k ∧ n.k ≤ 11 := by
  by_cases hk : 1 ≤ n.k ∧ n.k ≤ 11
  · exact hk
  · unfold nodeB at h
    rw [if_neg (by omega), if_neg (by omega), if_neg (by omega), if_neg (by omega), if_neg (by omega), if_neg (by omega), if_neg (by omega), if_neg (by omega), if_neg (by omega)] at h
    simp at h
/-- An edge is from an output to an input. -/
def edgeB (N : List Nd) (e : Ed) : Bool := isP N ⟨e.f, -1⟩ && isP N ⟨e.t, e.p⟩ && decide (e.p ≠ -1)
def depE (N : List Nd) (e : Ed) : Bool := decide ((nth N e.f.toNat).d = inDP (nth N e.t.toNat))
/-- An input has just one edge. -/
def portOk (E : List Ed) (l : Lc) : Bool := decide (l.p = -1) || decide ((prevP E l).length = 1)
/-- What is routed by keys comes from an Exchange. -/
def routeOk (N : List Nd) (E : List Ed) (l : Lc) : Bool :=
  decide (l.p = -1) || !(decide ((nth N l.n.toNat).k = 6) || decide ((nth N l.n.toNat).k = 7)) || (prevP E l).all fun j => decide ((nth N j.toNat).k = 5)
def cycB (N : List Nd) (E : List Ed) (v : Nat) : Bool := decide (¬ (nth N v).k = 10) && roundB N E v
/-- P9.2: the first thing that is wrong. -/
def errG (N : List Nd) (E : List Ed) : Int :=
  if ¬ (1 ≤ N.length ∧ N.length ≤ 12 ∧ E.length ≤ 24) then 3
  else if ¬ N.all nodeB = true then 10
  else if ¬ E.all (edgeB N) = true then 11
  else if ¬ E.all (depE N) = true then 12
  else if ¬ (locs N).all (portOk E) = true then 13
  else if ¬ (locs N).all (routeOk N E) = true then 15
  else if (List.range N.length).any (cycB N E) = true then 14 else 0
/-- Nothing is wrong. -/
structure AccG (N : List Nd) (E : List Ed) : Prop where
  big : 1 ≤ N.length ∧ N.length ≤ 12 ∧ E.length ≤ 24
  nodes : N.all nodeB = true
  edges : E.all (edgeB N) = true
  deps : E.all (depE N) = true
  ports : (locs N).all (portOk E) = true
  routes : (locs N).all (routeOk N E) = true
  cyc : ¬ (List.range N.length).any (cycB N E) = true
theorem errG_zero {N : List Nd} {E : List Ed} : errG N E = 0 ↔ AccG N E := by
  constructor
  · intro h
    unfold errG at h
    by_cases h1 : 1 ≤ N.length ∧ N.length ≤ 12 ∧ E.length ≤ 24
    · rw [if_neg (fun x => x h1)] at h
      by_cases h2 : N.all nodeB = true
      · rw [if_neg (fun x => x h2)] at h
        by_cases h3 : E.all (edgeB N) = true
        · rw [if_neg (fun x => x h3)] at h
          by_cases h4 : E.all (depE N) = true
          · rw [if_neg (fun x => x h4)] at h
            by_cases h5 : (locs N).all (portOk E) = true
            · rw [if_neg (fun x => x h5)] at h
              by_cases h6 : (locs N).all (routeOk N E) = true
              · rw [if_neg (fun x => x h6)] at h
                by_cases h7 : (List.range N.length).any (cycB N E) = true
                · rw [if_pos h7] at h; cases h
                · exact ⟨h1, h2, h3, h4, h5, h6, h7⟩
              · rw [if_pos h6] at h; cases h
            · rw [if_pos h5] at h; cases h
          · rw [if_pos h4] at h; cases h
        · rw [if_pos h3] at h; cases h
      · rw [if_pos h2] at h; cases h
    · rw [if_pos h1] at h; cases h
  · rintro ⟨h1, h2, h3, h4, h5, h6, h7⟩
    unfold errG
    rw [if_neg (fun x => x h1), if_neg (fun x => x h2), if_neg (fun x => x h3), if_neg (fun x => x h4), if_neg (fun x => x h5), if_neg (fun x => x h6), if_neg h7]
/-- All stands but an input's edges. -/
theorem errG_port {N : List Nd} {E : List Ed} (h1 : 1 ≤ N.length ∧ N.length ≤ 12 ∧ E.length ≤ 24) (h2 : N.all nodeB = true) (h3 : E.all (edgeB N) = true) (h4 : E.all (depE N) = true) (h5 : ¬ (locs N).all (portOk E) = true) : errG N E = 13 := by
  unfold errG
  rw [if_neg (fun x => x h1), if_neg (fun x => x h2), if_neg (fun x => x h3), if_neg (fun x => x h4), if_pos h5]
theorem errG_node {N : List Nd} {E : List Ed} (h1 : 1 ≤ N.length ∧ N.length ≤ 12 ∧ E.length ≤ 24) (h2 : ¬ N.all nodeB = true) : errG N E = 10 := by
  unfold errG
  rw [if_neg (fun x => x h1), if_pos h2]
theorem edge_is {N : List Nd} {e : Ed} (h : edgeB N e = true) : (0 ≤ e.f ∧ e.f < N.length ∧ hasP (nth N e.f.toNat).k = true) ∧ (0 ≤ e.t ∧ e.t < N.length ∧ portB (nth N e.t.toNat).k e.p = true) ∧ ¬ e.p = -1 := by
  unfold edgeB isP at h
  simp only [Bool.and_eq_true, decide_eq_true_eq] at h
  obtain ⟨⟨⟨⟨h1, h2⟩, h3⟩, ⟨h4, h5⟩, h6⟩, h7⟩ := h
  unfold portB at h3
  rw [if_pos rfl] at h3
  exact ⟨⟨h1, h2, h3⟩, ⟨h4, h5, h6⟩, h7⟩
theorem AccG.edge {N : List Nd} {E : List Ed} (h : AccG N E) {e : Ed} (he : e ∈ E) : edgeB N e = true := List.all_eq_true.1 h.edges e he
theorem AccG.inN {N : List Nd} {E : List Ed} (h : AccG N E) : InN N E := fun e he => by
  have := edge_is (h.edge he)
  exact ⟨this.1.1, this.1.2.1, this.2.1.1, this.2.1.2.1⟩
theorem nth_mem {N : List Nd} {i : Nat} (h : i < N.length) : nth N i ∈ N := by rw [nth_get N i h]; exact List.getElem_mem h
theorem AccG.node {N : List Nd} {E : List Ed} (h : AccG N E) {i : Nat} (hi : i < N.length) : nodeB (nth N i) = true := List.all_eq_true.1 h.nodes _ (nth_mem hi)
theorem AccG.noRound {N : List Nd} {E : List Ed} (h : AccG N E) {v : Nat} (hv : v < N.length) (hk : ¬ (nth N v).k = 10) : roundB N E v = false := by
  cases hr : roundB N E v
  · rfl
  · exact absurd (List.any_eq_true.2 ⟨v, List.mem_range.2 hv, by simp [cycB, hk, hr]⟩) h.cyc
/-- What walks ask. -/
theorem AccG.acc {N : List Nd} {E : List Ed} (h : AccG N E) : Acc N E where
  inN := h.inN
  fit := fun i hi => nodeB_fit (h.node hi)
  dep := fun e he => of_decide_eq_true (List.all_eq_true.1 h.deps e he)
  round := fun v hv hk ht => by
    have := (roundB_iff h.inN hv).2 ht
    rw [h.noRound hv hk] at this
    cases this
/-- A node that an edge leads to has an input; if it has an output too, it does something to times. -/
theorem AccG.mid {N : List Nd} {E : List Ed} (h : AccG N E) {e : Ed} (he : e ∈ E) (ho : hasP (nth N e.t.toNat).k = true) : 2 ≤ (nth N e.t.toNat).k ∧ (nth N e.t.toNat).k ≤ 10 := by
  obtain ⟨_, ⟨_, _, h1⟩, h2⟩ := edge_is (h.edge he)
  simp only [hasP, Bool.and_eq_true, decide_eq_true_eq] at ho
  unfold portB at h1
  rw [if_neg h2] at h1
  simp only [Bool.and_eq_true, decide_eq_true_eq] at h1
  refine ⟨?_, ho.2⟩
  unfold insP at h1
  split at h1
  · omega
  · split at h1
    · omega
    · omega

/-! ## The edges turned about -/
theorem Tr.sub {N : List Nd} {E F : List Ed} {m : Int} {a b : Nat} (hs : ∀ e ∈ E, e ∈ F) (h : Tr N E m a b) : Tr N F m a b := by
  induction h with
  | one e b he hf ht ok => exact .one e b (hs e he) hf ht ok
  | more b e c _ he hf ht ok ih => exact .more b e c ih (hs e he) hf ht ok
theorem prev_rev (E : List Ed) (l : Lc) : prevP E.reverse l = (prevP E l).reverse := by
  unfold prevP
  rw [List.filter_reverse, List.map_reverse]
theorem AccG.rev {N : List Nd} {E : List Ed} (h : AccG N E) : AccG N E.reverse where
  big := by simpa using h.big
  nodes := h.nodes
  edges := by rw [List.all_reverse]; exact h.edges
  deps := by rw [List.all_reverse]; exact h.deps
  ports := by
    refine List.all_eq_true.2 fun l hl => ?_
    have := List.all_eq_true.1 h.ports l hl
    unfold portOk at this ⊢
    rw [prev_rev, List.length_reverse]; exact this
  routes := by
    refine List.all_eq_true.2 fun l hl => ?_
    have := List.all_eq_true.1 h.routes l hl
    unfold routeOk at this ⊢
    rw [prev_rev, List.all_reverse]; exact this
  cyc := by
    intro hc
    obtain ⟨v, hv, hb⟩ := List.any_eq_true.1 hc
    have hvn := List.mem_range.1 hv
    simp only [cycB, Bool.and_eq_true, decide_eq_true_eq] at hb
    have hin : InN N E.reverse := fun e he => h.inN e (List.mem_reverse.1 he)
    have ht := (roundB_iff hin hvn).1 hb.2
    exact h.acc.round v hvn hb.1 (ht.sub fun e he => List.mem_reverse.1 he)

/-! ## An edge less, and one twice -/
theorem prev_app (E F : List Ed) (l : Lc) : prevP (E ++ F) l = prevP E l ++ prevP F l := by simp [prevP]
theorem prev_cons_self (e : Ed) (F : List Ed) : prevP (e :: F) ⟨e.t, e.p⟩ = e.f :: prevP F ⟨e.t, e.p⟩ := by simp [prevP]
theorem AccG.place {N : List Nd} {E : List Ed} (h : AccG N E) {e : Ed} (he : e ∈ E) : (⟨e.t, e.p⟩ : Lc) ∈ locs N ∧ (prevP E ⟨e.t, e.p⟩).length = 1 ∧ ¬ e.p = -1 := by
  have h1 := edge_is (h.edge he)
  have hm : (⟨e.t, e.p⟩ : Lc) ∈ locs N := by
    rw [mem_locs]
    unfold isP
    simp [h1.2.1]
  have := List.all_eq_true.1 h.ports _ hm
  simp only [portOk, Bool.or_eq_true, decide_eq_true_eq] at this
  exact ⟨hm, this.resolve_left h1.2.2, h1.2.2⟩
theorem not_port {N : List Nd} {E : List Ed} {l : Lc} (hm : l ∈ locs N) (hp : ¬ l.p = -1) (hl : ¬ (prevP E l).length = 1) : ¬ (locs N).all (portOk E) = true := by
  intro h
  have := List.all_eq_true.1 h l hm
  simp only [portOk, Bool.or_eq_true, decide_eq_true_eq] at this
  rcases this with h1 | h1
  · exact hp h1
  · exact hl h1
theorem AccG.less {N : List Nd} {E : List Ed} (h : AccG N E) (i : Nat) (hi : i < E.length) : errG N (E.take i ++ E.drop (i + 1)) = 13 := by
  have hE : E = E.take i ++ E[i] :: E.drop (i + 1) := by
    have := List.take_append_drop i E
    rw [List.drop_eq_getElem_cons hi] at this
    exact this.symm
  obtain ⟨hm, hl, hp⟩ := h.place (List.getElem_mem hi)
  have hsub : ∀ e ∈ E.take i ++ E.drop (i + 1), e ∈ E := by
    intro e he
    rcases List.mem_append.1 he with he | he
    · exact List.mem_of_mem_take he
    · exact List.mem_of_mem_drop he
  refine errG_port ?_ h.nodes (List.all_eq_true.2 fun e he => List.all_eq_true.1 h.edges e (hsub e he)) (List.all_eq_true.2 fun e he => List.all_eq_true.1 h.deps e (hsub e he)) (not_port hm hp ?_)
  · have := h.big
    refine ⟨this.1, this.2.1, ?_⟩
    rw [List.length_append, List.length_take, List.length_drop]
    omega
  · have h1 : prevP E ⟨E[i].t, E[i].p⟩ = prevP (E.take i ++ E[i] :: E.drop (i + 1)) ⟨E[i].t, E[i].p⟩ := congrArg (fun F => prevP F ⟨E[i].t, E[i].p⟩) hE
    rw [h1, prev_app, prev_cons_self, List.length_append, List.length_cons] at hl
    rw [prev_app, List.length_append]
    omega
theorem AccG.twice {N : List Nd} {E : List Ed} (h : AccG N E) (i : Nat) (hi : i < E.length) (hb : E.length < 24) : errG N (E ++ [E[i]]) = 13 := by
  obtain ⟨hm, hl, hp⟩ := h.place (List.getElem_mem hi)
  have hsub : ∀ e ∈ E ++ [E[i]], e ∈ E := by
    intro e he
    rcases List.mem_append.1 he with he | he
    · exact he
    · rw [List.mem_singleton.1 he]; exact List.getElem_mem hi
  refine errG_port ?_ h.nodes (List.all_eq_true.2 fun e he => List.all_eq_true.1 h.edges e (hsub e he)) (List.all_eq_true.2 fun e he => List.all_eq_true.1 h.deps e (hsub e he)) (not_port hm hp ?_)
  · have := h.big
    refine ⟨this.1, this.2.1, ?_⟩
    simp
    omega
  · rw [prev_app, List.length_append, prev_cons_self, List.length_cons]
    omega

/-! ## A node spoiled -/
theorem bad_kind (n : Nd) : nodeB ⟨12, n.a, n.b, n.d⟩ = false := by simp [nodeB]
theorem bad_depth (n : Nd) : nodeB ⟨n.k, n.a, n.b, 4⟩ = false := by simp [nodeB, depthB]
theorem bad_a (n : Nd) : nodeB ⟨n.k, 5000, n.b, n.d⟩ = false := by
  unfold nodeB
  simp only
  repeat' split
  all_goals simp [mayMapB, mayFilB, mayRedB, mayW]
theorem bad_b (n : Nd) : nodeB ⟨n.k, n.a, 5000, n.d⟩ = false := by
  unfold nodeB
  simp only
  repeat' split
  all_goals simp [mayMapB, mayFilB, mayRedB, mayW]
  all_goals omega
theorem AccG.spoil {N : List Nd} {E : List Ed} (h : AccG N E) (i : Nat) (hi : i < N.length) (x : Nd) (hx : nodeB x = false) : errG (N.set i x) E = 10 := by
  refine errG_node (by simpa using h.big) fun hc => ?_
  have := List.all_eq_true.1 hc x (List.mem_set hi x)
  rw [hx] at this
  cases this

end Go.Proofs.YtehianjfpmbfpaaGreat
end
