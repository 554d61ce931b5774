/-
  Walks along edges of a graph that may run, as plain data: what such a walk does to times, step by step, is a summary; and a walk back to its beginning does something that is not at most nothing (P9.3). No program is named here.
-/
import Derived.Test.YtehianjfpmbfpaaGreatVTr
import Derived.Test.YtehianjfpmbfpaaGreatSPl
namespace Go.Proofs.YtehianjfpmbfpaaGreat
open Go.RowKit
set_option linter.unusedVariables false
set_option linter.unusedSimpArgs false

theorem depB_iff (d : Int) : depthB d = true ↔ 0 ≤ d ∧ d ≤ 3 := by simp [depthB]
/-- The depths of a node that may be. -/
structure Fit (n : Nd) : Prop where
  lo : 0 ≤ n.d
  hi : n.d ≤ 3
  enter : n.k = 8 → 0 < n.d
  leave : n.k = 9 → n.d < 3
  feed : n.k = 10 → 0 < n.d
theorem Fit.inD {n : Nd} (h : Fit n) : inDP n = (if n.k = 8 then n.d - 1 else if n.k = 9 then n.d + 1 else n.d) := by
  obtain ⟨h1, h2, h3, h4, h5⟩ := h
  unfold inDP
  rw [IntWalk.wrap64_in (n.d - 1) ⟨by omega, by omega⟩, IntWalk.wrap64_in (n.d + 1) ⟨by omega, by omega⟩]
theorem Fit.ins {n : Nd} (h : Fit n) : 0 ≤ inDP n ∧ inDP n ≤ 3 := by
  rw [h.inD]
  obtain ⟨h1, h2, h3, h4, h5⟩ := h
  repeat' split
  all_goals omega
theorem Fit.low {n : Nd} (h : Fit n) : 0 ≤ lowP n ∧ lowP n ≤ n.d ∧ lowP n ≤ inDP n ∧ (n.k = 10 → lowP n = n.d) := by
  have h1 := h.ins
  have h2 := h.inD
  have h3 := h.lo
  refine ⟨?_, ?_, ?_, ?_⟩
  · unfold lowP minI; split <;> omega
  · unfold lowP minI; split <;> omega
  · unfold lowP minI; split <;> omega
  · intro h4
    rw [h4] at h2
    simp at h2
    unfold lowP minI
    rw [h2]
    split <;> rfl
/-- What a node that has an input and an output does to times. -/
theorem innP_fit {n : Nd} (h : Fit n) (h1 : 2 ≤ n.k) (h2 : n.k ≤ 10) :
    innP n = ⟨inDP n, n.d, lowP n, 0, if n.k = 10 ∧ n.d = 1 then 1 else 0, if n.k = 10 ∧ n.d = 2 then 1 else 0, if n.k = 10 ∧ n.d = 3 then 1 else 0⟩ := by
  have hin := h.inD
  have hb := h.ins
  have hlo := h.lo
  have hhi := h.hi
  unfold innP
  by_cases h8 : n.k = 8
  · have hd := h.enter h8
    rw [if_pos h8] at hin ⊢
    have hl : lowP n = n.d - 1 := by unfold lowP minI; split <;> omega
    have h10 : ¬ n.k = 10 := by omega
    unfold enterS
    rw [if_pos ⟨(depB_iff _).2 hb, by omega⟩, hl, hin]
    simp [h10]
  by_cases h9 : n.k = 9
  · have hd := h.leave h9
    rw [if_neg h8, if_pos h9] at hin ⊢
    have hl : lowP n = n.d := by unfold lowP minI; split <;> omega
    have h10 : ¬ n.k = 10 := by omega
    unfold leaveS
    rw [if_pos ⟨(depB_iff _).2 hb, by omega⟩, hl, hin]
    simp [h10]
  rw [if_neg h8, if_neg h9] at hin
  have hl : lowP n = n.d := by unfold lowP minI; split <;> omega
  rw [if_neg h8, if_neg h9]
  by_cases h10 : n.k = 10
  · have hd := h.feed h10
    rw [if_pos h10]
    unfold feedS
    rw [if_pos ⟨(depB_iff _).2 ⟨hlo, hhi⟩, by omega⟩, hl, hin]
    simp [h10]
  · rw [if_neg h10, if_pos ⟨by omega, by omega⟩]
    unfold sameS
    rw [if_pos ((depB_iff _).2 ⟨hlo, hhi⟩), hl, hin]
    simp [h10]

/-- A graph that may run, as far as walks ask. -/
structure Acc (N : List Nd) (E : List Ed) : Prop where
  inN : InN N E
  fit : ∀ i, i < N.length → Fit (nth N i)
  dep : ∀ e ∈ E, (nth N e.f.toNat).d = inDP (nth N e.t.toNat)
  round : ∀ v, v < N.length → ¬ (nth N v).k = 10 → ¬ Tr N E (lowP (nth N v)) v v
/-- A walk from v: where it is, what it has done, the nodes that it came to, the last one first. -/
inductive Wk (N : List Nd) (E : List Ed) (v : Nat) : Nat → Sm → List Nat → Prop
  | start : Wk N E v v (sameS (nth N v).d) []
  | step (a : Nat) (s : Sm) (L : List Nat) (e : Ed) (b : Nat) : Wk N E v a s L → e ∈ E → e.f = a → e.t = b → 2 ≤ (nth N b).k → (nth N b).k ≤ 10 → Wk N E v b (rawS s (innP (nth N b))) (b :: L)
/-- What is said of the summary on the way. -/
structure Good (f t c : Int) (s : Sm) : Prop where
  f : s.f = f
  t : s.t = t
  k0 : 0 ≤ s.k
  kf : s.k ≤ s.f
  kt : s.k ≤ s.t
  ep : s.ep = 0
  x : 0 ≤ s.x ∧ s.x ≤ c ∧ (s.t ≤ 0 → s.x = 0)
  y : 0 ≤ s.y ∧ s.y ≤ c ∧ (s.t ≤ 1 → s.y = 0)
  z : 0 ≤ s.z ∧ s.z ≤ c ∧ (s.t ≤ 2 → s.z = 0)
theorem Good.may {f t c : Int} {s : Sm} (h : Good f t c s) (hf : 0 ≤ f ∧ f ≤ 3) (ht : 0 ≤ t ∧ t ≤ 3) (hc : c ≤ 1000) : mayS s = true := by
  obtain ⟨h1, h2, h3, h4, h5, h6, ⟨a1, a2, a3⟩, ⟨b1, b2, b3⟩, ⟨c1, c2, c3⟩⟩ := h
  rw [mayS_iff]
  refine ⟨⟨by omega, by omega, by omega, by omega⟩, ⟨h3, h4, h5⟩, ⟨by omega, by omega⟩, ⟨a1, fun _ => by omega, fun h => by have := a3 h; omega⟩, ⟨b1, fun _ => by omega, fun h => by have := b3 h; omega⟩, ⟨c1, fun _ => by omega, fun h => by have := c3 h; omega⟩⟩
theorem comp_good {i to keep add old c : Int} (h1 : 0 ≤ add) (h2 : add ≤ 1) (h3 : 0 ≤ old) (h4 : old ≤ c) (hc : 0 ≤ c) : 0 ≤ compI i to keep add old ∧ compI i to keep add old ≤ c + 1 ∧ (to ≤ i → compI i to keep add old = 0) := by
  unfold compI
  refine ⟨?_, ?_, ?_⟩
  · repeat' split
    all_goals omega
  · repeat' split
    all_goals omega
  · intro h
    rw [if_neg (by omega)]
theorem one_or (p : Prop) [Decidable p] : 0 ≤ (if p then (1 : Int) else 0) ∧ (if p then (1 : Int) else 0) ≤ 1 := by split <;> omega
theorem Good.step {f t c : Int} {s : Sm} {n : Nd} (h : Good f t c s) (hc : 0 ≤ c) (hn : Fit n) (h1 : 2 ≤ n.k) (h2 : n.k ≤ 10) (hd : t = inDP n) : Good f n.d (c + 1) (rawS s (innP n)) := by
  obtain ⟨g1, g2, g3, g4, g5, g6, ⟨a1, a2, a3⟩, ⟨b1, b2, b3⟩, ⟨c1, c2, c3⟩⟩ := h
  have hl := hn.low
  rw [innP_fit hn h1 h2]
  have o1 := one_or (n.k = 10 ∧ n.d = 1)
  have o2 := one_or (n.k = 10 ∧ n.d = 2)
  have o3 := one_or (n.k = 10 ∧ n.d = 3)
  have hk : minI s.k (lowP n) ≤ s.k ∧ minI s.k (lowP n) ≤ lowP n ∧ 0 ≤ minI s.k (lowP n) := by unfold minI; split <;> omega
  refine ⟨g1, rfl, hk.2.2, ?_, ?_, ?_, comp_good o1.1 o1.2 a1 a2 hc, comp_good o2.1 o2.2 b1 b2 hc, comp_good o3.1 o3.2 c1 c2 hc⟩
  · show minI s.k (lowP n) ≤ s.f
    omega
  · show minI s.k (lowP n) ≤ n.d
    omega
  · show s.ep + 0 = 0
    omega
theorem good_start {n : Nd} (h : Fit n) : Good n.d n.d 0 (sameS n.d) := by
  have := h.lo
  have := h.hi
  unfold sameS
  rw [if_pos ((depB_iff _).2 ⟨h.lo, h.hi⟩)]
  exact ⟨rfl, rfl, by simpa using h.lo, by simp, by simp, rfl, by simp, by simp, by simp⟩
/-- The summary on the way. -/
theorem Wk.good {N : List Nd} {E : List Ed} (hA : Acc N E) {v a : Nat} {s : Sm} {L : List Nat} (hv : v < N.length) (h : Wk N E v a s L) : a < N.length ∧ Good (nth N v).d (nth N a).d L.length s := by
  induction h with
  | start => exact ⟨hv, good_start (hA.fit v hv)⟩
  | step a s L e b _ he hf ht h1 h2 ih =>
    have hin := hA.inN e he
    have hb : b < N.length := by omega
    have hdep := hA.dep e he
    rw [show e.f.toNat = a by omega, show e.t.toNat = b by omega] at hdep
    refine ⟨hb, ?_⟩
    have := ih.2.step (by omega) (hA.fit b hb) h1 h2 hdep
    simpa using this
/-- P9.3: each step is one that may be done. -/
theorem Wk.may {N : List Nd} {E : List Ed} (hA : Acc N E) {v a : Nat} {s : Sm} {L : List Nat} (hv : v < N.length) (h : Wk N E v a s L) (hl : L.length < 1000) {e : Ed} {b : Nat} (he : e ∈ E) (hf : e.f = a) (ht : e.t = b) (h1 : 2 ≤ (nth N b).k) (h2 : (nth N b).k ≤ 10) :
    thenE s (innP (nth N b)) = 0 ∧ thenS s (innP (nth N b)) = rawS s (innP (nth N b)) := by
  obtain ⟨ha, hg⟩ := h.good hA hv
  have hfv := hA.fit v hv
  have hfa := hA.fit a ha
  have hw := (Wk.step a s L e b h he hf ht h1 h2).good hA hv
  have hfb := hA.fit b hw.1
  have hin := hfb.ins
  have hlo := hfb.low
  have hdep := hA.dep e he
  rw [show e.f.toNat = a by omega, show e.t.toNat = b by omega] at hdep
  have hr : mayS (innP (nth N b)) = true := by
    have hg2 : Good (inDP (nth N b)) (nth N b).d 1 (innP (nth N b)) := by
      rw [innP_fit hfb h1 h2]
      have o1 := one_or ((nth N b).k = 10 ∧ (nth N b).d = 1)
      have o2 := one_or ((nth N b).k = 10 ∧ (nth N b).d = 2)
      have o3 := one_or ((nth N b).k = 10 ∧ (nth N b).d = 3)
      refine ⟨rfl, rfl, hlo.1, hlo.2.2.1, hlo.2.1, rfl, ⟨o1.1, o1.2, fun h => ?_⟩, ⟨o2.1, o2.2, fun h => ?_⟩, ⟨o3.1, o3.2, fun h => ?_⟩⟩
      all_goals
        simp only at h ⊢
        rw [if_neg (by omega)]
    exact hg2.may hin ⟨hfb.lo, hfb.hi⟩ (by omega)
  have hfr : s.t = (innP (nth N b)).f := by rw [hg.t, innP_fit hfb h1 h2]; exact hdep
  refine thenE_mk (hg.may ⟨hfv.lo, hfv.hi⟩ ⟨hfa.lo, hfa.hi⟩ (by omega)) hr hfr (hw.2.may ⟨hfv.lo, hfv.hi⟩ ⟨hfb.lo, hfb.hi⟩ ?_)
  simp
  omega
/-- A Feedback of the depth m was passed, and behind it no node of a lesser low. -/
def Hot (N : List Nd) (m : Int) : List Nat → Prop
  | [] => False
  | b :: L => ((nth N b).k = 10 ∧ (nth N b).d = m) ∨ (Hot N m L ∧ m ≤ lowP (nth N b))
/-- The counter of depth m. -/
def adC (s : Sm) (m : Int) : Int := if m = 1 then s.x else if m = 2 then s.y else s.z
theorem comp_hot {i to keep add old : Int} (h1 : i < to) (h2 : i < keep) : compI i to keep add old = old + add := by
  unfold compI
  rw [if_pos h1, if_pos h2]
theorem Wk.hot {N : List Nd} {E : List Ed} (hA : Acc N E) {v a : Nat} {s : Sm} {L : List Nat} (hv : v < N.length) (h : Wk N E v a s L) {m : Int} (hm : m = 1 ∨ m = 2 ∨ m = 3) (hh : Hot N m L) : 1 ≤ adC s m := by
  induction h with
  | start => exact hh.elim
  | step a s L e b hw he hf ht h1 h2 ih =>
    have hg := (hw.good hA hv).2
    have hb := ((Wk.step a s L e b hw he hf ht h1 h2).good hA hv).1
    have hfb := hA.fit b hb
    have hlo := hfb.low
    have o1 := one_or ((nth N b).k = 10 ∧ (nth N b).d = 1)
    have o2 := one_or ((nth N b).k = 10 ∧ (nth N b).d = 2)
    have o3 := one_or ((nth N b).k = 10 ∧ (nth N b).d = 3)
    have gx := hg.x
    have gy := hg.y
    have gz := hg.z
    rw [innP_fit hfb h1 h2]
    have hlow : m ≤ lowP (nth N b) := by
      rcases hh with ⟨h3, h4⟩ | ⟨_, h3⟩
      · rw [hlo.2.2.2 h3, h4]; exact Int.le_refl _
      · exact h3
    have hold : (nth N b).k = 10 ∧ (nth N b).d = m ∨ 1 ≤ adC s m := by
      rcases hh with h3 | ⟨h3, _⟩
      · exact .inl h3
      · exact .inr (ih h3)
    rcases hm with rfl | rfl | rfl
    · show 1 ≤ compI 0 (nth N b).d (lowP (nth N b)) (if (nth N b).k = 10 ∧ (nth N b).d = 1 then 1 else 0) s.x
      rw [comp_hot (by omega) (by omega)]
      rcases hold with h3 | h3
      · rw [if_pos h3]; omega
      · have : 1 ≤ s.x := h3
        omega
    · show 1 ≤ compI 1 (nth N b).d (lowP (nth N b)) (if (nth N b).k = 10 ∧ (nth N b).d = 2 then 1 else 0) s.y
      rw [comp_hot (by omega) (by omega)]
      rcases hold with h3 | h3
      · rw [if_pos h3]; omega
      · have : 1 ≤ s.y := h3
        omega
    · show 1 ≤ compI 2 (nth N b).d (lowP (nth N b)) (if (nth N b).k = 10 ∧ (nth N b).d = 3 then 1 else 0) s.z
      rw [comp_hot (by omega) (by omega)]
      rcases hold with h3 | h3
      · rw [if_pos h3]; omega
      · have : 1 ≤ s.z := h3
        omega
theorem hot_of {N : List Nd} {m : Int} : ∀ {L : List Nat} {w : Nat}, w ∈ L → (nth N w).k = 10 → (nth N w).d = m → (∀ u ∈ L, m ≤ lowP (nth N u)) → Hot N m L
  | [], w, h, _, _, _ => by simp at h
  | b :: L, w, h, h1, h2, h3 => by
    rcases List.mem_cons.1 h with rfl | h
    · exact .inl ⟨h1, h2⟩
    · exact .inr ⟨hot_of h h1 h2 fun u hu => h3 u (List.mem_cons_of_mem _ hu), h3 b List.mem_cons_self⟩
/-- From the beginning there is a way to each node of a walk, and on to where it is. -/
theorem Wk.path {N : List Nd} {E : List Ed} {v a : Nat} {s : Sm} {L : List Nat} (h : Wk N E v a s L) {m : Int} (hok : ∀ x ∈ L, okT N m x = true) :
    (L = [] → a = v) ∧ (L ≠ [] → a ∈ L) ∧ ∀ x ∈ L, Tr N E m v x ∧ (x = a ∨ Tr N E m x a) := by
  induction h with
  | start => exact ⟨fun _ => rfl, fun h => absurd rfl h, by simp⟩
  | step a s L e b hw he hf ht h1 h2 ih =>
    obtain ⟨i1, i2, i3⟩ := ih fun x hx => hok x (List.mem_cons_of_mem _ hx)
    have hb := hok b List.mem_cons_self
    refine ⟨fun h => by simp at h, fun _ => List.mem_cons_self, fun x hx => ?_⟩
    rcases List.mem_cons.1 hx with rfl | hx
    · refine ⟨?_, .inl rfl⟩
      cases L with
      | nil =>
        have := i1 rfl
        subst this
        exact .one e _ he hf ht hb
      | cons c L => exact .more a e _ (i3 a (i2 (by simp))).1 he hf ht hb
    · obtain ⟨j1, j2⟩ := i3 x hx
      refine ⟨j1, .inr ?_⟩
      rcases j2 with rfl | j2
      · exact .one e _ he hf ht hb
      · exact .more a e _ j2 he hf ht hb
theorem low_min (N : List Nd) : ∀ (L : List Nat), L ≠ [] → ∃ w ∈ L, ∀ u ∈ L, lowP (nth N w) ≤ lowP (nth N u)
  | [], h => absurd rfl h
  | [b], _ => ⟨b, by simp, by simp⟩
  | b :: c :: L, _ => by
    obtain ⟨w, hw, hm⟩ := low_min N (c :: L) (by simp)
    by_cases h : lowP (nth N b) ≤ lowP (nth N w)
    · refine ⟨b, by simp, fun u hu => ?_⟩
      rcases List.mem_cons.1 hu with rfl | hu
      · exact Int.le_refl _
      · exact Int.le_trans h (hm u hu)
    · refine ⟨w, List.mem_cons_of_mem _ hw, fun u hu => ?_⟩
      rcases List.mem_cons.1 hu with rfl | hu
      · omega
      · exact hm u hu
theorem Wk.lt {N : List Nd} {E : List Ed} (hA : Acc N E) {v a : Nat} {s : Sm} {L : List Nat} (hv : v < N.length) (h : Wk N E v a s L) : ∀ x ∈ L, x < N.length := by
  induction h with
  | start => simp
  | step a s L e b hw he hf ht h1 h2 ih =>
    intro x hx
    rcases List.mem_cons.1 hx with rfl | hx
    · exact ((Wk.step a s L e _ hw he hf ht h1 h2).good hA hv).1
    · exact ih x hx
/-- P9.3: a walk back to its beginning does what is not at most nothing. -/
theorem Wk.back {N : List Nd} {E : List Ed} (hA : Acc N E) {v : Nat} {s : Sm} {L : List Nat} (hv : v < N.length) (h : Wk N E v v s L) (hL : L ≠ []) : leS s (sameS (nth N v).d) = false := by
  have hg := (h.good hA hv).2
  have hlt := h.lt hA hv
  have hfv := hA.fit v hv
  have hlv := hfv.low
  obtain ⟨w, hw, hmin⟩ := low_min N L hL
  cases hle : leS s (sameS (nth N v).d)
  · rfl
  exfalso
  by_cases hF : ∃ u ∈ L, (nth N u).k = 10 ∧ (nth N u).d = lowP (nth N w)
  · obtain ⟨u, hu, hk, hd⟩ := hF
    have hfu := hA.fit u (hlt u hu)
    have h1 := hfu.feed hk
    have h2 := hfu.hi
    have hot := hot_of hu hk hd hmin
    have hmem : v ∈ L := by
      cases h with
      | start => exact absurd rfl hL
      | step a s L e b hw he hf ht h1 h2 => exact List.mem_cons_self
    have hvm := hmin v hmem
    have hadd := leS_add hle
    have hst := hg.t
    have hz : (sameS (nth N v).d).x = 0 ∧ (sameS (nth N v).d).y = 0 ∧ (sameS (nth N v).d).z = 0 := by unfold sameS; split <;> exact ⟨rfl, rfl, rfl⟩
    rw [hz.1, hz.2.1, hz.2.2] at hadd
    have hmc : lowP (nth N w) = 1 ∨ lowP (nth N w) = 2 ∨ lowP (nth N w) = 3 := by omega
    have hh := h.hot hA hv hmc hot
    rcases hmc with e | e | e <;> rw [e] at hh
    · have : 1 ≤ s.x := hh
      omega
    · have : 1 ≤ s.y := hh
      omega
    · have : 1 ≤ s.z := hh
      omega
  · have hok : ∀ x ∈ L, okT N (lowP (nth N w)) x = true := fun x hx => (okT_iff _ _ _).2 ⟨hmin x hx, fun hc => hF ⟨x, hx, hc⟩⟩
    obtain ⟨_, _, h3⟩ := h.path hok
    obtain ⟨t1, t2⟩ := h3 w hw
    have hk : ¬ (nth N w).k = 10 := fun hk => hF ⟨w, hw, hk, ((hA.fit w (hlt w hw)).low.2.2.2 hk).symm⟩
    refine hA.round w (hlt w hw) hk ?_
    rcases t2 with rfl | t2
    · exact t1
    · exact t2.trans t1

end Go.Proofs.YtehianjfpmbfpaaGreat
