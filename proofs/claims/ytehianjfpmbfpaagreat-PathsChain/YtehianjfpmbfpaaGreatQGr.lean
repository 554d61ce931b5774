/-
  A graph's steps as plain data, as the program has them and as the document has them: they are the same; each is a Feedback's or adds nothing. How many summaries there may be between two places. No program is named here.
-/
import Derived.Test.YtehianjfpmbfpaaGreatQSw
import Derived.Test.YtehianjfpmbfpaaGreatVPl
namespace Go.Proofs.YtehianjfpmbfpaaGreat
set_option linter.unusedVariables false
set_option linter.unusedSimpArgs false

/-- A step of the program: to a place, and what it does. -/
structure Sp where
  b : Lc
  r : Sm
/-- The steps from a place, as the program has them. -/
def stepsAt (N : List Nd) (E : List Ed) (l : Lc) : List Sp :=
  if l.p = -1 then (nextP E l.n).map fun b => ⟨b, sameS (depP N l)⟩
  else if isP N ⟨l.n, -1⟩ = true then [⟨⟨l.n, -1⟩, innP (nth N l.n.toNat)⟩] else []
/-- All of them. -/
def stepsG (N : List Nd) (E : List Ed) : List Stp := (locs N).flatMap fun l => (stepsAt N E l).map fun x => ⟨l, x.b, x.r⟩
theorem mem_stepsG {N : List Nd} {E : List Ed} {y : Stp} : y ∈ stepsG N E ↔ isP N y.a = true ∧ (⟨y.b, y.r⟩ : Sp) ∈ stepsAt N E y.a := by
  unfold stepsG
  simp only [List.mem_flatMap, List.mem_map, mem_locs]
  constructor
  · rintro ⟨l, h1, x, h2, rfl⟩
    exact ⟨h1, h2⟩
  · rintro ⟨h1, h2⟩
    exact ⟨y.a, h1, _, h2, rfl⟩
/-- The steps of a node, and all, as the document has them. -/
def stepsN (i : Nat) (n : Nd) (j : Nat) : List Stp := (insTo i j).map fun l => ⟨l, ⟨i, -1⟩, innP n⟩
def stepsO (i : Nat) (n : Nd) : List Stp := if hasP n.k = true then stepsN i n (insP n.k).toNat else []
def stepsM (N : List Nd) (m : Nat) : List Stp := (List.range m).flatMap fun i => stepsO i (nth N i)
def stepE (N : List Nd) (e : Ed) : Stp := ⟨⟨e.f, -1⟩, ⟨e.t, e.p⟩, sameS (nth N e.f.toNat).d⟩
def stepsR (N : List Nd) (E : List Ed) : List Stp := stepsM N N.length ++ E.map (stepE N)
theorem stepsN_step (i j : Nat) (n : Nd) : stepsN i n (j + 1) = stepsN i n j ++ [⟨⟨i, j⟩, ⟨i, -1⟩, innP n⟩] := by
  unfold stepsN
  rw [insTo_step, List.map_append]
  rfl
theorem stepsM_step (N : List Nd) (m : Nat) : stepsM N (m + 1) = stepsM N m ++ stepsO m (nth N m) := by simp [stepsM, List.range_succ]
theorem stepsN_len (i j : Nat) (n : Nd) : (stepsN i n j).length = j := by simp [stepsN, insTo]
theorem stepsO_len (i : Nat) (n : Nd) : (stepsO i n).length ≤ 2 := by
  unfold stepsO
  have := insP_cases n.k
  split
  · rw [stepsN_len]; omega
  · simp
theorem stepsM_len (N : List Nd) (m : Nat) : (stepsM N m).length ≤ 2 * m := by
  induction m with
  | zero => simp [stepsM]
  | succ m ih =>
    rw [stepsM_step, List.length_append]
    have := stepsO_len m (nth N m)
    omega
theorem isP_o {N : List Nd} {i : Int} : isP N ⟨i, -1⟩ = true ↔ 0 ≤ i ∧ i < N.length ∧ hasP (nth N i.toNat).k = true := by
  unfold isP portB
  simp only [Bool.and_eq_true, decide_eq_true_eq, if_pos]
  exact ⟨fun ⟨⟨h1, h2⟩, h3⟩ => ⟨h1, h2, h3⟩, fun ⟨h1, h2, h3⟩ => ⟨⟨h1, h2⟩, h3⟩⟩
theorem isP_i {N : List Nd} {l : Lc} (h : ¬ l.p = -1) : isP N l = true ↔ 0 ≤ l.n ∧ l.n < N.length ∧ 0 ≤ l.p ∧ l.p < insP (nth N l.n.toNat).k := by
  unfold isP portB
  simp only [if_neg h, Bool.and_eq_true, decide_eq_true_eq]
  exact ⟨fun ⟨⟨h1, h2⟩, h3, h4⟩ => ⟨h1, h2, h3, h4⟩, fun ⟨h1, h2, h3, h4⟩ => ⟨⟨h1, h2⟩, h3, h4⟩⟩
theorem mem_stepsO {i : Nat} {n : Nd} {y : Stp} : y ∈ stepsO i n ↔ hasP n.k = true ∧ y.a.n = i ∧ 0 ≤ y.a.p ∧ y.a.p < insP n.k ∧ y.b = ⟨i, -1⟩ ∧ y.r = innP n := by
  unfold stepsO
  have hc := insP_cases n.k
  by_cases h : hasP n.k = true
  · rw [if_pos h]
    unfold stepsN
    simp only [List.mem_map, mem_insTo]
    constructor
    · rintro ⟨l, ⟨h1, h2, h3⟩, rfl⟩
      exact ⟨h, h1, h2, by show l.p < _; omega, rfl, rfl⟩
    · rintro ⟨_, h1, h2, h3, h4, h5⟩
      refine ⟨y.a, ⟨h1, h2, by omega⟩, ?_⟩
      cases y
      simp at h4 h5
      simp [h4, h5]
  · rw [if_neg h]
    simp [h]
theorem stepsR_iff {N : List Nd} {E : List Ed} (h : AccG N E) (y : Stp) : y ∈ stepsR N E ↔ y ∈ stepsG N E := by
  rw [mem_stepsG]
  unfold stepsR stepsM
  simp only [List.mem_append, List.mem_flatMap, List.mem_range, mem_stepsO, List.mem_map]
  constructor
  · rintro (⟨i, hi, h1, h2, h3, h4, h5, h6⟩ | ⟨e, he, rfl⟩)
    · have hp : ¬ y.a.p = -1 := by omega
      have hn : y.a.n.toNat = i := by omega
      refine ⟨(isP_i hp).2 ⟨by omega, by omega, h3, by rw [hn]; exact h4⟩, ?_⟩
      unfold stepsAt
      rw [if_neg hp, if_pos (isP_o.2 ⟨by omega, by omega, by rw [hn]; exact h1⟩), List.mem_singleton, h5, h6, hn, h2]
    · obtain ⟨⟨h1, h2, h3⟩, ⟨h4, h5, h6⟩, h7⟩ := edge_is (h.edge he)
      have ho : isP N ⟨e.f, -1⟩ = true := isP_o.2 ⟨h1, h2, h3⟩
      refine ⟨ho, ?_⟩
      show _ ∈ stepsAt N E ⟨e.f, -1⟩
      unfold stepsAt
      rw [if_pos rfl]
      refine List.mem_map.2 ⟨⟨e.t, e.p⟩, next_has E e he, ?_⟩
      unfold depP
      rw [if_pos ho, if_pos rfl]
      rfl
  · rintro ⟨h1, h2⟩
    unfold stepsAt at h2
    by_cases hp : y.a.p = -1
    · rw [if_pos hp] at h2
      obtain ⟨b, hb, e1⟩ := List.mem_map.1 h2
      unfold nextP at hb
      obtain ⟨e, he, rfl⟩ := List.mem_map.1 hb
      rw [List.mem_filter, decide_eq_true_iff] at he
      refine .inr ⟨e, he.1, ?_⟩
      have ha : y.a = ⟨e.f, -1⟩ := Lc.ext' he.2.symm hp
      rw [ha] at h1 e1
      unfold depP at e1
      rw [if_pos h1, if_pos rfl] at e1
      cases y
      simp at ha e1
      simp [stepE, ha, e1]
    · rw [if_neg hp] at h2
      by_cases ho : isP N ⟨y.a.n, -1⟩ = true
      · rw [if_pos ho, List.mem_singleton] at h2
        obtain ⟨a1, a2, a3⟩ := isP_o.1 ho
        obtain ⟨_, _, b3, b4⟩ := (isP_i hp).1 h1
        simp only [Sp.mk.injEq] at h2
        refine .inl ⟨y.a.n.toNat, by omega, a3, by omega, b3, b4, ?_, h2.2⟩
        rw [h2.1]
        exact Lc.ext' (by simp; omega) rfl
      · rw [if_neg ho] at h2
        simp at h2
theorem Way.mono {S S' : List Stp} (h : ∀ x ∈ S, x ∈ S') {a b : Lc} {s0 s : Sm} (hw : Way S a s0 b s) : Way S' a s0 b s := by
  induction hw with
  | none => exact .none
  | more x s _ hx he ih => exact .more x s ih (h x hx) he
theorem way_same {N : List Nd} {E : List Ed} (h : AccG N E) {a b : Lc} {s0 s : Sm} : Way (stepsR N E) a s0 b s ↔ Way (stepsG N E) a s0 b s :=
  ⟨Way.mono fun x hx => (stepsR_iff h x).1 hx, Way.mono fun x hx => (stepsR_iff h x).2 hx⟩

/-- Where a step leads, and what it is. -/
theorem step_is {N : List Nd} {E : List Ed} (h : AccG N E) {x : Stp} (hx : x ∈ stepsG N E) :
    (isP N x.a = true ∧ isP N x.b = true) ∧ (mayS x.r = true ∧ x.r.f = depP N x.a ∧ x.r.t = depP N x.b) ∧ StepOk 12 (fun v => ⟨(v : Int), 0⟩) x := by
  rw [← stepsR_iff h] at hx
  have hx' := (stepsR_iff h x).1 hx
  have ha := (mem_stepsG.1 hx').1
  unfold stepsR stepsM at hx
  simp only [List.mem_append, List.mem_flatMap, List.mem_range, mem_stepsO, List.mem_map] at hx
  rcases hx with ⟨i, hi, h1, h2, h3, h4, h5, h6⟩ | ⟨e, he, rfl⟩
  · have hp : ¬ x.a.p = -1 := by omega
    have hn : x.a.n.toNat = i := by omega
    have hb : isP N x.b = true := by rw [h5]; exact isP_o.2 ⟨by omega, by omega, h1⟩
    have hf : Fit (nth N i) := nodeB_fit (h.node hi)
    have hk : 2 ≤ (nth N i).k ∧ (nth N i).k ≤ 10 := by
      have a1 : insP (nth N i).k ≠ 0 := by omega
      unfold hasP at h1
      simp only [Bool.and_eq_true, decide_eq_true_eq] at h1
      unfold insP at a1
      (repeat' split at a1) <;> omega
    have hin := innP_fit hf hk.1 hk.2
    have hlow := hf.low
    have hins := hf.ins
    have hd : 0 ≤ (nth N i).d ∧ (nth N i).d ≤ 3 := ⟨hf.lo, hf.hi⟩
    have da : depP N x.a = inDP (nth N i) := by
      unfold depP
      rw [if_pos ha, if_neg hp, hn]
    have db : depP N x.b = (nth N i).d := by
      unfold depP
      rw [if_pos hb, h5, if_pos rfl]
      simp
    have hmay : mayS (innP (nth N i)) = true := by
      rw [hin, mayS_iff]
      refine ⟨⟨by simp; omega, by simp; omega, by simp; omega, by simp; omega⟩, ⟨by simp; omega, by simp; omega, by simp; omega⟩, by simp, ?_, ?_, ?_⟩
      all_goals
        simp only
        refine ⟨?_, ?_, ?_⟩
        all_goals
          intros
          try split
          all_goals omega
    rw [h6, da, db]
    refine ⟨⟨ha, hb⟩, ⟨hmay, by rw [hin], by rw [hin]⟩, ⟨by rw [h6, hin], ?_⟩⟩
    rw [h6, hin]
    by_cases hk10 : (nth N i).k = 10
    · have hlo := hlow.2.2.2 hk10
      have hfd := hf.feed hk10
      have hid : inDP (nth N i) = (nth N i).d := by
        rw [hf.inD, if_neg (by omega), if_neg (by omega)]
      have hap : x.a = ⟨(i : Int), 0⟩ := by
        rw [hk10] at h4
        refine Lc.ext' h2 ?_
        simp [insP] at h4
        show x.a.p = 0
        omega
      have hnl := h.big.2.1
      refine .inr ⟨i, ((nth N i).d - 1).toNat, by omega, hap, by omega, by simp only; omega, by simp only; omega, by simp only; omega, ?_⟩
      intro j hj
      have : j = 0 ∨ j = 1 ∨ j = 2 := by omega
      rcases this with rfl | rfl | rfl
      all_goals
        simp only [adA, hk10]
        have hcs : (nth N i).d = 1 ∨ (nth N i).d = 2 ∨ (nth N i).d = 3 := by omega
        rcases hcs with e | e | e <;> simp [e]
    · exact .inl ⟨by simp [hk10], by simp [hk10], by simp [hk10]⟩
  · obtain ⟨⟨h1, h2, h3⟩, ⟨h4, h5, h6⟩, h7⟩ := edge_is (h.edge he)
    have hb : isP N ⟨e.t, e.p⟩ = true := by
      unfold isP
      simp only [Bool.and_eq_true, decide_eq_true_eq]
      exact ⟨⟨h4, h5⟩, h6⟩
    have hdep := h.acc.dep e he
    have hf : Fit (nth N e.f.toNat) := nodeB_fit (h.node (by omega))
    have hd : depthB (nth N e.f.toNat).d = true := (depB_iff _).2 ⟨hf.lo, hf.hi⟩
    obtain ⟨m1, m2, m3⟩ := may_same hd
    have ha' : isP N ⟨e.f, -1⟩ = true := ha
    have da : depP N (stepE N e).a = (nth N e.f.toNat).d := by
      show depP N ⟨e.f, -1⟩ = _
      unfold depP
      rw [if_pos ha', if_pos rfl]
    have db : depP N (stepE N e).b = (nth N e.f.toNat).d := by
      show depP N ⟨e.t, e.p⟩ = _
      unfold depP
      rw [if_pos hb, if_neg h7, hdep]
    refine ⟨⟨ha, hb⟩, ⟨m1, ?_, ?_⟩, ⟨?_, .inl ⟨?_, ?_, ?_⟩⟩⟩
    · rw [da]; exact m2
    · rw [db]; exact m3
    all_goals simp [stepE, sameS, hd]
end Go.Proofs.YtehianjfpmbfpaaGreat
