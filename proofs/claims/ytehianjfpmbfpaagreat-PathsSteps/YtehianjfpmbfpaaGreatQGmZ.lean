import Derived.Test.YtehianjfpmbfpaaGreatQSwZ
import Derived.Test.YtehianjfpmbfpaaGreatVPlZ
import Derived.Test.YtehianjfpmbfpaaGreatHBlkZ
import Derived.Test.YtehianjfpmbfpaaGreatRowAZ
import Derived.Maps.AppendAt
import Derived.Laws.OwnMore
import Derived.Laws.Tables
import Derived.Laws.CopyOwn
import Derived.Deep.Slices
import Derived.Test.YtehianjfpmbfpaaGreatQMpZ
section
/-
  A graph's steps as plain data, as the program has them and as the document has them: they are the same; each is a Feedback's or adds nothing. How many summaries there may be between two places. No program is named here.
-/
namespace Go.Proofs.YtehianjfpmbfpaaGreat
set_option linter.unusedVariables false
set_option linter.unusedSimpArgs false

/-- A step of the program: to a place, and what it does. -/
structure Sp where
  b : Lc
  r : Sm
/-- The steps from a place, as the program has them. -/
def stepsAt (N : List Nd) (E : List Ed) (l : Lc) : List Sp :=
  if l.p = -1 then (nextP E l.n).map fun b => ⟨b, sameS (depP N l)⟩
  else if isP N ⟨l.n, -1⟩ = true then [⟨⟨l.n, -1⟩, innP (nth N l.n.toNat)⟩] else []
/-- All of them. -/
def stepsG (N : List Nd) (E : List Ed) : List Stp := (locs N).flatMap fun l => (stepsAt N E l).map fun x => ⟨l, x.b, x.r⟩
theorem mem_stepsG {N : List Nd} {E : List Ed} {y : Stp} : y ∈ stepsG N E ↔ isP N y.a = true ∧ (⟨y.b, y.r⟩ : Sp) ∈ stepsAt N E y.a := by
  unfold stepsG
  simp only [List.mem_flatMap, List.mem_map, mem_locs]
  constructor
  · rintro ⟨l, h1, x, h2, rfl⟩
    exact ⟨h1, h2⟩
  · rintro ⟨h1, h2⟩
    exact ⟨y.a, h1, _, h2, rfl⟩
/-- The steps of a node, and all, as the document has them. -/
def stepsN (i : Nat) (n : Nd) (j : Nat) : List Stp := (insTo i j).map fun l => ⟨l, ⟨i, -1⟩, innP n⟩
def stepsO (i : Nat) (n : Nd) : List Stp := if hasP n.k = true then stepsN i n (insP n.k).toNat else []
def stepsM (N : List Nd) (m : Nat) : List Stp := (List.range m).flatMap fun i => stepsO i (nth N i)
def stepE (N : List Nd) (e : Ed) : Stp := ⟨⟨e.f, -1⟩, ⟨e.t, e.p⟩, sameS (nth N e.f.toNat).d⟩
def stepsR (N : List Nd) (E : List Ed) : List Stp := stepsM N N.length ++ E.map (stepE N)
theorem stepsN_step (i j : Nat) (n : Nd) : stepsN i n (j + 1) = stepsN i n j ++ [⟨⟨i, j⟩, ⟨i, -1⟩, innP n⟩] := by
  unfold stepsN
  rw [insTo_step, List.map_append]
  rfl
theorem stepsM_step (N : List Nd) (m : Nat) : stepsM N (m + 1) = stepsM N m ++ stepsO m (nth N m) := by simp [stepsM, List.range_succ]
theorem stepsN_len (i j : Nat) (n : Nd) : (stepsN i n j).length = j := by simp [stepsN, insTo]
theorem stepsO_len (i : Nat) (n : Nd) : (stepsO i n).length ≤ 2 := by
  unfold stepsO
  have := insP_cases n.k
  split
  · rw [stepsN_len]; omega
  · simp
theorem stepsM_len (N : List Nd) (m : Nat) : (stepsM N m).length ≤ 2 * m := by
  induction m with
  | zero => simp [stepsM]
  | succ m ih =>
    rw [stepsM_step, List.length_append]
    have := stepsO_len m (nth N m)
    omega
theorem isP_o {N : List Nd} {i : Int} : isP N ⟨i, -1⟩ = true ↔ 0 ≤ i ∧ i < N.length ∧ hasP (nth N i.toNat).k = true := by
  unfold isP portB
  simp only [Bool.and_eq_true, decide_eq_true_eq, if_pos]
  exact ⟨fun ⟨⟨h1, h2⟩, h3⟩ => ⟨h1, h2, h3⟩, fun ⟨h1, h2, h3⟩ => ⟨⟨h1, h2⟩, h3⟩⟩
theorem isP_i {N : List Nd} {l : Lc} (h : ¬ l.p = -1) : isP N l = true ↔ 0 ≤ l.n ∧ l.n < N.length ∧ 0 ≤ l.p ∧ l.p < insP (nth N l.n.toNat).k := by
  unfold isP portB
  simp only [if_neg h, Bool.and_eq_true, decide_eq_true_eq]
  exact ⟨fun ⟨⟨h1, h2⟩, h3, h4⟩ => ⟨h1, h2, h3, h4⟩, fun ⟨h1, h2, h3, h4⟩ => ⟨⟨h1, h2⟩, h3, h4⟩⟩
theorem mem_stepsO {i : Nat} {n : Nd} {y : Stp} : y ∈ stepsO i n ↔ hasP n.k = true ∧ y.a.n = i ∧ 0 ≤ y.a.p ∧ y.a.p < insP n.k ∧ y.b = ⟨i, -1⟩ ∧ y.r = innP n := by
  unfold stepsO
  have hc := insP_cases n.k
  by_cases h : hasP n.k = true
  · rw [if_pos h]
    unfold stepsN
    simp only [List.mem_map, mem_insTo]
    constructor
    · rintro ⟨l, ⟨h1, h2, h3⟩, rfl⟩
      exact ⟨h, h1, h2, by show l.p < _; omega, rfl, rfl⟩
    · rintro ⟨_, h1, h2, h3, h4, h5⟩
      refine ⟨y.a, ⟨h1, h2, by omega⟩, ?_⟩
      cases y
      simp at h4 h5
      simp [h4, h5]
  · rw [if_neg h]
    simp [h]
theorem stepsR_iff {N : List Nd} {E : List Ed} (h : AccG N E) (y : Stp) : y ∈ stepsR N E ↔ y ∈ stepsG N E := by
  rw [mem_stepsG]
  unfold stepsR stepsM
  simp only [List.mem_append, List.mem_flatMap, List.mem_range, mem_stepsO, List.mem_map]
  constructor
  · rintro (⟨i, hi, h1, h2, h3, h4, h5, h6⟩ | ⟨e, he, rfl⟩)
    · have hp : ¬ y.a.p = -1 := by omega
      have hn : y.a.n.toNat = i := by omega
      refine ⟨(isP_i hp).2 ⟨by omega, by omega, h3, by rw [hn]; exact h4⟩, ?_⟩
      unfold stepsAt
      rw [if_neg hp, if_pos (isP_o.2 ⟨by omega, by omega, by rw [hn]; exact h1⟩), List.mem_singleton, h5, h6, hn, h2]
    · obtain ⟨⟨h1, h2, h3⟩, ⟨h4, h5, h6⟩, h7⟩ := edge_is (h.edge he)
      have ho : isP N ⟨e.f, -1⟩ = true := isP_o.2 ⟨h1, h2, h3⟩
      refine ⟨ho, ?_⟩
      show _ ∈ stepsAt N E ⟨e.f, -1⟩
      unfold stepsAt
      rw [if_pos rfl]
      refine List.mem_map.2 ⟨⟨e.t, e.p⟩, next_has E e he, ?_⟩
      unfold depP
      rw [if_pos ho, if_pos rfl]
      rfl
  · rintro ⟨h1, h2⟩
    unfold stepsAt at h2
    by_cases hp : y.a.p = -1
    · rw [if_pos hp] at h2
      obtain ⟨b, hb, e1⟩ := List.mem_map.1 h2
      unfold nextP at hb
      obtain ⟨e, he, rfl⟩ := List.mem_map.1 hb
      rw [List.mem_filter, decide_eq_true_iff] at he
      refine .inr ⟨e, he.1, ?_⟩
      have ha : y.a = ⟨e.f, -1⟩ := Lc.ext' he.2.symm hp
      rw [ha] at h1 e1
      unfold depP at e1
      rw [if_pos h1, if_pos rfl] at e1
      cases y
      simp at ha e1
      simp [stepE, ha, e1]
    · rw [if_neg hp] at h2
      by_cases ho : isP N ⟨y.a.n, -1⟩ = true
      · rw [if_pos ho, List.mem_singleton] at h2
        obtain ⟨a1, a2, a3⟩ := isP_o.1 ho
        obtain ⟨_, _, b3, b4⟩ := (isP_i hp).1 h1
        simp only [Sp.mk.injEq] at h2
        refine .inl ⟨y.a.n.toNat, by omega, a3, by omega, b3, b4, ?_, h2.2⟩
        rw [h2.1]
        exact Lc.ext' (by simp; omega) rfl
      · rw [if_neg ho] at h2
        simp at h2
theorem Way.mono {S S' : List Stp} (h : ∀ x ∈ S, x ∈ S') {a b : Lc} {s0 s : Sm} (hw : Way S a s0 b s) : Way S' a s0 b s := by
  induction hw with
  | none => exact .none
  | more x s _ hx he ih => exact .more x s ih (h x hx) he
theorem way_same {N : List Nd} {E : List Ed} (h : AccG N E) {a b : Lc} {s0 s : Sm} : Way (stepsR N E) a s0 b s ↔ Way (stepsG N E) a s0 b s :=
  ⟨Way.mono fun x hx => (stepsR_iff h x).1 hx, Way.mono fun x hx => (stepsR_iff h x).2 hx⟩

/-- Where a step leads, and what it is. -/
theorem step_is {N : List Nd} {E : List Ed} (h : AccG N E) {x : Stp} (hx : x ∈ stepsG N E) :
    (isP N x.a = true ∧ isP N x.b = true) ∧ (mayS x.r = true ∧ x.r.f = depP N x.a ∧ x.r.t = depP N x.b) ∧ StepOk 12 (fun v => ⟨(v : Int), 0⟩) x := by
  rw [← stepsR_iff h] at hx
  have hx' := (stepsR_iff h x).1 hx
  have ha := (mem_stepsG.1 hx').1
  unfold stepsR stepsM at hx
  simp only [List.mem_append, List.mem_flatMap, List.mem_range, mem_stepsO, List.mem_map] at hx
  rcases hx with ⟨i, hi, h1, h2, h3, h4, h5, h6⟩ | ⟨e, he, rfl⟩
  · have hp : ¬ x.a.p = -1 := by omega
    have hn : x.a.n.toNat = i := by omega
    have hb : isP N x.b = true := by rw [h5]; exact isP_o.2 ⟨by omega, by omega, h1⟩
    have hf : Fit (nth N i) := nodeB_fit (h.node hi)
    have hk : 2 ≤ (nth N i).k ∧ (nth N i).k ≤ 10 := by
      have a1 : insP (nth N i).k ≠ 0 := by omega
      unfold hasP at h1
      simp only [Bool.and_eq_true, decide_eq_true_eq] at h1
      unfold insP at a1
      (repeat' split at a1) <;> omega
    have hin := innP_fit hf hk.1 hk.2
    have hlow := hf.low
    have hins := hf.ins
    have hd : 0 ≤ (nth N i).d ∧ (nth N i).d ≤ 3 := ⟨hf.lo, hf.hi⟩
    have da : depP N x.a = inDP (nth N i) := by
      unfold depP
      rw [if_pos ha, if_neg hp, hn]
    have db : depP N x.b = (nth N i).d := by
      unfold depP
      rw [if_pos hb, h5, if_pos rfl]
      simp
    have hmay : mayS (innP (nth N i)) = true := by
      rw [hin, mayS_iff]
      refine ⟨⟨by simp; omega, by simp; omega, by simp; omega, by simp; omega⟩, ⟨by simp; omega, by simp; omega, by simp; omega⟩, by simp, ?_, ?_, ?_⟩
      all_goals
        simp only
        refine ⟨?_, ?_, ?_⟩
        all_goals
          intros
          try split
          all_goals omega
    rw [h6, da, db]
    refine ⟨⟨ha, hb⟩, ⟨hmay, by rw [hin], by rw [hin]⟩, ⟨by rw [h6, hin], ?_⟩⟩
    rw [h6, hin]
    by_cases hk10 : (nth N i).k = 10
    · have hlo := hlow.2.2.2 hk10
      have hfd := hf.feed hk10
      have hid : inDP (nth N i) = (nth N i).d := by
        rw [hf.inD, if_neg (by omega), if_neg (by omega)]
      have hap : x.a = ⟨(i : Int), 0⟩ := by
        rw [hk10] at h4
        refine Lc.ext' h2 ?_
        simp [insP] at h4
        show x.a.p = 0
        omega
      have hnl := h.big.2.1
      refine .inr ⟨i, ((nth N i).d - 1).toNat, by omega, hap, by omega, by simp only; omega, by simp only; omega, by simp only; omega, ?_⟩
      intro j hj
      have : j = 0 ∨ j = 1 ∨ j = 2 := by omega
      rcases this with rfl | rfl | rfl
      all_goals
        simp only [adA, hk10]
        have hcs : (nth N i).d = 1 ∨ (nth N i).d = 2 ∨ (nth N i).d = 3 := by omega
        rcases hcs with e | e | e <;> simp [e]
    · exact .inl ⟨by simp [hk10], by simp [hk10], by simp [hk10]⟩
  · obtain ⟨⟨h1, h2, h3⟩, ⟨h4, h5, h6⟩, h7⟩ := edge_is (h.edge he)
    have hb : isP N ⟨e.t, e.p⟩ = true := by
      unfold isP
      simp only [Bool.and_eq_true, decide_eq_true_eq]
      exact ⟨⟨h4, h5⟩, h6⟩
    have hdep := h.acc.dep e he
    have hf : Fit (nth N e.f.toNat) := nodeB_fit (h.node (by omega))
    have hd : depthB (nth N e.f.toNat).d = true := (depB_iff _).2 ⟨hf.lo, hf.hi⟩
    obtain ⟨m1, m2, m3⟩ := may_same hd
    have ha' : isP N ⟨e.f, -1⟩ = true := ha
    have da : depP N (stepE N e).a = (nth N e.f.toNat).d := by
      show depP N ⟨e.f, -1⟩ = _
      unfold depP
      rw [if_pos ha', if_pos rfl]
    have db : depP N (stepE N e).b = (nth N e.f.toNat).d := by
      show depP N ⟨e.t, e.p⟩ = _
      unfold depP
      rw [if_pos hb, if_neg h7, hdep]
    refine ⟨⟨ha, hb⟩, ⟨m1, ?_, ?_⟩, ⟨?_, .inl ⟨?_, ?_, ?_⟩⟩⟩
    · rw [da]; exact m2
    · rw [db]; exact m3
    all_goals simp [stepE, sameS, hd]
end Go.Proofs.YtehianjfpmbfpaaGreat
end

section
/-
  Rows of steps, the program's and the document's, and of changes: their cells one behind the other, where they lie, those that a call has made by append; boxes of them; how changes that come in as arguments are opened.
-/
namespace Go.Proofs.YtehianjfpmbfpaaGreat
set_option maxRecDepth 100000
open Go.ChangeShapes Go.WideShapes Go.ChangeAt Go.RowKit Go.Deep
set_option linter.unusedVariables false
set_option linter.unusedSimpArgs false

/-- A change: a place, a time, how many. -/
structure Ch where
  l : Lc
  t : Tm
  n : Int
/-- It lies in a block. -/
def BoxP (w : World) (b : Nat) (t : Sp) : Prop := w.cell? ⟨b, 0, none⟩ = some (.int .i64 t.b.n) ∧ w.cell? ⟨b, 1, none⟩ = some (.int .i64 t.b.p) ∧ w.cell? ⟨b, 2, none⟩ = some (.int .i64 t.r.f) ∧ w.cell? ⟨b, 3, none⟩ = some (.int .i64 t.r.t) ∧ w.cell? ⟨b, 4, none⟩ = some (.int .i64 t.r.k) ∧ w.cell? ⟨b, 5, none⟩ = some (.int .i64 t.r.ep) ∧ w.cell? ⟨b, 6, none⟩ = some (.int .i64 t.r.x) ∧ w.cell? ⟨b, 7, none⟩ = some (.int .i64 t.r.y) ∧ w.cell? ⟨b, 8, none⟩ = some (.int .i64 t.r.z)
theorem BoxP.later {w w' : World} {b : Nat} {t : Sp} (hg : Grow w w') (h : BoxP w b t) : BoxP w' b t := by
  obtain ⟨h0, h1, h2, h3, h4, h5, h6, h7, h8⟩ := h
  exact ⟨cell_later hg h0, cell_later hg h1, cell_later hg h2, cell_later hg h3, cell_later hg h4, cell_later hg h5, cell_later hg h6, cell_later hg h7, cell_later hg h8⟩
theorem BoxP.new (w : World) (t : Sp) : BoxP (w.alloc (.cells #[.int .i64 t.b.n, .int .i64 t.b.p, .int .i64 t.r.f, .int .i64 t.r.t, .int .i64 t.r.k, .int .i64 t.r.ep, .int .i64 t.r.x, .int .i64 t.r.y, .int .i64 t.r.z] 120)) w.heap.size t := by simp [BoxP, go_sem]
theorem BoxP.lt {w : World} {b : Nat} {t : Sp} (h : BoxP w b t) : b < w.heap.size := World.block_lt_of_cell? _ _ h.1
def encP (t : Sp) : List Value := [.int .i64 t.b.n, .int .i64 t.b.p, .int .i64 t.r.f, .int .i64 t.r.t, .int .i64 t.r.k, .int .i64 t.r.ep, .int .i64 t.r.x, .int .i64 t.r.y, .int .i64 t.r.z]
theorem encP_len (t : Sp) : (encP t).length = 9 := rfl
/-- The cells of a row. -/
def flatP (d : List Sp) : List Value := d.flatMap encP
theorem flatP_nil : flatP [] = [] := rfl
theorem flatP_cons (t : Sp) (d : List Sp) : flatP (t :: d) = encP t ++ flatP d := rfl
theorem flatP_append (d e : List Sp) : flatP (d ++ e) = flatP d ++ flatP e := by simp [flatP]
theorem flatP_len : ∀ d : List Sp, (flatP d).length = d.length * 9
  | [] => rfl
  | t :: d => by rw [flatP_cons, List.length_append, flatP_len d, encP_len, List.length_cons]; omega
theorem flatP_drop : ∀ (d : List Sp) (j : Nat), (flatP d).drop (j * 9) = flatP (d.drop j)
  | [], j => by simp [flatP]
  | t :: d, 0 => by simp
  | t :: d, j + 1 => by
    rw [flatP_cons, show (j + 1) * 9 = (encP t).length + j * 9 by rw [encP_len]; omega, List.drop_append, List.drop_of_length_le (by omega)]
    simpa using flatP_drop d j
theorem flatP_take : ∀ (d : List Sp) (j : Nat), (flatP d).take (j * 9) = flatP (d.take j)
  | [], j => by simp [flatP]
  | t :: d, 0 => by simp [flatP]
  | t :: d, j + 1 => by
    rw [flatP_cons, show (j + 1) * 9 = (encP t).length + j * 9 by rw [encP_len]; omega, List.take_length_add_append, flatP_take d j]
    rfl
theorem flatP_get (d : List Sp) (j i : Nat) (hj : j < d.length) (hi : i < 9) : (flatP d)[j * 9 + i]? = (encP d[j])[i]? := by
  rw [← List.getElem?_drop, flatP_drop, List.drop_eq_getElem_cons hj, flatP_cons, List.getElem?_append_left (by rw [encP_len]; exact hi)]
theorem oneCell_encP (x : Sp) : ∀ v ∈ encP x, v.oneCell' = true := by
  intro v hv
  simp [encP] at hv
  rcases hv with rfl | rfl | rfl | rfl | rfl | rfl | rfl | rfl | rfl <;> rfl
theorem oneCell_flatP (d : List Sp) : ∀ v ∈ flatP d, v.oneCell' = true := by
  intro v hv
  obtain ⟨x, _, hx⟩ := List.mem_flatMap.1 hv
  exact oneCell_encP x v hx
/-- A row lies in a block. -/
def RowP (w : World) (b o : Nat) (d : List Sp) : Prop := ∀ (j : Nat) v, (flatP d)[j]? = some v → w.cell? ⟨b, o + j, none⟩ = some v
theorem RowP.later {w w' : World} {b o : Nat} {d : List Sp} (hg : Grow w w') (h : RowP w b o d) : RowP w' b o d := fun j v hj => cell_later hg (h j v hj)
theorem RowP.at {w : World} {b o : Nat} {d : List Sp} (h : RowP w b o d) (j : Nat) (hj : j < d.length) :
    w.cell? ⟨b, o + j * 9, none⟩ = some (.int .i64 d[j].b.n) ∧ w.cell? ⟨b, o + j * 9 + 1, none⟩ = some (.int .i64 d[j].b.p) ∧ w.cell? ⟨b, o + j * 9 + 2, none⟩ = some (.int .i64 d[j].r.f) ∧ w.cell? ⟨b, o + j * 9 + 3, none⟩ = some (.int .i64 d[j].r.t) ∧ w.cell? ⟨b, o + j * 9 + 4, none⟩ = some (.int .i64 d[j].r.k) ∧ w.cell? ⟨b, o + j * 9 + 5, none⟩ = some (.int .i64 d[j].r.ep) ∧ w.cell? ⟨b, o + j * 9 + 6, none⟩ = some (.int .i64 d[j].r.x) ∧ w.cell? ⟨b, o + j * 9 + 7, none⟩ = some (.int .i64 d[j].r.y) ∧ w.cell? ⟨b, o + j * 9 + 8, none⟩ = some (.int .i64 d[j].r.z) := by
  have k (i : Nat) (hi : i < 9) (v : Value) (hv : (encP d[j])[i]? = some v) : w.cell? ⟨b, o + (j * 9 + i), none⟩ = some v := h _ v (by rw [flatP_get d j i hj hi]; exact hv)
  exact ⟨k 0 (by omega) _ rfl, k 1 (by omega) _ rfl, k 2 (by omega) _ rfl, k 3 (by omega) _ rfl, k 4 (by omega) _ rfl, k 5 (by omega) _ rfl, k 6 (by omega) _ rfl, k 7 (by omega) _ rfl, k 8 (by omega) _ rfl⟩
theorem RowP.take' {w : World} {b o : Nat} {d : List Sp} (h : RowP w b o d) (k : Nat) : RowP w b o (d.take k) := by
  intro j v hj
  rw [← flatP_take] at hj
  refine h j v ?_
  rw [List.getElem?_take] at hj
  split at hj
  · exact hj
  · cases hj
theorem RowP_one (w : World) (t : Sp) : RowP (w.alloc (.cells #[.int .i64 t.b.n, .int .i64 t.b.p, .int .i64 t.r.f, .int .i64 t.r.t, .int .i64 t.r.k, .int .i64 t.r.ep, .int .i64 t.r.x, .int .i64 t.r.y, .int .i64 t.r.z] 120)) w.heap.size 0 [t] := by
  intro j v hj
  have hj' : j < 9 := by
    have := (List.getElem?_eq_some_iff.1 hj).1
    rw [flatP_len] at this
    simpa using this
  have e : flatP [t] = encP t := by simp [flatP]
  rw [e] at hj
  have : j = 0 ∨ j = 1 ∨ j = 2 ∨ j = 3 ∨ j = 4 ∨ j = 5 ∨ j = 6 ∨ j = 7 ∨ j = 8 := by omega
  rcases this with rfl | rfl | rfl | rfl | rfl | rfl | rfl | rfl | rfl <;> simp [encP] at hj <;> subst hj <;> simp [go_sem]
theorem RowP_of {w : World} {b o : Nat} (f : Nat → Sp) (n : Nat) (h : ∀ i, i < n → ∀ j : Nat, j < 9 → w.cell? ⟨b, o + (i * 9 + j), none⟩ = (encP (f i))[j]?) : RowP w b o ((List.range n).map f) := by
  intro k v hk
  have hk' : k < n * 9 := by
    have := (List.getElem?_eq_some_iff.1 hk).1
    rw [flatP_len] at this
    simpa using this
  have e : k = k / 9 * 9 + k % 9 := by omega
  have h1 := flatP_get ((List.range n).map f) (k / 9) (k % 9) (by simp; omega) (by omega)
  rw [← e, hk] at h1
  have h2 := h (k / 9) (by omega) (k % 9) (by omega)
  rw [← e] at h2
  rw [h2, h1]
  simp
/-- A slice that came in. -/
def IsSps (w : World) (s : Option Addr) (n cap : Nat) (d : List Sp) : Prop :=
  d.length = n ∧ n ≤ cap ∧ (d = [] ∨ ∃ b o, s = some ⟨b, o, none⟩ ∧ RowP w b o d)
theorem IsSps.later {w w' : World} {s : Option Addr} {n cap : Nat} {d : List Sp} (hg : Grow w w') (h : IsSps w s n cap d) : IsSps w' s n cap d :=
  ⟨h.1, h.2.1, h.2.2.imp id fun ⟨b, o, e, r⟩ => ⟨b, o, e, r.later hg⟩⟩
/-- The first k of them. -/
theorem IsSps.take' {w : World} {s : Option Addr} {n cap : Nat} {d : List Sp} (h : IsSps w s n cap d) (k : Nat) (hk : k ≤ n) : IsSps w s k cap (d.take k) :=
  ⟨by rw [List.length_take, h.1]; omega, by have := h.2.1; omega, h.2.2.imp (fun e => by rw [e]; simp) fun ⟨b, o, e, r⟩ => ⟨b, o, e, r.take' k⟩⟩
theorem IsSps_nil (w : World) : IsSps w none 0 0 [] := ⟨rfl, Nat.le_refl _, .inl rfl⟩
/-- The call owns a row, or it is nil. -/
def OwnP (w : World) (base : Nat) (s : Option Addr) (n cap : Nat) (d : List Sp) : Prop :=
  d.length = n ∧ w.ownsRow base 120 9 (.slice s n cap) n (flatP d) ∧ (s = none → cap = 0)
theorem OwnP.nil (w : World) (base : Nat) : OwnP w base none 0 0 [] := ⟨rfl, World.ownsRow_nil w base _ _, fun _ => rfl⟩
theorem OwnP.keep {w w' : World} {base n cap : Nat} {s : Option Addr} {d : List Sp} (h : OwnP w base s n cap d) (hk : ∀ a, s = some a → w'.heap[a.block]? = w.heap[a.block]?) : OwnP w' base s n cap d := by
  obtain ⟨h1, h2, h3⟩ := h
  refine ⟨h1, ⟨h2.1, ?_⟩, h3⟩
  rcases h2.2 with h' | ⟨g, cap', cur, h', hb, hg, r⟩
  · exact .inl h'
  · simp only [Value.slice.injEq] at h'
    obtain ⟨rfl, _, rfl⟩ := h'
    exact .inr ⟨g, cap, cur, rfl, hb, (hk _ rfl).trans hg, r⟩
theorem OwnP.lt {w : World} {base n cap : Nat} {s : Option Addr} {d : List Sp} (h : OwnP w base s n cap d) : ∀ a, s = some a → a.block < w.heap.size ∧ base ≤ a.block := by
  intro a ha
  rcases h.2.1.2 with ⟨h', _⟩ | ⟨g, cap', cur, h', hb, hg, r⟩
  · simp only [Value.slice.injEq] at h'
    rw [ha] at h'; cases h'.1
  · simp only [Value.slice.injEq] at h'
    rw [ha] at h'
    cases h'.1
    exact ⟨(Array.getElem?_eq_some_iff.1 hg).1, hb⟩
theorem OwnP.later {w w' : World} {base n cap : Nat} {s : Option Addr} {d : List Sp} (h : OwnP w base s n cap d) (hg : Grow w w') : OwnP w' base s n cap d :=
  h.keep fun a ha => hg.block _ (h.lt a ha).1
theorem OwnP.is {w : World} {base n cap : Nat} {s : Option Addr} {d : List Sp} (h : OwnP w base s n cap d) : IsSps w s n cap d := by
  obtain ⟨h1, h2, h3⟩ := h
  rcases h2.2 with ⟨h', h''⟩ | ⟨g, cap', cur, h', hb, hg, k1, k2, k3, k4⟩
  · have hn : n = 0 := h''
    refine ⟨h1, by omega, .inl ?_⟩
    exact List.eq_nil_of_length_eq_zero (by omega)
  · simp only [Value.slice.injEq] at h'
    obtain ⟨rfl, _, rfl⟩ := h'
    refine ⟨h1, k1, .inr ⟨g, 0, rfl, fun j v hj => ?_⟩⟩
    have hj' : j < n * 9 := by rw [← h1, ← flatP_len]; exact (List.getElem?_eq_some_iff.1 hj).1
    have := World.ownsRow.cellAt h2 j hj'
    rw [Nat.zero_add, this]; exact hj
theorem OwnP.rebase {w : World} {base base' n cap : Nat} {s : Option Addr} {d : List Sp} (h : OwnP w base s n cap d) (hb : base' ≤ base) : OwnP w base' s n cap d :=
  ⟨h.1, ⟨h.2.1.1, h.2.1.2.imp id fun ⟨g, cap', cur, e, hg, r⟩ => ⟨g, cap', cur, e, Nat.le_trans hb hg, r⟩⟩, h.2.2⟩
theorem OwnP.lit0 (w : World) (base : Nat) (hb : base ≤ w.heap.size) : OwnP (w.alloc (.cells #[] 120)) base (some ⟨w.heap.size, 0, none⟩) 0 0 [] :=
  ⟨rfl, ⟨rfl, .inr ⟨w.heap.size, 0, #[], rfl, hb, (MapKept.heap_alloc w _).1, Nat.le_refl _, Nat.zero_le _, rfl, rfl⟩⟩, fun h => by cases h⟩
theorem info_sp : ∃ i, Tryz.prog.info? 120 = some i ∧ i.zero = some (.agg #[.int .i64 0, .int .i64 0, .int .i64 0, .int .i64 0, .int .i64 0, .int .i64 0, .int .i64 0, .int .i64 0, .int .i64 0]) ∧ i.size = 9 ∧ i.bytes = 72 := by
  cases hi : Tryz.prog.info? 120 with
  | none =>
    have : (Tryz.prog.info? 120).isSome = true := by kernel_rfl
    rw [hi] at this; cases this
  | some i =>
    have hz : (Tryz.prog.info? 120).map (·.zero) = some (some (.agg #[.int .i64 0, .int .i64 0, .int .i64 0, .int .i64 0, .int .i64 0, .int .i64 0, .int .i64 0, .int .i64 0, .int .i64 0])) := by kernel_rfl
    have hs : (Tryz.prog.info? 120).map (·.size) = some 9 := by kernel_rfl
    have hb : (Tryz.prog.info? 120).map (·.bytes) = some 72 := by kernel_rfl
    rw [hi] at hz hs hb
    simp only [Option.map_some, Option.some.injEq] at hz hs hb
    exact ⟨i, rfl, hz, hs, hb⟩
theorem app_none_sp (s : Option Addr) (n cap : Nat) (hn : n ≤ cap) (c : Nat) (rt : TypeId) (w : World) :
    (Builtin.append_ #[96, 96] rt #[.slice s n cap, .slice none 0 c]).run Tryz.prog w = (Builtin.append_ #[96, 96] rt #[.slice s n cap, .slice (some ⟨0, 0, none⟩) 0 c]).run Tryz.prog w := by
  obtain ⟨i, hi, hz, hsz, hby⟩ := info_sp
  have hl : (loadCells ⟨0, 0, none⟩ 0).run Tryz.prog w = .ok #[] w := by simpa using run_loadCells_list (P := Tryz.prog) w ⟨0, 0, none⟩ [] (by simp)
  cases s <;> simp [Builtin.append_, run_underlying Tryz.underlying96, sizeOf, typeInfo, hi, Builtin.lenOf, Builtin.firstCells, hl, hn]
/-- What append does. -/
theorem run_ap_sp (w : World) (rt : TypeId) (base : Nat) (s : Option Addr) (n cap : Nat) (d e : List Sp) (hown : OwnP w base s n cap d) (s' : Option Addr) (m c : Nat) (he : IsSps w s' m c e) (hlen : n + m ≤ 1000000000000) (hbase : base ≤ w.heap.size) :
    ∃ s2 c2 w2, (Builtin.append_ #[96, 96] rt #[.slice s n cap, .slice s' m c]).run Tryz.prog w = .ok (.slice s2 (n + m) c2) w2
      ∧ OwnP w2 base s2 (n + m) c2 (d ++ e) ∧ w.grownBy w2 (s.map (·.block)) := by
  obtain ⟨i, hi, hz, hsz, hby⟩ := info_sp
  have hnc := hown.is.2.1
  obtain ⟨hm, _, hs⟩ := he
  obtain ⟨hn, hr, hz0⟩ := hown
  have key : ∀ (x : Addr), (∀ j u, (flatP e)[j]? = some u → w.cell? (x.add j) = some u) → ∃ s2 c2 w2, (Builtin.append_ #[96, 96] rt #[.slice s n cap, .slice (some x) m c]).run Tryz.prog w = .ok (.slice s2 (n + m) c2) w2
      ∧ OwnP w2 base s2 (n + m) c2 (d ++ e) ∧ w.grownBy w2 (s.map (·.block)) := by
    intro x hx
    obtain ⟨v', w', h0, h1, h2, h3, h4⟩ := run_append_own_at (P := Tryz.prog) w base 96 rt 120 i _ 9 72 Tryz.underlying96 hi hz hsz hby rfl (by omega) _ n (flatP d) hr x m c (flatP e) (by rw [flatP_len, hm]) hx (oneCell_flatP e) (by simp [maxLen]; omega) (by omega) hbase
    have hob : (Value.slice s n cap).ownBlock = s.map (·.block) := by cases s <;> rfl
    rw [hob] at h2 h4
    have hl : (d ++ e).length = n + m := by rw [List.length_append, hn, hm]
    have hfl : flatP d ++ flatP e = flatP (d ++ e) := (flatP_append d e).symm
    rw [hfl] at h1
    rcases h1.2 with ⟨h', h''⟩ | ⟨g', cap', cur, h', hb, hg, k⟩
    · subst h'
      have h5 : n + m = 0 := h''
      refine ⟨none, 0, w', by rw [h0, h5], ⟨hl, ?_, fun _ => rfl⟩, h2⟩
      rw [h5] at h1 ⊢
      exact h1
    · subst h'
      exact ⟨some ⟨g', 0, none⟩, cap', w', h0, ⟨hl, h1, fun k => by cases k⟩, h2⟩
  rcases hs with rfl | ⟨b, off, rfl, hrw⟩
  · have hm0 : m = 0 := by rw [← hm]; rfl
    subst hm0
    cases s' with
    | none =>
      rw [app_none_sp _ _ _ hnc]
      exact key _ (fun j v hj => by simp [flatP] at hj)
    | some a => exact key a (fun j v hj => by simp [flatP] at hj)
  · exact key _ (fun j v hj => by rw [addr_add]; exact hrw j v hj)
theorem wpList_apd_sp {w : World} {ops : Array Oper} {rest : List Oper} {o : Oper} {a : Act} {Q : Exit → Act → World → Prop} (hgd : o.guard = none) (s x : Operand)
    (ho : o.op = .call { callee := .builtin .append, args := #[s, x], argTypes := #[96, 96] })
    (base : Nat) (s0 : Option Addr) (n cap : Nat) (d e : List Sp) (hs : a.eval s = .slice s0 n cap) (hown : OwnP w base s0 n cap d)
    (s' : Option Addr) (m c : Nat) (hx : a.eval x = .slice s' m c) (he : IsSps w s' m c e) (hlen : n + m ≤ 1000000000000) (hbase : base ≤ w.heap.size)
    (h : ∀ s2 c2 w2, OwnP w2 base s2 (n + m) c2 (d ++ e) → GrewBut w w2 base s0 → wpList Tryz.prog ops Q rest (a.put o.dst (.slice s2 (n + m) c2)) w2) :
    wpList Tryz.prog ops Q (o :: rest) a w := by
  obtain ⟨s2, c2, w2, h0, h1, h2⟩ := run_ap_sp w o.type base s0 n cap d e hown s' m c he hlen hbase
  refine wpList_plain hgd fun K hK => ?_
  unfold Oper.wp execOp
  simp only [ho, resolve, invoke, builtin, Sem.run_bind, Sem.run_pure, Result.andThen_ok, List.map_toArray, List.map_cons, List.map_nil, hs, hx, h0]
  exact hK _ _ (h s2 c2 w2 h1 ⟨h2, fun b hb => (hown.lt b hb).2⟩)
/-- A block of the call's own, for one of these. -/
def BlkP (w : World) (b : Nat) : Prop := ∃ cs, w.heap[b]? = some (.cells cs 120 (0, 0)) ∧ cs.size = 9
theorem BlkP.lt {w : World} {b : Nat} (h : BlkP w b) : b < w.heap.size := by
  obtain ⟨cs, h, k⟩ := h
  exact (Array.getElem?_eq_some_iff.1 h).1
theorem BlkP.new (w : World) (cs : Array Value) (hc : cs.size = 9) : BlkP (w.alloc (.cells cs 120)) w.heap.size := ⟨_, (MapKept.heap_alloc w _).1, hc⟩
theorem BlkP.box {w : World} {b : Nat} (h : BlkP w b) (t : Sp) : BoxP (w.setRow b #[.int .i64 t.b.n, .int .i64 t.b.p, .int .i64 t.r.f, .int .i64 t.r.t, .int .i64 t.r.k, .int .i64 t.r.ep, .int .i64 t.r.x, .int .i64 t.r.y, .int .i64 t.r.z]) b t := by
  obtain ⟨cs, h, _⟩ := h
  exact ⟨by rw [cell_setRow_same w b 0 _ _ _ _ h]; rfl, by rw [cell_setRow_same w b 1 _ _ _ _ h]; rfl, by rw [cell_setRow_same w b 2 _ _ _ _ h]; rfl, by rw [cell_setRow_same w b 3 _ _ _ _ h]; rfl, by rw [cell_setRow_same w b 4 _ _ _ _ h]; rfl, by rw [cell_setRow_same w b 5 _ _ _ _ h]; rfl, by rw [cell_setRow_same w b 6 _ _ _ _ h]; rfl, by rw [cell_setRow_same w b 7 _ _ _ _ h]; rfl, by rw [cell_setRow_same w b 8 _ _ _ _ h]; rfl⟩
theorem wpList_putP {ops : Array Oper} {rest : List Oper} {o : Oper} {a : Act} {w : World} {Q : Exit → Act → World → Prop} (hgd : o.guard = none) (x y : Operand) (ho : o.op = .store 120 x y) (b : Nat) (t : Sp)
    (hx : a.eval x = .pointer (some ⟨b, 0, none⟩)) (hy : a.eval y = .agg #[.int .i64 t.b.n, .int .i64 t.b.p, .int .i64 t.r.f, .int .i64 t.r.t, .int .i64 t.r.k, .int .i64 t.r.ep, .int .i64 t.r.x, .int .i64 t.r.y, .int .i64 t.r.z]) (hb : BlkP w b) (W : World) (hg : Grow W w) (hW : W.heap.size ≤ b) (h : ∀ w2, Grow W w2 → BoxP w2 b t → w2.heap.size = w.heap.size → wpList Tryz.prog ops Q rest (a.put o.dst undef) w2) : wpList Tryz.prog ops Q (o :: rest) a w := by
  have hb' := hb
  obtain ⟨cs, hb1, hs⟩ := hb
  exact wpList_store_row hgd 120 x y ho b _ hx hy _ _ hb1 (by kernel_rfl) (by rw [hs]; rfl) (by simp [Value.oneCell']) (h _ (below_setRow hg hW _) (hb'.box t) (by simp [World.setRow]))
/-- It lies in a block. -/
def BoxQ (w : World) (b : Nat) (t : Stp) : Prop := w.cell? ⟨b, 0, none⟩ = some (.int .i64 t.a.n) ∧ w.cell? ⟨b, 1, none⟩ = some (.int .i64 t.a.p) ∧ w.cell? ⟨b, 2, none⟩ = some (.int .i64 t.b.n) ∧ w.cell? ⟨b, 3, none⟩ = some (.int .i64 t.b.p) ∧ w.cell? ⟨b, 4, none⟩ = some (.int .i64 t.r.f) ∧ w.cell? ⟨b, 5, none⟩ = some (.int .i64 t.r.t) ∧ w.cell? ⟨b, 6, none⟩ = some (.int .i64 t.r.k) ∧ w.cell? ⟨b, 7, none⟩ = some (.int .i64 t.r.ep) ∧ w.cell? ⟨b, 8, none⟩ = some (.int .i64 t.r.x) ∧ w.cell? ⟨b, 9, none⟩ = some (.int .i64 t.r.y) ∧ w.cell? ⟨b, 10, none⟩ = some (.int .i64 t.r.z)
theorem BoxQ.later {w w' : World} {b : Nat} {t : Stp} (hg : Grow w w') (h : BoxQ w b t) : BoxQ w' b t := by
  obtain ⟨h0, h1, h2, h3, h4, h5, h6, h7, h8, h9, h10⟩ := h
  exact ⟨cell_later hg h0, cell_later hg h1, cell_later hg h2, cell_later hg h3, cell_later hg h4, cell_later hg h5, cell_later hg h6, cell_later hg h7, cell_later hg h8, cell_later hg h9, cell_later hg h10⟩
theorem BoxQ.new (w : World) (t : Stp) : BoxQ (w.alloc (.cells #[.int .i64 t.a.n, .int .i64 t.a.p, .int .i64 t.b.n, .int .i64 t.b.p, .int .i64 t.r.f, .int .i64 t.r.t, .int .i64 t.r.k, .int .i64 t.r.ep, .int .i64 t.r.x, .int .i64 t.r.y, .int .i64 t.r.z] 105)) w.heap.size t := by simp [BoxQ, go_sem]
theorem BoxQ.lt {w : World} {b : Nat} {t : Stp} (h : BoxQ w b t) : b < w.heap.size := World.block_lt_of_cell? _ _ h.1
def encQ (t : Stp) : List Value := [.int .i64 t.a.n, .int .i64 t.a.p, .int .i64 t.b.n, .int .i64 t.b.p, .int .i64 t.r.f, .int .i64 t.r.t, .int .i64 t.r.k, .int .i64 t.r.ep, .int .i64 t.r.x, .int .i64 t.r.y, .int .i64 t.r.z]
theorem encQ_len (t : Stp) : (encQ t).length = 11 := rfl
/-- The cells of a row. -/
def flatQ (d : List Stp) : List Value := d.flatMap encQ
theorem flatQ_nil : flatQ [] = [] := rfl
theorem flatQ_cons (t : Stp) (d : List Stp) : flatQ (t :: d) = encQ t ++ flatQ d := rfl
theorem flatQ_append (d e : List Stp) : flatQ (d ++ e) = flatQ d ++ flatQ e := by simp [flatQ]
theorem flatQ_len : ∀ d : List Stp, (flatQ d).length = d.length * 11
  | [] => rfl
  | t :: d => by rw [flatQ_cons, List.length_append, flatQ_len d, encQ_len, List.length_cons]; omega
theorem flatQ_drop : ∀ (d : List Stp) (j : Nat), (flatQ d).drop (j * 11) = flatQ (d.drop j)
  | [], j => by simp [flatQ]
  | t :: d, 0 => by simp
  | t :: d, j + 1 => by
    rw [flatQ_cons, show (j + 1) * 11 = (encQ t).length + j * 11 by rw [encQ_len]; omega, List.drop_append, List.drop_of_length_le (by omega)]
    simpa using flatQ_drop d j
theorem flatQ_take : ∀ (d : List Stp) (j : Nat), (flatQ d).take (j * 11) = flatQ (d.take j)
  | [], j => by simp [flatQ]
  | t :: d, 0 => by simp [flatQ]
  | t :: d, j + 1 => by
    rw [flatQ_cons, show (j + 1) * 11 = (encQ t).length + j * 11 by rw [encQ_len]; omega, List.take_length_add_append, flatQ_take d j]
    rfl
theorem flatQ_get (d : List Stp) (j i : Nat) (hj : j < d.length) (hi : i < 11) : (flatQ d)[j * 11 + i]? = (encQ d[j])[i]? := by
  rw [← List.getElem?_drop, flatQ_drop, List.drop_eq_getElem_cons hj, flatQ_cons, List.getElem?_append_left (by rw [encQ_len]; exact hi)]
theorem oneCell_encQ (x : Stp) : ∀ v ∈ encQ x, v.oneCell' = true := by
  intro v hv
  simp [encQ] at hv
  rcases hv with rfl | rfl | rfl | rfl | rfl | rfl | rfl | rfl | rfl | rfl | rfl <;> rfl
theorem oneCell_flatQ (d : List Stp) : ∀ v ∈ flatQ d, v.oneCell' = true := by
  intro v hv
  obtain ⟨x, _, hx⟩ := List.mem_flatMap.1 hv
  exact oneCell_encQ x v hx
/-- A row lies in a block. -/
def RowQ (w : World) (b o : Nat) (d : List Stp) : Prop := ∀ (j : Nat) v, (flatQ d)[j]? = some v → w.cell? ⟨b, o + j, none⟩ = some v
theorem RowQ.later {w w' : World} {b o : Nat} {d : List Stp} (hg : Grow w w') (h : RowQ w b o d) : RowQ w' b o d := fun j v hj => cell_later hg (h j v hj)
theorem RowQ.at {w : World} {b o : Nat} {d : List Stp} (h : RowQ w b o d) (j : Nat) (hj : j < d.length) :
    w.cell? ⟨b, o + j * 11, none⟩ = some (.int .i64 d[j].a.n) ∧ w.cell? ⟨b, o + j * 11 + 1, none⟩ = some (.int .i64 d[j].a.p) ∧ w.cell? ⟨b, o + j * 11 + 2, none⟩ = some (.int .i64 d[j].b.n) ∧ w.cell? ⟨b, o + j * 11 + 3, none⟩ = some (.int .i64 d[j].b.p) ∧ w.cell? ⟨b, o + j * 11 + 4, none⟩ = some (.int .i64 d[j].r.f) ∧ w.cell? ⟨b, o + j * 11 + 5, none⟩ = some (.int .i64 d[j].r.t) ∧ w.cell? ⟨b, o + j * 11 + 6, none⟩ = some (.int .i64 d[j].r.k) ∧ w.cell? ⟨b, o + j * 11 + 7, none⟩ = some (.int .i64 d[j].r.ep) ∧ w.cell? ⟨b, o + j * 11 + 8, none⟩ = some (.int .i64 d[j].r.x) ∧ w.cell? ⟨b, o + j * 11 + 9, none⟩ = some (.int .i64 d[j].r.y) ∧ w.cell? ⟨b, o + j * 11 + 10, none⟩ = some (.int .i64 d[j].r.z) := by
  have k (i : Nat) (hi : i < 11) (v : Value) (hv : (encQ d[j])[i]? = some v) : w.cell? ⟨b, o + (j * 11 + i), none⟩ = some v := h _ v (by rw [flatQ_get d j i hj hi]; exact hv)
  exact ⟨k 0 (by omega) _ rfl, k 1 (by omega) _ rfl, k 2 (by omega) _ rfl, k 3 (by omega) _ rfl, k 4 (by omega) _ rfl, k 5 (by omega) _ rfl, k 6 (by omega) _ rfl, k 7 (by omega) _ rfl, k 8 (by omega) _ rfl, k 9 (by omega) _ rfl, k 10 (by omega) _ rfl⟩
theorem RowQ.take' {w : World} {b o : Nat} {d : List Stp} (h : RowQ w b o d) (k : Nat) : RowQ w b o (d.take k) := by
  intro j v hj
  rw [← flatQ_take] at hj
  refine h j v ?_
  rw [List.getElem?_take] at hj
  split at hj
  · exact hj
  · cases hj
theorem RowQ_one (w : World) (t : Stp) : RowQ (w.alloc (.cells #[.int .i64 t.a.n, .int .i64 t.a.p, .int .i64 t.b.n, .int .i64 t.b.p, .int .i64 t.r.f, .int .i64 t.r.t, .int .i64 t.r.k, .int .i64 t.r.ep, .int .i64 t.r.x, .int .i64 t.r.y, .int .i64 t.r.z] 105)) w.heap.size 0 [t] := by
  intro j v hj
  have hj' : j < 11 := by
    have := (List.getElem?_eq_some_iff.1 hj).1
    rw [flatQ_len] at this
    simpa using this
  have e : flatQ [t] = encQ t := by simp [flatQ]
  rw [e] at hj
  have : j = 0 ∨ j = 1 ∨ j = 2 ∨ j = 3 ∨ j = 4 ∨ j = 5 ∨ j = 6 ∨ j = 7 ∨ j = 8 ∨ j = 9 ∨ j = 10 := by omega
  rcases this with rfl | rfl | rfl | rfl | rfl | rfl | rfl | rfl | rfl | rfl | rfl <;> simp [encQ] at hj <;> subst hj <;> simp [go_sem]
theorem RowQ_of {w : World} {b o : Nat} (f : Nat → Stp) (n : Nat) (h : ∀ i, i < n → ∀ j : Nat, j < 11 → w.cell? ⟨b, o + (i * 11 + j), none⟩ = (encQ (f i))[j]?) : RowQ w b o ((List.range n).map f) := by
  intro k v hk
  have hk' : k < n * 11 := by
    have := (List.getElem?_eq_some_iff.1 hk).1
    rw [flatQ_len] at this
    simpa using this
  have e : k = k / 11 * 11 + k % 11 := by omega
  have h1 := flatQ_get ((List.range n).map f) (k / 11) (k % 11) (by simp; omega) (by omega)
  rw [← e, hk] at h1
  have h2 := h (k / 11) (by omega) (k % 11) (by omega)
  rw [← e] at h2
  rw [h2, h1]
  simp
/-- A slice that came in. -/
def IsSts (w : World) (s : Option Addr) (n cap : Nat) (d : List Stp) : Prop :=
  d.length = n ∧ n ≤ cap ∧ (d = [] ∨ ∃ b o, s = some ⟨b, o, none⟩ ∧ RowQ w b o d)
theorem IsSts.later {w w' : World} {s : Option Addr} {n cap : Nat} {d : List Stp} (hg : Grow w w') (h : IsSts w s n cap d) : IsSts w' s n cap d :=
  ⟨h.1, h.2.1, h.2.2.imp id fun ⟨b, o, e, r⟩ => ⟨b, o, e, r.later hg⟩⟩
/-- The first k of them. -/
theorem IsSts.take' {w : World} {s : Option Addr} {n cap : Nat} {d : List Stp} (h : IsSts w s n cap d) (k : Nat) (hk : k ≤ n) : IsSts w s k cap (d.take k) :=
  ⟨by rw [List.length_take, h.1]; omega, by have := h.2.1; omega, h.2.2.imp (fun e => by rw [e]; simp) fun ⟨b, o, e, r⟩ => ⟨b, o, e, r.take' k⟩⟩
theorem IsSts_nil (w : World) : IsSts w none 0 0 [] := ⟨rfl, Nat.le_refl _, .inl rfl⟩
/-- The call owns a row, or it is nil. -/
def OwnQ (w : World) (base : Nat) (s : Option Addr) (n cap : Nat) (d : List Stp) : Prop :=
  d.length = n ∧ w.ownsRow base 105 11 (.slice s n cap) n (flatQ d) ∧ (s = none → cap = 0)
theorem OwnQ.nil (w : World) (base : Nat) : OwnQ w base none 0 0 [] := ⟨rfl, World.ownsRow_nil w base _ _, fun _ => rfl⟩
theorem OwnQ.keep {w w' : World} {base n cap : Nat} {s : Option Addr} {d : List Stp} (h : OwnQ w base s n cap d) (hk : ∀ a, s = some a → w'.heap[a.block]? = w.heap[a.block]?) : OwnQ w' base s n cap d := by
  obtain ⟨h1, h2, h3⟩ := h
  refine ⟨h1, ⟨h2.1, ?_⟩, h3⟩
  rcases h2.2 with h' | ⟨g, cap', cur, h', hb, hg, r⟩
  · exact .inl h'
  · simp only [Value.slice.injEq] at h'
    obtain ⟨rfl, _, rfl⟩ := h'
    exact .inr ⟨g, cap, cur, rfl, hb, (hk _ rfl).trans hg, r⟩
theorem OwnQ.lt {w : World} {base n cap : Nat} {s : Option Addr} {d : List Stp} (h : OwnQ w base s n cap d) : ∀ a, s = some a → a.block < w.heap.size ∧ base ≤ a.block := by
  intro a ha
  rcases h.2.1.2 with ⟨h', _⟩ | ⟨g, cap', cur, h', hb, hg, r⟩
  · simp only [Value.slice.injEq] at h'
    rw [ha] at h'; cases h'.1
  · simp only [Value.slice.injEq] at h'
    rw [ha] at h'
    cases h'.1
    exact ⟨(Array.getElem?_eq_some_iff.1 hg).1, hb⟩
theorem OwnQ.later {w w' : World} {base n cap : Nat} {s : Option Addr} {d : List Stp} (h : OwnQ w base s n cap d) (hg : Grow w w') : OwnQ w' base s n cap d :=
  h.keep fun a ha => hg.block _ (h.lt a ha).1
theorem OwnQ.is {w : World} {base n cap : Nat} {s : Option Addr} {d : List Stp} (h : OwnQ w base s n cap d) : IsSts w s n cap d := by
  obtain ⟨h1, h2, h3⟩ := h
  rcases h2.2 with ⟨h', h''⟩ | ⟨g, cap', cur, h', hb, hg, k1, k2, k3, k4⟩
  · have hn : n = 0 := h''
    refine ⟨h1, by omega, .inl ?_⟩
    exact List.eq_nil_of_length_eq_zero (by omega)
  · simp only [Value.slice.injEq] at h'
    obtain ⟨rfl, _, rfl⟩ := h'
    refine ⟨h1, k1, .inr ⟨g, 0, rfl, fun j v hj => ?_⟩⟩
    have hj' : j < n * 11 := by rw [← h1, ← flatQ_len]; exact (List.getElem?_eq_some_iff.1 hj).1
    have := World.ownsRow.cellAt h2 j hj'
    rw [Nat.zero_add, this]; exact hj
theorem OwnQ.rebase {w : World} {base base' n cap : Nat} {s : Option Addr} {d : List Stp} (h : OwnQ w base s n cap d) (hb : base' ≤ base) : OwnQ w base' s n cap d :=
  ⟨h.1, ⟨h.2.1.1, h.2.1.2.imp id fun ⟨g, cap', cur, e, hg, r⟩ => ⟨g, cap', cur, e, Nat.le_trans hb hg, r⟩⟩, h.2.2⟩
theorem OwnQ.lit0 (w : World) (base : Nat) (hb : base ≤ w.heap.size) : OwnQ (w.alloc (.cells #[] 105)) base (some ⟨w.heap.size, 0, none⟩) 0 0 [] :=
  ⟨rfl, ⟨rfl, .inr ⟨w.heap.size, 0, #[], rfl, hb, (MapKept.heap_alloc w _).1, Nat.le_refl _, Nat.zero_le _, rfl, rfl⟩⟩, fun h => by cases h⟩
theorem info_st : ∃ i, Tryz.prog.info? 105 = some i ∧ i.zero = some (.agg #[.int .i64 0, .int .i64 0, .int .i64 0, .int .i64 0, .int .i64 0, .int .i64 0, .int .i64 0, .int .i64 0, .int .i64 0, .int .i64 0, .int .i64 0]) ∧ i.size = 11 ∧ i.bytes = 88 := by
  cases hi : Tryz.prog.info? 105 with
  | none =>
    have : (Tryz.prog.info? 105).isSome = true := by kernel_rfl
    rw [hi] at this; cases this
  | some i =>
    have hz : (Tryz.prog.info? 105).map (·.zero) = some (some (.agg #[.int .i64 0, .int .i64 0, .int .i64 0, .int .i64 0, .int .i64 0, .int .i64 0, .int .i64 0, .int .i64 0, .int .i64 0, .int .i64 0, .int .i64 0])) := by kernel_rfl
    have hs : (Tryz.prog.info? 105).map (·.size) = some 11 := by kernel_rfl
    have hb : (Tryz.prog.info? 105).map (·.bytes) = some 88 := by kernel_rfl
    rw [hi] at hz hs hb
    simp only [Option.map_some, Option.some.injEq] at hz hs hb
    exact ⟨i, rfl, hz, hs, hb⟩
theorem app_none_st (s : Option Addr) (n cap : Nat) (hn : n ≤ cap) (c : Nat) (rt : TypeId) (w : World) :
    (Builtin.append_ #[102, 102] rt #[.slice s n cap, .slice none 0 c]).run Tryz.prog w = (Builtin.append_ #[102, 102] rt #[.slice s n cap, .slice (some ⟨0, 0, none⟩) 0 c]).run Tryz.prog w := by
  obtain ⟨i, hi, hz, hsz, hby⟩ := info_st
  have hl : (loadCells ⟨0, 0, none⟩ 0).run Tryz.prog w = .ok #[] w := by simpa using run_loadCells_list (P := Tryz.prog) w ⟨0, 0, none⟩ [] (by simp)
  cases s <;> simp [Builtin.append_, run_underlying Tryz.underlying102, sizeOf, typeInfo, hi, Builtin.lenOf, Builtin.firstCells, hl, hn]
/-- What append does. -/
theorem run_ap_st (w : World) (rt : TypeId) (base : Nat) (s : Option Addr) (n cap : Nat) (d e : List Stp) (hown : OwnQ w base s n cap d) (s' : Option Addr) (m c : Nat) (he : IsSts w s' m c e) (hlen : n + m ≤ 1000000000000) (hbase : base ≤ w.heap.size) :
    ∃ s2 c2 w2, (Builtin.append_ #[102, 102] rt #[.slice s n cap, .slice s' m c]).run Tryz.prog w = .ok (.slice s2 (n + m) c2) w2
      ∧ OwnQ w2 base s2 (n + m) c2 (d ++ e) ∧ w.grownBy w2 (s.map (·.block)) := by
  obtain ⟨i, hi, hz, hsz, hby⟩ := info_st
  have hnc := hown.is.2.1
  obtain ⟨hm, _, hs⟩ := he
  obtain ⟨hn, hr, hz0⟩ := hown
  have key : ∀ (x : Addr), (∀ j u, (flatQ e)[j]? = some u → w.cell? (x.add j) = some u) → ∃ s2 c2 w2, (Builtin.append_ #[102, 102] rt #[.slice s n cap, .slice (some x) m c]).run Tryz.prog w = .ok (.slice s2 (n + m) c2) w2
      ∧ OwnQ w2 base s2 (n + m) c2 (d ++ e) ∧ w.grownBy w2 (s.map (·.block)) := by
    intro x hx
    obtain ⟨v', w', h0, h1, h2, h3, h4⟩ := run_append_own_at (P := Tryz.prog) w base 102 rt 105 i _ 11 88 Tryz.underlying102 hi hz hsz hby rfl (by omega) _ n (flatQ d) hr x m c (flatQ e) (by rw [flatQ_len, hm]) hx (oneCell_flatQ e) (by simp [maxLen]; omega) (by omega) hbase
    have hob : (Value.slice s n cap).ownBlock = s.map (·.block) := by cases s <;> rfl
    rw [hob] at h2 h4
    have hl : (d ++ e).length = n + m := by rw [List.length_append, hn, hm]
    have hfl : flatQ d ++ flatQ e = flatQ (d ++ e) := (flatQ_append d e).symm
    rw [hfl] at h1
    rcases h1.2 with ⟨h', h''⟩ | ⟨g', cap', cur, h', hb, hg, k⟩
    · subst h'
      have h5 : n + m = 0 := h''
      refine ⟨none, 0, w', by rw [h0, h5], ⟨hl, ?_, fun _ => rfl⟩, h2⟩
      rw [h5] at h1 ⊢
      exact h1
    · subst h'
      exact ⟨some ⟨g', 0, none⟩, cap', w', h0, ⟨hl, h1, fun k => by cases k⟩, h2⟩
  rcases hs with rfl | ⟨b, off, rfl, hrw⟩
  · have hm0 : m = 0 := by rw [← hm]; rfl
    subst hm0
    cases s' with
    | none =>
      rw [app_none_st _ _ _ hnc]
      exact key _ (fun j v hj => by simp [flatQ] at hj)
    | some a => exact key a (fun j v hj => by simp [flatQ] at hj)
  · exact key _ (fun j v hj => by rw [addr_add]; exact hrw j v hj)
theorem wpList_apd_st {w : World} {ops : Array Oper} {rest : List Oper} {o : Oper} {a : Act} {Q : Exit → Act → World → Prop} (hgd : o.guard = none) (s x : Operand)
    (ho : o.op = .call { callee := .builtin .append, args := #[s, x], argTypes := #[102, 102] })
    (base : Nat) (s0 : Option Addr) (n cap : Nat) (d e : List Stp) (hs : a.eval s = .slice s0 n cap) (hown : OwnQ w base s0 n cap d)
    (s' : Option Addr) (m c : Nat) (hx : a.eval x = .slice s' m c) (he : IsSts w s' m c e) (hlen : n + m ≤ 1000000000000) (hbase : base ≤ w.heap.size)
    (h : ∀ s2 c2 w2, OwnQ w2 base s2 (n + m) c2 (d ++ e) → GrewBut w w2 base s0 → wpList Tryz.prog ops Q rest (a.put o.dst (.slice s2 (n + m) c2)) w2) :
    wpList Tryz.prog ops Q (o :: rest) a w := by
  obtain ⟨s2, c2, w2, h0, h1, h2⟩ := run_ap_st w o.type base s0 n cap d e hown s' m c he hlen hbase
  refine wpList_plain hgd fun K hK => ?_
  unfold Oper.wp execOp
  simp only [ho, resolve, invoke, builtin, Sem.run_bind, Sem.run_pure, Result.andThen_ok, List.map_toArray, List.map_cons, List.map_nil, hs, hx, h0]
  exact hK _ _ (h s2 c2 w2 h1 ⟨h2, fun b hb => (hown.lt b hb).2⟩)
/-- A block of the call's own, for one of these. -/
def BlkQ (w : World) (b : Nat) : Prop := ∃ cs, w.heap[b]? = some (.cells cs 105 (0, 0)) ∧ cs.size = 11
theorem BlkQ.lt {w : World} {b : Nat} (h : BlkQ w b) : b < w.heap.size := by
  obtain ⟨cs, h, k⟩ := h
  exact (Array.getElem?_eq_some_iff.1 h).1
theorem BlkQ.new (w : World) (cs : Array Value) (hc : cs.size = 11) : BlkQ (w.alloc (.cells cs 105)) w.heap.size := ⟨_, (MapKept.heap_alloc w _).1, hc⟩
theorem BlkQ.box {w : World} {b : Nat} (h : BlkQ w b) (t : Stp) : BoxQ (w.setRow b #[.int .i64 t.a.n, .int .i64 t.a.p, .int .i64 t.b.n, .int .i64 t.b.p, .int .i64 t.r.f, .int .i64 t.r.t, .int .i64 t.r.k, .int .i64 t.r.ep, .int .i64 t.r.x, .int .i64 t.r.y, .int .i64 t.r.z]) b t := by
  obtain ⟨cs, h, _⟩ := h
  exact ⟨by rw [cell_setRow_same w b 0 _ _ _ _ h]; rfl, by rw [cell_setRow_same w b 1 _ _ _ _ h]; rfl, by rw [cell_setRow_same w b 2 _ _ _ _ h]; rfl, by rw [cell_setRow_same w b 3 _ _ _ _ h]; rfl, by rw [cell_setRow_same w b 4 _ _ _ _ h]; rfl, by rw [cell_setRow_same w b 5 _ _ _ _ h]; rfl, by rw [cell_setRow_same w b 6 _ _ _ _ h]; rfl, by rw [cell_setRow_same w b 7 _ _ _ _ h]; rfl, by rw [cell_setRow_same w b 8 _ _ _ _ h]; rfl, by rw [cell_setRow_same w b 9 _ _ _ _ h]; rfl, by rw [cell_setRow_same w b 10 _ _ _ _ h]; rfl⟩
theorem wpList_putQ {ops : Array Oper} {rest : List Oper} {o : Oper} {a : Act} {w : World} {Q : Exit → Act → World → Prop} (hgd : o.guard = none) (x y : Operand) (ho : o.op = .store 105 x y) (b : Nat) (t : Stp)
    (hx : a.eval x = .pointer (some ⟨b, 0, none⟩)) (hy : a.eval y = .agg #[.int .i64 t.a.n, .int .i64 t.a.p, .int .i64 t.b.n, .int .i64 t.b.p, .int .i64 t.r.f, .int .i64 t.r.t, .int .i64 t.r.k, .int .i64 t.r.ep, .int .i64 t.r.x, .int .i64 t.r.y, .int .i64 t.r.z]) (hb : BlkQ w b) (W : World) (hg : Grow W w) (hW : W.heap.size ≤ b) (h : ∀ w2, Grow W w2 → BoxQ w2 b t → w2.heap.size = w.heap.size → wpList Tryz.prog ops Q rest (a.put o.dst undef) w2) : wpList Tryz.prog ops Q (o :: rest) a w := by
  have hb' := hb
  obtain ⟨cs, hb1, hs⟩ := hb
  exact wpList_store_row hgd 105 x y ho b _ hx hy _ _ hb1 (by kernel_rfl) (by rw [hs]; rfl) (by simp [Value.oneCell']) (h _ (below_setRow hg hW _) (hb'.box t) (by simp [World.setRow]))
/-- It lies in a block. -/
def BoxC (w : World) (b : Nat) (t : Ch) : Prop := w.cell? ⟨b, 0, none⟩ = some (.int .i64 t.l.n) ∧ w.cell? ⟨b, 1, none⟩ = some (.int .i64 t.l.p) ∧ w.cell? ⟨b, 2, none⟩ = some (.int .i64 t.t.e) ∧ w.cell? ⟨b, 3, none⟩ = some (.int .i64 t.t.d) ∧ w.cell? ⟨b, 4, none⟩ = some (.int .i64 t.t.x) ∧ w.cell? ⟨b, 5, none⟩ = some (.int .i64 t.t.y) ∧ w.cell? ⟨b, 6, none⟩ = some (.int .i64 t.t.z) ∧ w.cell? ⟨b, 7, none⟩ = some (.int .i64 t.n)
theorem BoxC.later {w w' : World} {b : Nat} {t : Ch} (hg : Grow w w') (h : BoxC w b t) : BoxC w' b t := by
  obtain ⟨h0, h1, h2, h3, h4, h5, h6, h7⟩ := h
  exact ⟨cell_later hg h0, cell_later hg h1, cell_later hg h2, cell_later hg h3, cell_later hg h4, cell_later hg h5, cell_later hg h6, cell_later hg h7⟩
theorem BoxC.new (w : World) (t : Ch) : BoxC (w.alloc (.cells #[.int .i64 t.l.n, .int .i64 t.l.p, .int .i64 t.t.e, .int .i64 t.t.d, .int .i64 t.t.x, .int .i64 t.t.y, .int .i64 t.t.z, .int .i64 t.n] 45)) w.heap.size t := by simp [BoxC, go_sem]
theorem BoxC.lt {w : World} {b : Nat} {t : Ch} (h : BoxC w b t) : b < w.heap.size := World.block_lt_of_cell? _ _ h.1
def encC (t : Ch) : List Value := [.int .i64 t.l.n, .int .i64 t.l.p, .int .i64 t.t.e, .int .i64 t.t.d, .int .i64 t.t.x, .int .i64 t.t.y, .int .i64 t.t.z, .int .i64 t.n]
theorem encC_len (t : Ch) : (encC t).length = 8 := rfl
/-- The cells of a row. -/
def flatC (d : List Ch) : List Value := d.flatMap encC
theorem flatC_nil : flatC [] = [] := rfl
theorem flatC_cons (t : Ch) (d : List Ch) : flatC (t :: d) = encC t ++ flatC d := rfl
theorem flatC_append (d e : List Ch) : flatC (d ++ e) = flatC d ++ flatC e := by simp [flatC]
theorem flatC_len : ∀ d : List Ch, (flatC d).length = d.length * 8
  | [] => rfl
  | t :: d => by rw [flatC_cons, List.length_append, flatC_len d, encC_len, List.length_cons]; omega
theorem flatC_drop : ∀ (d : List Ch) (j : Nat), (flatC d).drop (j * 8) = flatC (d.drop j)
  | [], j => by simp [flatC]
  | t :: d, 0 => by simp
  | t :: d, j + 1 => by
    rw [flatC_cons, show (j + 1) * 8 = (encC t).length + j * 8 by rw [encC_len]; omega, List.drop_append, List.drop_of_length_le (by omega)]
    simpa using flatC_drop d j
theorem flatC_take : ∀ (d : List Ch) (j : Nat), (flatC d).take (j * 8) = flatC (d.take j)
  | [], j => by simp [flatC]
  | t :: d, 0 => by simp [flatC]
  | t :: d, j + 1 => by
    rw [flatC_cons, show (j + 1) * 8 = (encC t).length + j * 8 by rw [encC_len]; omega, List.take_length_add_append, flatC_take d j]
    rfl
theorem flatC_get (d : List Ch) (j i : Nat) (hj : j < d.length) (hi : i < 8) : (flatC d)[j * 8 + i]? = (encC d[j])[i]? := by
  rw [← List.getElem?_drop, flatC_drop, List.drop_eq_getElem_cons hj, flatC_cons, List.getElem?_append_left (by rw [encC_len]; exact hi)]
theorem oneCell_encC (x : Ch) : ∀ v ∈ encC x, v.oneCell' = true := by
  intro v hv
  simp [encC] at hv
  rcases hv with rfl | rfl | rfl | rfl | rfl | rfl | rfl | rfl <;> rfl
theorem oneCell_flatC (d : List Ch) : ∀ v ∈ flatC d, v.oneCell' = true := by
  intro v hv
  obtain ⟨x, _, hx⟩ := List.mem_flatMap.1 hv
  exact oneCell_encC x v hx
/-- A row lies in a block. -/
def RowCh (w : World) (b o : Nat) (d : List Ch) : Prop := ∀ (j : Nat) v, (flatC d)[j]? = some v → w.cell? ⟨b, o + j, none⟩ = some v
theorem RowCh.later {w w' : World} {b o : Nat} {d : List Ch} (hg : Grow w w') (h : RowCh w b o d) : RowCh w' b o d := fun j v hj => cell_later hg (h j v hj)
theorem RowCh.at {w : World} {b o : Nat} {d : List Ch} (h : RowCh w b o d) (j : Nat) (hj : j < d.length) :
    w.cell? ⟨b, o + j * 8, none⟩ = some (.int .i64 d[j].l.n) ∧ w.cell? ⟨b, o + j * 8 + 1, none⟩ = some (.int .i64 d[j].l.p) ∧ w.cell? ⟨b, o + j * 8 + 2, none⟩ = some (.int .i64 d[j].t.e) ∧ w.cell? ⟨b, o + j * 8 + 3, none⟩ = some (.int .i64 d[j].t.d) ∧ w.cell? ⟨b, o + j * 8 + 4, none⟩ = some (.int .i64 d[j].t.x) ∧ w.cell? ⟨b, o + j * 8 + 5, none⟩ = some (.int .i64 d[j].t.y) ∧ w.cell? ⟨b, o + j * 8 + 6, none⟩ = some (.int .i64 d[j].t.z) ∧ w.cell? ⟨b, o + j * 8 + 7, none⟩ = some (.int .i64 d[j].n) := by
  have k (i : Nat) (hi : i < 8) (v : Value) (hv : (encC d[j])[i]? = some v) : w.cell? ⟨b, o + (j * 8 + i), none⟩ = some v := h _ v (by rw [flatC_get d j i hj hi]; exact hv)
  exact ⟨k 0 (by omega) _ rfl, k 1 (by omega) _ rfl, k 2 (by omega) _ rfl, k 3 (by omega) _ rfl, k 4 (by omega) _ rfl, k 5 (by omega) _ rfl, k 6 (by omega) _ rfl, k 7 (by omega) _ rfl⟩
theorem RowCh.take' {w : World} {b o : Nat} {d : List Ch} (h : RowCh w b o d) (k : Nat) : RowCh w b o (d.take k) := by
  intro j v hj
  rw [← flatC_take] at hj
  refine h j v ?_
  rw [List.getElem?_take] at hj
  split at hj
  · exact hj
  · cases hj
theorem RowCh_one (w : World) (t : Ch) : RowCh (w.alloc (.cells #[.int .i64 t.l.n, .int .i64 t.l.p, .int .i64 t.t.e, .int .i64 t.t.d, .int .i64 t.t.x, .int .i64 t.t.y, .int .i64 t.t.z, .int .i64 t.n] 45)) w.heap.size 0 [t] := by
  intro j v hj
  have hj' : j < 8 := by
    have := (List.getElem?_eq_some_iff.1 hj).1
    rw [flatC_len] at this
    simpa using this
  have e : flatC [t] = encC t := by simp [flatC]
  rw [e] at hj
  have : j = 0 ∨ j = 1 ∨ j = 2 ∨ j = 3 ∨ j = 4 ∨ j = 5 ∨ j = 6 ∨ j = 7 := by omega
  rcases this with rfl | rfl | rfl | rfl | rfl | rfl | rfl | rfl <;> simp [encC] at hj <;> subst hj <;> simp [go_sem]
theorem RowCh_of {w : World} {b o : Nat} (f : Nat → Ch) (n : Nat) (h : ∀ i, i < n → ∀ j : Nat, j < 8 → w.cell? ⟨b, o + (i * 8 + j), none⟩ = (encC (f i))[j]?) : RowCh w b o ((List.range n).map f) := by
  intro k v hk
  have hk' : k < n * 8 := by
    have := (List.getElem?_eq_some_iff.1 hk).1
    rw [flatC_len] at this
    simpa using this
  have e : k = k / 8 * 8 + k % 8 := by omega
  have h1 := flatC_get ((List.range n).map f) (k / 8) (k % 8) (by simp; omega) (by omega)
  rw [← e, hk] at h1
  have h2 := h (k / 8) (by omega) (k % 8) (by omega)
  rw [← e] at h2
  rw [h2, h1]
  simp
/-- A slice that came in. -/
def IsChs (w : World) (s : Option Addr) (n cap : Nat) (d : List Ch) : Prop :=
  d.length = n ∧ n ≤ cap ∧ (d = [] ∨ ∃ b o, s = some ⟨b, o, none⟩ ∧ RowCh w b o d)
theorem IsChs.later {w w' : World} {s : Option Addr} {n cap : Nat} {d : List Ch} (hg : Grow w w') (h : IsChs w s n cap d) : IsChs w' s n cap d :=
  ⟨h.1, h.2.1, h.2.2.imp id fun ⟨b, o, e, r⟩ => ⟨b, o, e, r.later hg⟩⟩
/-- The first k of them. -/
theorem IsChs.take' {w : World} {s : Option Addr} {n cap : Nat} {d : List Ch} (h : IsChs w s n cap d) (k : Nat) (hk : k ≤ n) : IsChs w s k cap (d.take k) :=
  ⟨by rw [List.length_take, h.1]; omega, by have := h.2.1; omega, h.2.2.imp (fun e => by rw [e]; simp) fun ⟨b, o, e, r⟩ => ⟨b, o, e, r.take' k⟩⟩
theorem IsChs_nil (w : World) : IsChs w none 0 0 [] := ⟨rfl, Nat.le_refl _, .inl rfl⟩
/-- The call owns a row, or it is nil. -/
def OwnC (w : World) (base : Nat) (s : Option Addr) (n cap : Nat) (d : List Ch) : Prop :=
  d.length = n ∧ w.ownsRow base 45 8 (.slice s n cap) n (flatC d) ∧ (s = none → cap = 0)
theorem OwnC.nil (w : World) (base : Nat) : OwnC w base none 0 0 [] := ⟨rfl, World.ownsRow_nil w base _ _, fun _ => rfl⟩
theorem OwnC.keep {w w' : World} {base n cap : Nat} {s : Option Addr} {d : List Ch} (h : OwnC w base s n cap d) (hk : ∀ a, s = some a → w'.heap[a.block]? = w.heap[a.block]?) : OwnC w' base s n cap d := by
  obtain ⟨h1, h2, h3⟩ := h
  refine ⟨h1, ⟨h2.1, ?_⟩, h3⟩
  rcases h2.2 with h' | ⟨g, cap', cur, h', hb, hg, r⟩
  · exact .inl h'
  · simp only [Value.slice.injEq] at h'
    obtain ⟨rfl, _, rfl⟩ := h'
    exact .inr ⟨g, cap, cur, rfl, hb, (hk _ rfl).trans hg, r⟩
theorem OwnC.lt {w : World} {base n cap : Nat} {s : Option Addr} {d : List Ch} (h : OwnC w base s n cap d) : ∀ a, s = some a → a.block < w.heap.size ∧ base ≤ a.block := by
  intro a ha
  rcases h.2.1.2 with ⟨h', _⟩ | ⟨g, cap', cur, h', hb, hg, r⟩
  · simp only [Value.slice.injEq] at h'
    rw [ha] at h'; cases h'.1
  · simp only [Value.slice.injEq] at h'
    rw [ha] at h'
    cases h'.1
    exact ⟨(Array.getElem?_eq_some_iff.1 hg).1, hb⟩
theorem OwnC.later {w w' : World} {base n cap : Nat} {s : Option Addr} {d : List Ch} (h : OwnC w base s n cap d) (hg : Grow w w') : OwnC w' base s n cap d :=
  h.keep fun a ha => hg.block _ (h.lt a ha).1
theorem OwnC.is {w : World} {base n cap : Nat} {s : Option Addr} {d : List Ch} (h : OwnC w base s n cap d) : IsChs w s n cap d := by
  obtain ⟨h1, h2, h3⟩ := h
  rcases h2.2 with ⟨h', h''⟩ | ⟨g, cap', cur, h', hb, hg, k1, k2, k3, k4⟩
  · have hn : n = 0 := h''
    refine ⟨h1, by omega, .inl ?_⟩
    exact List.eq_nil_of_length_eq_zero (by omega)
  · simp only [Value.slice.injEq] at h'
    obtain ⟨rfl, _, rfl⟩ := h'
    refine ⟨h1, k1, .inr ⟨g, 0, rfl, fun j v hj => ?_⟩⟩
    have hj' : j < n * 8 := by rw [← h1, ← flatC_len]; exact (List.getElem?_eq_some_iff.1 hj).1
    have := World.ownsRow.cellAt h2 j hj'
    rw [Nat.zero_add, this]; exact hj
theorem OwnC.rebase {w : World} {base base' n cap : Nat} {s : Option Addr} {d : List Ch} (h : OwnC w base s n cap d) (hb : base' ≤ base) : OwnC w base' s n cap d :=
  ⟨h.1, ⟨h.2.1.1, h.2.1.2.imp id fun ⟨g, cap', cur, e, hg, r⟩ => ⟨g, cap', cur, e, Nat.le_trans hb hg, r⟩⟩, h.2.2⟩
theorem OwnC.lit0 (w : World) (base : Nat) (hb : base ≤ w.heap.size) : OwnC (w.alloc (.cells #[] 45)) base (some ⟨w.heap.size, 0, none⟩) 0 0 [] :=
  ⟨rfl, ⟨rfl, .inr ⟨w.heap.size, 0, #[], rfl, hb, (MapKept.heap_alloc w _).1, Nat.le_refl _, Nat.zero_le _, rfl, rfl⟩⟩, fun h => by cases h⟩
theorem info_ch : ∃ i, Tryz.prog.info? 45 = some i ∧ i.zero = some (.agg #[.int .i64 0, .int .i64 0, .int .i64 0, .int .i64 0, .int .i64 0, .int .i64 0, .int .i64 0, .int .i64 0]) ∧ i.size = 8 ∧ i.bytes = 64 := by
  cases hi : Tryz.prog.info? 45 with
  | none =>
    have : (Tryz.prog.info? 45).isSome = true := by kernel_rfl
    rw [hi] at this; cases this
  | some i =>
    have hz : (Tryz.prog.info? 45).map (·.zero) = some (some (.agg #[.int .i64 0, .int .i64 0, .int .i64 0, .int .i64 0, .int .i64 0, .int .i64 0, .int .i64 0, .int .i64 0])) := by kernel_rfl
    have hs : (Tryz.prog.info? 45).map (·.size) = some 8 := by kernel_rfl
    have hb : (Tryz.prog.info? 45).map (·.bytes) = some 64 := by kernel_rfl
    rw [hi] at hz hs hb
    simp only [Option.map_some, Option.some.injEq] at hz hs hb
    exact ⟨i, rfl, hz, hs, hb⟩
theorem app_none_ch (s : Option Addr) (n cap : Nat) (hn : n ≤ cap) (c : Nat) (rt : TypeId) (w : World) :
    (Builtin.append_ #[37, 37] rt #[.slice s n cap, .slice none 0 c]).run Tryz.prog w = (Builtin.append_ #[37, 37] rt #[.slice s n cap, .slice (some ⟨0, 0, none⟩) 0 c]).run Tryz.prog w := by
  obtain ⟨i, hi, hz, hsz, hby⟩ := info_ch
  have hl : (loadCells ⟨0, 0, none⟩ 0).run Tryz.prog w = .ok #[] w := by simpa using run_loadCells_list (P := Tryz.prog) w ⟨0, 0, none⟩ [] (by simp)
  cases s <;> simp [Builtin.append_, run_underlying Tryz.underlying37, sizeOf, typeInfo, hi, Builtin.lenOf, Builtin.firstCells, hl, hn]
/-- What append does. -/
theorem run_ap_ch (w : World) (rt : TypeId) (base : Nat) (s : Option Addr) (n cap : Nat) (d e : List Ch) (hown : OwnC w base s n cap d) (s' : Option Addr) (m c : Nat) (he : IsChs w s' m c e) (hlen : n + m ≤ 1000000000000) (hbase : base ≤ w.heap.size) :
    ∃ s2 c2 w2, (Builtin.append_ #[37, 37] rt #[.slice s n cap, .slice s' m c]).run Tryz.prog w = .ok (.slice s2 (n + m) c2) w2
      ∧ OwnC w2 base s2 (n + m) c2 (d ++ e) ∧ w.grownBy w2 (s.map (·.block)) := by
  obtain ⟨i, hi, hz, hsz, hby⟩ := info_ch
  have hnc := hown.is.2.1
  obtain ⟨hm, _, hs⟩ := he
  obtain ⟨hn, hr, hz0⟩ := hown
  have key : ∀ (x : Addr), (∀ j u, (flatC e)[j]? = some u → w.cell? (x.add j) = some u) → ∃ s2 c2 w2, (Builtin.append_ #[37, 37] rt #[.slice s n cap, .slice (some x) m c]).run Tryz.prog w = .ok (.slice s2 (n + m) c2) w2
      ∧ OwnC w2 base s2 (n + m) c2 (d ++ e) ∧ w.grownBy w2 (s.map (·.block)) := by
    intro x hx
    obtain ⟨v', w', h0, h1, h2, h3, h4⟩ := run_append_own_at (P := Tryz.prog) w base 37 rt 45 i _ 8 64 Tryz.underlying37 hi hz hsz hby rfl (by omega) _ n (flatC d) hr x m c (flatC e) (by rw [flatC_len, hm]) hx (oneCell_flatC e) (by simp [maxLen]; omega) (by omega) hbase
    have hob : (Value.slice s n cap).ownBlock = s.map (·.block) := by cases s <;> rfl
    rw [hob] at h2 h4
    have hl : (d ++ e).length = n + m := by rw [List.length_append, hn, hm]
    have hfl : flatC d ++ flatC e = flatC (d ++ e) := (flatC_append d e).symm
    rw [hfl] at h1
    rcases h1.2 with ⟨h', h''⟩ | ⟨g', cap', cur, h', hb, hg, k⟩
    · subst h'
      have h5 : n + m = 0 := h''
      refine ⟨none, 0, w', by rw [h0, h5], ⟨hl, ?_, fun _ => rfl⟩, h2⟩
      rw [h5] at h1 ⊢
      exact h1
    · subst h'
      exact ⟨some ⟨g', 0, none⟩, cap', w', h0, ⟨hl, h1, fun k => by cases k⟩, h2⟩
  rcases hs with rfl | ⟨b, off, rfl, hrw⟩
  · have hm0 : m = 0 := by rw [← hm]; rfl
    subst hm0
    cases s' with
    | none =>
      rw [app_none_ch _ _ _ hnc]
      exact key _ (fun j v hj => by simp [flatC] at hj)
    | some a => exact key a (fun j v hj => by simp [flatC] at hj)
  · exact key _ (fun j v hj => by rw [addr_add]; exact hrw j v hj)
theorem wpList_apd_ch {w : World} {ops : Array Oper} {rest : List Oper} {o : Oper} {a : Act} {Q : Exit → Act → World → Prop} (hgd : o.guard = none) (s x : Operand)
    (ho : o.op = .call { callee := .builtin .append, args := #[s, x], argTypes := #[37, 37] })
    (base : Nat) (s0 : Option Addr) (n cap : Nat) (d e : List Ch) (hs : a.eval s = .slice s0 n cap) (hown : OwnC w base s0 n cap d)
    (s' : Option Addr) (m c : Nat) (hx : a.eval x = .slice s' m c) (he : IsChs w s' m c e) (hlen : n + m ≤ 1000000000000) (hbase : base ≤ w.heap.size)
    (h : ∀ s2 c2 w2, OwnC w2 base s2 (n + m) c2 (d ++ e) → GrewBut w w2 base s0 → wpList Tryz.prog ops Q rest (a.put o.dst (.slice s2 (n + m) c2)) w2) :
    wpList Tryz.prog ops Q (o :: rest) a w := by
  obtain ⟨s2, c2, w2, h0, h1, h2⟩ := run_ap_ch w o.type base s0 n cap d e hown s' m c he hlen hbase
  refine wpList_plain hgd fun K hK => ?_
  unfold Oper.wp execOp
  simp only [ho, resolve, invoke, builtin, Sem.run_bind, Sem.run_pure, Result.andThen_ok, List.map_toArray, List.map_cons, List.map_nil, hs, hx, h0]
  exact hK _ _ (h s2 c2 w2 h1 ⟨h2, fun b hb => (hown.lt b hb).2⟩)
/-- A block of the call's own, for one of these. -/
def BlkC (w : World) (b : Nat) : Prop := ∃ cs, w.heap[b]? = some (.cells cs 45 (0, 0)) ∧ cs.size = 8
theorem BlkC.lt {w : World} {b : Nat} (h : BlkC w b) : b < w.heap.size := by
  obtain ⟨cs, h, k⟩ := h
  exact (Array.getElem?_eq_some_iff.1 h).1
theorem BlkC.new (w : World) (cs : Array Value) (hc : cs.size = 8) : BlkC (w.alloc (.cells cs 45)) w.heap.size := ⟨_, (MapKept.heap_alloc w _).1, hc⟩
theorem BlkC.box {w : World} {b : Nat} (h : BlkC w b) (t : Ch) : BoxC (w.setRow b #[.int .i64 t.l.n, .int .i64 t.l.p, .int .i64 t.t.e, .int .i64 t.t.d, .int .i64 t.t.x, .int .i64 t.t.y, .int .i64 t.t.z, .int .i64 t.n]) b t := by
  obtain ⟨cs, h, _⟩ := h
  exact ⟨by rw [cell_setRow_same w b 0 _ _ _ _ h]; rfl, by rw [cell_setRow_same w b 1 _ _ _ _ h]; rfl, by rw [cell_setRow_same w b 2 _ _ _ _ h]; rfl, by rw [cell_setRow_same w b 3 _ _ _ _ h]; rfl, by rw [cell_setRow_same w b 4 _ _ _ _ h]; rfl, by rw [cell_setRow_same w b 5 _ _ _ _ h]; rfl, by rw [cell_setRow_same w b 6 _ _ _ _ h]; rfl, by rw [cell_setRow_same w b 7 _ _ _ _ h]; rfl⟩
theorem wpList_putC {ops : Array Oper} {rest : List Oper} {o : Oper} {a : Act} {w : World} {Q : Exit → Act → World → Prop} (hgd : o.guard = none) (x y : Operand) (ho : o.op = .store 45 x y) (b : Nat) (t : Ch)
    (hx : a.eval x = .pointer (some ⟨b, 0, none⟩)) (hy : a.eval y = .agg #[.int .i64 t.l.n, .int .i64 t.l.p, .int .i64 t.t.e, .int .i64 t.t.d, .int .i64 t.t.x, .int .i64 t.t.y, .int .i64 t.t.z, .int .i64 t.n]) (hb : BlkC w b) (W : World) (hg : Grow W w) (hW : W.heap.size ≤ b) (h : ∀ w2, Grow W w2 → BoxC w2 b t → w2.heap.size = w.heap.size → wpList Tryz.prog ops Q rest (a.put o.dst undef) w2) : wpList Tryz.prog ops Q (o :: rest) a w := by
  have hb' := hb
  obtain ⟨cs, hb1, hs⟩ := hb
  exact wpList_store_row hgd 45 x y ho b _ hx hy _ _ hb1 (by kernel_rfl) (by rw [hs]; rfl) (by simp [Value.oneCell']) (h _ (below_setRow hg hW _) (hb'.box t) (by simp [World.setRow]))
theorem ch_cells {H : Type} {enc : TypeId × Value → H} {W : World} {base : Nat} {spare : Nat → Bool} {held : Bool} {fuel : Nat} {cs : List Value} {y : DataW H × List MemPlace}
    (hf : DataW.trod enc Tryz.prog W base spare held fuel 45 cs = some y) : ∃ t : Ch, cs = encC t ∧ (Lit.int .i64 t.l.n).wf = true ∧ (Lit.int .i64 t.l.p).wf = true ∧ (Lit.int .i64 t.n).wf = true := by
  have hC : Tryz.prog.cellsOf 45 = 8 := by kernel_rfl
  have hC1 : Tryz.prog.cellsOf 27 = 2 := by kernel_rfl
  have hC2 : Tryz.prog.cellsOf 43 = 5 := by kernel_rfl
  have hC3 : Tryz.prog.cellsOf 3 = 1 := by kernel_rfl
  obtain ⟨y0, y1, y2, n, hx, hlen, h0, h1, h2⟩ := trod_struct3 Tryz.underlying45 hf
  rw [hC] at hlen
  match cs, hlen with
  | [c0, c1, c2, c3, c4, c5, c6, c7], _ =>
    simp [hC1, hC2, hC3] at h0 h1 h2
    obtain ⟨l, e0, w0, w1⟩ := lc_cells h0
    obtain ⟨t, e1⟩ := tm_cells h1
    obtain ⟨v, e2, _, w2⟩ := DataW.trod_int Tryz.underlying3 h2
    simp [encL, encT] at e0 e1 e2
    obtain ⟨rfl, rfl⟩ := e0
    obtain ⟨rfl, rfl, rfl, rfl, rfl⟩ := e1
    subst e2
    exact ⟨⟨l, t, v⟩, rfl, w0, w1, w2⟩
theorem rows_chs {H : Type} {enc : TypeId × Value → H} {W : World} {s : Option Addr} {len cap : Nat} {d : DataW H} {p : List MemPlace} {base : Nat} {spare : Nat → Bool} {held : Bool}
    (h : DataW.Trod enc Tryz.prog W base spare held 37 (.slice s len cap) d p) : ∃ l, IsChs W s len cap l ∧ ∀ c ∈ l, (Lit.int .i64 c.l.n).wf = true ∧ (Lit.int .i64 c.l.p).wf = true ∧ (Lit.int .i64 c.n).wf = true := by
  have hC : Tryz.prog.cellsOf 45 = 8 := by kernel_rfl
  obtain ⟨fuel, hf⟩ := h
  rcases open_slice Tryz.underlying37 hf with ⟨hcs, _⟩ | ⟨a, l, c, m, n, D, Pl, hcs, _, hl, _, hm, _, hi⟩
  · simp [Value.cells] at hcs
    obtain ⟨rfl, rfl, rfl⟩ := hcs
    exact ⟨[], ⟨rfl, Nat.le_refl _, .inl rfl⟩, fun c hc => (by cases hc)⟩
  · simp [Value.cells] at hcs
    obtain ⟨rfl, rfl, rfl⟩ := hcs
    have hlm : len ≤ m := by rw [hm]; split <;> omega
    by_cases h0 : len = 0
    · subst h0
      exact ⟨[], ⟨rfl, hl, .inl rfl⟩, fun c hc => (by cases hc)⟩
    · rw [hC] at hi
      have key : ∀ i, i < len → ∃ t : Ch, (∀ j : Nat, j < 8 → W.cell? ((a.add (i * 8)).add j) = (encC t)[j]?) ∧ (Lit.int .i64 t.l.n).wf = true ∧ (Lit.int .i64 t.l.p).wf = true ∧ (Lit.int .i64 t.n).wf = true := by
        intro i hi'
        obtain ⟨cs', h1, h2⟩ := hi i (by omega)
        obtain ⟨t, rfl, hwf⟩ := ch_cells h2
        exact ⟨t, fun j hj => (World.cells?_some h1).2.2 j (by omega), hwf⟩
      have hch : ∃ f : Nat → Ch, ∀ i, i < len → (∀ j : Nat, j < 8 → W.cell? ((a.add (i * 8)).add j) = (encC (f i))[j]?) ∧ (Lit.int .i64 (f i).l.n).wf = true ∧ (Lit.int .i64 (f i).l.p).wf = true ∧ (Lit.int .i64 (f i).n).wf = true :=
        ⟨fun i => if h : i < len then (key i h).choose else ⟨⟨0, 0⟩, ⟨0, 0, 0, 0, 0⟩, 0⟩, fun i hi' => by
          have := (key i hi').choose_spec
          simpa [hi'] using this⟩
      obtain ⟨f, hf'⟩ := hch
      have hc := (hf' 0 (by omega)).1 0 (by omega)
      obtain ⟨b, off, spot⟩ := a
      have hspot : spot = none := by
        have h5 : W.cell? (⟨b, off, spot⟩ : Addr) = some (.int .i64 (f 0).l.n) := by simpa [Addr.add, encC] using hc
        simpa using World.cell?_spot h5
      subst hspot
      refine ⟨(List.range len).map f, ⟨by simp, hl, .inr ⟨b, off, rfl, RowCh_of f len fun i hi' j hj => ?_⟩⟩, fun c hc => ?_⟩
      · have := (hf' i hi').1 j hj
        rw [addr_add, addr_add] at this
        rw [← Nat.add_assoc]; exact this
      · obtain ⟨i, hi', rfl⟩ := List.mem_map.1 hc
        exact (hf' i (List.mem_range.1 hi')).2
theorem isSps_one (w : World) (t : Sp) : IsSps (w.alloc (.cells #[.int .i64 t.b.n, .int .i64 t.b.p, .int .i64 t.r.f, .int .i64 t.r.t, .int .i64 t.r.k, .int .i64 t.r.ep, .int .i64 t.r.x, .int .i64 t.r.y, .int .i64 t.r.z] 120)) (some ⟨w.heap.size, 0, none⟩) 1 1 [t] := ⟨rfl, Nat.le_refl _, .inr ⟨_, _, rfl, RowP_one w t⟩⟩
theorem isSts_one (w : World) (t : Stp) : IsSts (w.alloc (.cells #[.int .i64 t.a.n, .int .i64 t.a.p, .int .i64 t.b.n, .int .i64 t.b.p, .int .i64 t.r.f, .int .i64 t.r.t, .int .i64 t.r.k, .int .i64 t.r.ep, .int .i64 t.r.x, .int .i64 t.r.y, .int .i64 t.r.z] 105)) (some ⟨w.heap.size, 0, none⟩) 1 1 [t] := ⟨rfl, Nat.le_refl _, .inr ⟨_, _, rfl, RowQ_one w t⟩⟩

end Go.Proofs.YtehianjfpmbfpaaGreat
end

section
/-
  How what ways do is gathered, as plain data: rows of summaries to which more are added one by one; what was not covered; what stands when nothing new comes, and why it ends. No program is named here.
-/
namespace Go.Proofs.YtehianjfpmbfpaaGreat
set_option linter.unusedVariables false
set_option linter.unusedSimpArgs false

/-- A row with one more, if that is not covered. -/
def isNew (l : List Sm) (s : Sm) : Bool := mayS s && !coverB kinS l s
def add1 (l : List Sm) (s : Sm) : List Sm := if isNew l s = true then chainO kinS (l ++ [s]) else l
def addL (l r : List Sm) : List Sm := r.foldl add1 l
def freshL (l : List Sm) : List Sm → List Sm
  | [] => []
  | s :: r => if isNew l s = true then s :: freshL (add1 l s) r else freshL (add1 l s) r
theorem addL_nil (l : List Sm) : addL l [] = l := rfl
theorem addL_cons (l r : List Sm) (s : Sm) : addL l (s :: r) = addL (add1 l s) r := by unfold addL; rw [List.foldl_cons]
theorem addL_step (l r : List Sm) (k : Nat) (h : k < r.length) : addL l (r.take (k + 1)) = add1 (addL l (r.take k)) r[k] := by
  unfold addL
  rw [← List.take_append_getElem h, List.foldl_append]
  rfl
theorem freshL_app (l r : List Sm) (s : Sm) : freshL l (r ++ [s]) = freshL l r ++ if isNew (addL l r) s = true then [s] else [] := by
  induction r generalizing l with
  | nil =>
    by_cases h : isNew l s = true <;> simp [freshL, addL, h]
  | cons x r ih =>
    rw [List.cons_append]
    unfold freshL
    rw [ih, addL_cons]
    split <;> simp
theorem freshL_step (l r : List Sm) (k : Nat) (h : k < r.length) : freshL l (r.take (k + 1)) = freshL l (r.take k) ++ if isNew (addL l (r.take k)) r[k] = true then [r[k]] else [] := by
  rw [← List.take_append_getElem h, freshL_app]
/-- A row is a chain. -/
def IsCh (l : List Sm) : Prop := l = chainO kinS l
theorem IsCh.is {l : List Sm} (h : IsCh l) : IsChain kinS l l := by
  have := chainO_is kinS l
  rw [← h] at this
  exact this
theorem isCh_nil : IsCh [] := (chainO_nil kinS).symm
theorem isCh_chain (l : List Sm) : IsCh (chainO kinS l) := (chainO_again kinS l).symm
theorem add1_ch {l : List Sm} {s : Sm} (h : IsCh l) : IsCh (add1 l s) := by
  unfold add1
  split
  · exact isCh_chain _
  · exact h
theorem IsCh.may {l : List Sm} (h : IsCh l) {x : Sm} (hx : x ∈ l) : mayS x = true := (chain_mem kinS h.is hx).2
theorem leS_self {s : Sm} (h : mayS s = true) : leS s s = true := leS_refl h
theorem cov_iff (l : List Sm) (t : Sm) : coverB kinS l t = true ↔ ∃ x ∈ l, leS x t = true := cover_iff kinS l t
theorem leS_may2 {x t : Sm} (h : leS x t = true) : mayS x = true ∧ mayS t = true := by
  have := (leS_iff x t).1 h
  exact ⟨this.1, this.2.1⟩
theorem add1_cov {l : List Sm} {s t : Sm} (h : coverB kinS l t = true) : coverB kinS (add1 l s) t = true := by
  unfold add1
  split
  · rw [chainO_covers, cov_iff]
    obtain ⟨x, hx, hle⟩ := (cov_iff _ _).1 h
    exact ⟨x, List.mem_filter.2 ⟨List.mem_append.2 (.inl hx), (leS_may2 hle).1⟩, hle⟩
  · exact h
theorem add1_has {l : List Sm} {s : Sm} (hs : mayS s = true) : coverB kinS (add1 l s) s = true := by
  by_cases h : isNew l s = true
  · unfold add1
    rw [if_pos h, chainO_covers, cov_iff]
    exact ⟨s, List.mem_filter.2 ⟨List.mem_append.2 (.inr (by simp)), hs⟩, leS_self hs⟩
  · unfold add1
    rw [if_neg h]
    unfold isNew at h
    rw [hs] at h
    simpa using h
theorem add1_mem {l : List Sm} {s x : Sm} (h : x ∈ add1 l s) : x ∈ l ∨ isNew l s = true ∧ x = s := by
  unfold add1 at h
  split at h
  · rename_i hn
    have := (chain_mem kinS (chainO_is kinS _) h).1
    rcases List.mem_append.1 this with h1 | h1
    · exact .inl h1
    · exact .inr ⟨hn, List.mem_singleton.1 h1⟩
  · exact .inl h
theorem addL_ch : ∀ {r l : List Sm}, IsCh l → IsCh (addL l r)
  | [], l, h => h
  | s :: r, l, h => addL_ch (r := r) (add1_ch h)
theorem addL_cov : ∀ {r l : List Sm} {t : Sm}, coverB kinS l t = true → coverB kinS (addL l r) t = true
  | [], l, t, h => h
  | s :: r, l, t, h => addL_cov (r := r) (add1_cov h)
theorem addL_has : ∀ {r l : List Sm} {s : Sm}, s ∈ r → mayS s = true → coverB kinS (addL l r) s = true
  | x :: r, l, s, h, hs => by
    rcases List.mem_cons.1 h with rfl | h
    · exact addL_cov (r := r) (add1_has hs)
    · exact addL_has (r := r) h hs
theorem addL_mem : ∀ {r l : List Sm} {x : Sm}, x ∈ addL l r → x ∈ l ∨ x ∈ freshL l r
  | [], l, x, h => .inl h
  | s :: r, l, x, h => by
    unfold freshL
    rcases addL_mem (r := r) h with h1 | h1
    · rcases add1_mem h1 with h2 | ⟨h2, h3⟩
      · exact .inl h2
      · rw [if_pos h2]
        exact .inr (List.mem_cons.2 (.inl h3))
    · refine .inr ?_
      split
      · exact List.mem_cons.2 (.inr h1)
      · exact h1
theorem freshL_sub : ∀ {r l : List Sm} {x : Sm}, x ∈ freshL l r → x ∈ r ∧ mayS x = true ∧ coverB kinS l x = false
  | s :: r, l, x, h => by
    unfold freshL at h
    by_cases hn : isNew l s = true
    · rw [if_pos hn] at h
      rcases List.mem_cons.1 h with rfl | h
      · unfold isNew at hn
        simp at hn
        exact ⟨by simp, hn.1, by simpa using hn.2⟩
      · obtain ⟨h1, h2, h3⟩ := freshL_sub (r := r) h
        refine ⟨List.mem_cons.2 (.inr h1), h2, ?_⟩
        cases hc : coverB kinS l x
        · rfl
        · rw [add1_cov hc] at h3; cases h3
    · rw [if_neg hn] at h
      obtain ⟨h1, h2, h3⟩ := freshL_sub (r := r) h
      refine ⟨List.mem_cons.2 (.inr h1), h2, ?_⟩
      cases hc : coverB kinS l x
      · rfl
      · rw [add1_cov hc] at h3; cases h3
theorem freshL_nodup : ∀ {r l : List Sm}, (freshL l r).Nodup
  | [], l => List.nodup_nil
  | s :: r, l => by
    unfold freshL
    by_cases hn : isNew l s = true
    · rw [if_pos hn]
      refine List.nodup_cons.2 ⟨fun h => ?_, freshL_nodup (r := r)⟩
      obtain ⟨_, h2, h3⟩ := freshL_sub h
      rw [add1_has h2] at h3
      cases h3
    · rw [if_neg hn]
      exact freshL_nodup (r := r)
theorem freshL_none {l r : List Sm} (h : freshL l r = []) : addL l r = l := by
  induction r generalizing l with
  | nil => rfl
  | cons s r ih =>
    unfold freshL at h
    by_cases hn : isNew l s = true
    · rw [if_pos hn] at h; cases h
    · rw [if_neg hn] at h
      have e : add1 l s = l := by unfold add1; rw [if_neg hn]
      rw [addL_cons, e]
      rw [e] at h
      exact ih h

/-! How many there may be. -/
def BIG : Nat := 4012012004
theorem BIG_eq : BIG = 4012012004 := rfl
def codeS (s : Sm) : Nat := ((s.k.toNat * 1001 + s.x.toNat) * 1001 + s.y.toNat) * 1001 + s.z.toNat
theorem mayS_low {s : Sm} (h : mayS s = true) : (0 ≤ s.k ∧ s.k ≤ 3) ∧ (0 ≤ s.x ∧ s.x ≤ 1000) ∧ (0 ≤ s.y ∧ s.y ≤ 1000) ∧ (0 ≤ s.z ∧ s.z ≤ 1000) := by
  obtain ⟨⟨h1, h2, h3, h4⟩, ⟨h5, h6, h7⟩, _, ⟨hx, hx1, hx2⟩, ⟨hy, hy1, hy2⟩, ⟨hz, hz1, hz2⟩⟩ := (mayS_iff s).1 h
  refine ⟨⟨h5, by omega⟩, ⟨hx, ?_⟩, ⟨hy, ?_⟩, ⟨hz, ?_⟩⟩
  · by_cases h : 0 < s.t
    · exact hx1 h
    · have := hx2 (by omega); omega
  · by_cases h : 1 < s.t
    · exact hy1 h
    · have := hy2 (by omega); omega
  · by_cases h : 2 < s.t
    · exact hz1 h
    · have := hz2 (by omega); omega
theorem codeS_lt {s : Sm} (h : mayS s = true) : codeS s < BIG := by
  obtain ⟨⟨h1, h2⟩, ⟨h3, h4⟩, ⟨h5, h6⟩, h7, h8⟩ := mayS_low h
  unfold codeS
  rw [BIG_eq]
  omega
theorem codeS_inj {s r : Sm} (m1 : mayS s = true) (m2 : mayS r = true) (hf : s.f = r.f) (ht : s.t = r.t) (he : s.ep = r.ep) (h : codeS s = codeS r) : s = r := by
  obtain ⟨⟨a1, a2⟩, ⟨a3, a4⟩, ⟨a5, a6⟩, a7, a8⟩ := mayS_low m1
  obtain ⟨⟨b1, b2⟩, ⟨b3, b4⟩, ⟨b5, b6⟩, b7, b8⟩ := mayS_low m2
  unfold codeS at h
  have hz : s.z.toNat = r.z.toNat := by omega
  have hy : s.y.toNat = r.y.toNat := by omega
  have hx : s.x.toNat = r.x.toNat := by omega
  have hk : s.k.toNat = r.k.toNat := by omega
  exact sm_eq hf ht (by omega) he (by omega) (by omega) (by omega)
/-- They are of the kind of ways between two places. -/
def Like (f t : Int) (s : Sm) : Prop := mayS s = true ∧ s.f = f ∧ s.t = t ∧ s.ep = 0
theorem like_len {f t : Int} {l : List Sm} (hn : l.Nodup) (h : ∀ s ∈ l, Like f t s) : l.length ≤ BIG := by
  have h1 : (l.map codeS).Nodup := by
    unfold List.Nodup at hn ⊢
    rw [List.pairwise_map]
    refine List.Pairwise.imp_of_mem ?_ hn
    intro a b ha hb hne e
    obtain ⟨m1, f1, t1, e1⟩ := h a ha
    obtain ⟨m2, f2, t2, e2⟩ := h b hb
    exact hne (codeS_inj m1 m2 (f1.trans f2.symm) (t1.trans t2.symm) (e1.trans e2.symm) e)
  have := nodup_le BIG (l.map codeS) h1 (fun v hv => by
    obtain ⟨s, hs, rfl⟩ := List.mem_map.1 hv
    exact codeS_lt (h s hs).1)
  simpa using this
theorem rises_nodup {l : List Sm} (h : Rises kinS l) : l.Nodup := by
  unfold List.Nodup
  refine List.Pairwise.imp ?_ h
  intro a b hab e
  subst e
  have := Kin.oself kinS a
  omega
theorem IsCh.nodup {l : List Sm} (h : IsCh l) : l.Nodup := rises_nodup h.is.1

/-! What is not covered yet. -/
/-- Number c, of these depths. -/
def sumC (f t : Int) (c : Nat) : Sm := ⟨f, t, ((c / 1003003001 : Nat) : Int), 0, ((c / 1002001 % 1001 : Nat) : Int), ((c / 1001 % 1001 : Nat) : Int), ((c % 1001 : Nat) : Int)⟩
theorem sumC_code {f t : Int} {s : Sm} (h : Like f t s) : sumC f t (codeS s) = s := by
  obtain ⟨hm, rfl, rfl, he⟩ := h
  obtain ⟨⟨a1, a2⟩, ⟨a3, a4⟩, ⟨a5, a6⟩, a7, a8⟩ := mayS_low hm
  have e1 : codeS s / 1003003001 = s.k.toNat := by unfold codeS; omega
  have e2 : codeS s / 1002001 % 1001 = s.x.toNat := by unfold codeS; omega
  have e3 : codeS s / 1001 % 1001 = s.y.toNat := by unfold codeS; omega
  have e4 : codeS s % 1001 = s.z.toNat := by unfold codeS; omega
  unfold sumC
  rw [e1, e2, e3, e4]
  exact sm_eq rfl rfl (by simp; omega) he.symm (by simp; omega) (by simp; omega) (by simp; omega)
def leftC (f t : Int) (l : List Sm) : Nat := (List.range BIG).countP fun c => !coverB kinS l (sumC f t c)
theorem countP_le {α : Type} {p q : α → Bool} : ∀ {l : List α}, (∀ x ∈ l, p x = true → q x = true) → l.countP p ≤ l.countP q
  | [], _ => by simp
  | x :: l, h => by
    have ih := countP_le (l := l) fun y hy => h y (List.mem_cons.2 (.inr hy))
    have hx := h x (by simp)
    rw [List.countP_cons, List.countP_cons]
    cases hp : p x
    · simp; omega
    · rw [hx hp]; simp; omega
theorem countP_lt {α : Type} {p q : α → Bool} : ∀ {l : List α}, (∀ x ∈ l, p x = true → q x = true) → (∃ x ∈ l, p x = false ∧ q x = true) → l.countP p < l.countP q
  | [], _, h => by obtain ⟨x, hx, _⟩ := h; cases hx
  | x :: l, h, ⟨y, hy, h1, h2⟩ => by
    have h' : ∀ z ∈ l, p z = true → q z = true := fun z hz => h z (List.mem_cons.2 (.inr hz))
    rw [List.countP_cons, List.countP_cons]
    rcases List.mem_cons.1 hy with rfl | hy
    · have := countP_le h'
      rw [h1, h2]; simp; omega
    · have := countP_lt h' ⟨y, hy, h1, h2⟩
      have hx := h x (by simp)
      cases hp : p x
      · simp; omega
      · rw [hx hp]; simp; omega
theorem leftC_le {f t : Int} {l m : List Sm} (h : ∀ s, coverB kinS l s = true → coverB kinS m s = true) : leftC f t m ≤ leftC f t l := by
  refine countP_le fun c _ hc => ?_
  cases hl : coverB kinS l (sumC f t c)
  · rfl
  · rw [h _ hl] at hc; cases hc
theorem leftC_lt {f t : Int} {l m : List Sm} {s : Sm} (hs : Like f t s) (h : ∀ s, coverB kinS l s = true → coverB kinS m s = true) (h1 : coverB kinS l s = false) (h2 : coverB kinS m s = true) : leftC f t m < leftC f t l := by
  refine countP_lt (fun c _ hc => ?_) ⟨codeS s, List.mem_range.2 (codeS_lt hs.1), ?_, ?_⟩
  · cases hl : coverB kinS l (sumC f t c)
    · rfl
    · rw [h _ hl] at hc; cases hc
  · rw [sumC_code hs, h2]; rfl
  · rw [sumC_code hs, h1]; rfl
/-- A sum over places. -/
def sumP (P : List Lc) (u : Lc → Nat) : Nat := (P.map u).sum
theorem sumP_cons (x : Lc) (P : List Lc) (u : Lc → Nat) : sumP (x :: P) u = u x + sumP P u := by simp [sumP]
theorem sumP_le {u v : Lc → Nat} : ∀ {P : List Lc}, (∀ x ∈ P, u x ≤ v x) → sumP P u ≤ sumP P v
  | [], _ => Nat.le_refl _
  | x :: P, h => by
    rw [sumP_cons, sumP_cons]
    have := h x (by simp)
    have := sumP_le (P := P) fun y hy => h y (List.mem_cons.2 (.inr hy))
    omega
theorem sumP_lt {u v : Lc → Nat} : ∀ {P : List Lc} (k : Nat), (∀ x ∈ P, u x ≤ v x) → (∃ x ∈ P, u x + k ≤ v x) → sumP P u + k ≤ sumP P v
  | [], _, _, h => by obtain ⟨x, hx, _⟩ := h; cases hx
  | x :: P, k, h, ⟨y, hy, h1⟩ => by
    have h' : ∀ z ∈ P, u z ≤ v z := fun z hz => h z (List.mem_cons.2 (.inr hz))
    have hx := h x (by simp)
    rw [sumP_cons, sumP_cons]
    rcases List.mem_cons.1 hy with rfl | hy
    · have := sumP_le h'; omega
    · have := sumP_lt k h' ⟨y, hy, h1⟩; omega
/-- How much is not covered, over all places. -/
def leftP (P : List Lc) (f : Int) (dep : Lc → Int) (L : Lc → List Sm) : Nat := sumP P fun b => leftC f (dep b) (L b)

/-! What stands on the way. -/
section
variable {S : List Stp} {a : Lc} {s0 : Sm}
/-- Rows of ways, each a chain. -/
structure Part (S : List Stp) (a : Lc) (s0 : Sm) (L : Lc → List Sm) : Prop where
  way : ∀ b, ∀ s ∈ L b, Way S a s0 b s
  ch : ∀ b, IsCh (L b)
theorem part_nil : Part S a s0 fun _ => [] := ⟨fun b s hs => (by cases hs), fun b => isCh_nil⟩
theorem Part.addL {L R : Lc → List Sm} (h : Part S a s0 L) (hR : ∀ b, ∀ s ∈ R b, Way S a s0 b s) : Part S a s0 fun b => addL (L b) (R b) :=
  ⟨fun b s hs => by
    rcases addL_mem hs with h1 | h1
    · exact h.way b s h1
    · exact hR b s (freshL_sub h1).1, fun b => addL_ch (h.ch b)⟩
/-- What is still to be added: R. -/
structure Pend (S : List Stp) (a : Lc) (s0 : Sm) (L R : Lc → List Sm) : Prop where
  part : Part S a s0 L
  way : ∀ b, ∀ s ∈ R b, Way S a s0 b s
  first : coverB kinS (L a) s0 = true ∨ s0 ∈ R a
  next : ∀ x ∈ S, ∀ s ∈ L x.a, thenE s x.r = 0 → coverB kinS (L x.b) (thenS s x.r) = true ∨ thenS s x.r ∈ R x.b
theorem pend_start : Pend S a s0 (fun _ => []) fun b => if b = a then [s0] else [] where
  part := part_nil
  way b s hs := by
    split at hs
    · rename_i e
      rw [List.mem_singleton.1 hs, e]
      exact .none
    · cases hs
  first := .inr (by simp)
  next x hx s hs := by cases hs
/-- One round: what is new, lengthened by a step. -/
theorem Pend.round {L R R' : Lc → List Sm} (h0 : mayS s0 = true) (h : Pend S a s0 L R)
    (hR' : ∀ b s, s ∈ R' b ↔ ∃ x ∈ S, x.b = b ∧ ∃ r ∈ freshL (L x.a) (R x.a), thenE r x.r = 0 ∧ s = thenS r x.r) : Pend S a s0 (fun b => Go.Proofs.YtehianjfpmbfpaaGreat.addL (L b) (R b)) R' where
  part := h.part.addL h.way
  way b s hs := by
    obtain ⟨x, hx, rfl, r, hr, he, rfl⟩ := (hR' b s).1 hs
    exact .more x r (h.way _ _ (freshL_sub hr).1) hx he
  first := by
    rcases h.first with h1 | h1
    · exact .inl (addL_cov h1)
    · exact .inl (addL_has h1 h0)
  next x hx s hs he := by
    rcases addL_mem hs with h1 | h1
    · rcases h.next x hx s h1 he with h2 | h2
      · exact .inl (addL_cov h2)
      · refine .inl (addL_has h2 ?_)
        obtain ⟨_, m, e⟩ := thenE_ok he
        rw [e]; exact m
    · exact .inr ((hR' _ _).2 ⟨x, hx, rfl, s, h1, he, rfl⟩)
/-- At the end each row is the front of its place. -/
theorem Pend.done {L R : Lc → List Sm} (h : Pend S a s0 L R) (hR : ∀ b, R b = []) (b : Lc) : Front (Way S a s0 b) (L b) := by
  refine front_of ((h.part.ch b).is) (fun x hx _ => h.part.way b x hx) (fun s hs => closed_covers L ?_ ?_ hs)
  · rcases h.first with h1 | h1
    · exact h1
    · rw [hR] at h1; cases h1
  · intro x hx s hs he
    rcases h.next x hx s hs he with h1 | h1
    · exact h1
    · rw [hR] at h1; cases h1
end

/-! Of a graph. -/
theorem way_dep {N : List Nd} {E : List Ed} (h : AccG N E) {a b : Lc} {s : Sm} (ha : isP N a = true) (hw : Way (stepsG N E) a (sameS (depP N a)) b s) : isP N b = true ∧ Like (depP N a) (depP N b) s := by
  have hd : depthB (depP N a) = true := by
    obtain ⟨h1, h2⟩ : 0 ≤ a.n ∧ a.n < N.length := by
      unfold isP at ha
      simp only [Bool.and_eq_true, decide_eq_true_eq] at ha
      exact ha.1
    have hf : Fit (nth N a.n.toNat) := nodeB_fit (h.node (by omega))
    unfold depP
    rw [if_pos ha, depB_iff]
    split
    · exact ⟨hf.lo, hf.hi⟩
    · exact hf.ins
  obtain ⟨m1, m2, m3⟩ := may_same hd
  have he : (sameS (depP N a)).ep = 0 := by unfold sameS; rw [if_pos hd]
  induction hw with
  | none => exact ⟨ha, m1, m2, m3, he⟩
  | more x s hw hx hok ih =>
    obtain ⟨_, i1, i2, i3, i4⟩ := ih
    obtain ⟨⟨_, q1⟩, ⟨q2, q3, q4⟩, q5⟩ := step_is h hx
    obtain ⟨_, m, e⟩ := thenE_ok hok
    refine ⟨q1, ?_⟩
    rw [e]
    refine ⟨m, i2, q4, ?_⟩
    show s.ep + x.r.ep = 0
    rw [i4, q5.ep]; rfl
theorem front_like {N : List Nd} {E : List Ed} (h : AccG N E) {a b : Lc} (ha : isP N a = true) {l : List Sm} (hl : ∀ s ∈ l, Way (stepsG N E) a (sameS (depP N a)) b s) : ∀ s ∈ l, Like (depP N a) (depP N b) s := fun s hs => (way_dep h ha (hl s hs)).2
/-- What the program, and the document, tell of two places. -/
def SumsOf (N : List Nd) (E : List Ed) (a b : Lc) (l : List Sm) : Prop :=
  (isP N a = true → Front (Way (stepsG N E) a (sameS (depP N a)) b) l) ∧ (isP N a = false → l = [])
theorem sumsOf_unique {N : List Nd} {E : List Ed} (h : AccG N E) {a b : Lc} {l m : List Sm} (h1 : SumsOf N E a b l) (h2 : SumsOf N E a b m) : l = m := by
  cases ha : isP N a
  · rw [h1.2 ha, h2.2 ha]
  · exact front_unique (fun s hs => (way_dep h ha hs).2.1) (h1.1 ha) (h2.1 ha)
theorem sumsOf_len {N : List Nd} {E : List Ed} (h : AccG N E) {a b : Lc} {l : List Sm} (h1 : SumsOf N E a b l) : l.length ≤ BIG := by
  cases ha : isP N a
  · rw [h1.2 ha]; simp
  · exact like_len (rises_nodup (h1.1 ha).up) (front_like h ha (h1.1 ha).all)
theorem sumsOf_none {N : List Nd} {E : List Ed} (h : AccG N E) {a b : Lc} {l : List Sm} (h1 : SumsOf N E a b l) (hb : isP N b = false) : l = [] := by
  cases ha : isP N a
  · exact h1.2 ha
  · cases l with
    | nil => rfl
    | cons s l =>
      have := (way_dep h ha ((h1.1 ha).all s (by simp))).1
      rw [hb] at this; cases this
theorem sumsOf_empty {N : List Nd} {E : List Ed} (h : AccG N E) {a b : Lc} (hn : isP N a = false ∨ isP N b = false) : SumsOf N E a b [] := by
  refine ⟨fun ha => ?_, fun _ => rfl⟩
  have hb : isP N b = false := by
    rcases hn with h1 | h1
    · rw [ha] at h1; cases h1
    · exact h1
  refine ⟨List.Pairwise.nil, fun x hx => (by cases hx), fun x hx => (by cases hx), fun s hs => ?_⟩
  have := (way_dep h ha hs).1
  rw [hb] at this; cases this
/-- How many steps there are. -/
theorem steps_few (N : List Nd) (E : List Ed) (m : Nat) : sumP (locsTo N m) (fun l => (stepsAt N E l).length) ≤ fromTo E m + 3 * m := by
  have happ : ∀ (A B : List Lc) (u : Lc → Nat), sumP (A ++ B) u = sumP A u + sumP B u := fun A B u => by simp [sumP]
  have hin : ∀ (i j : Nat), sumP (insTo i j) (fun l => (stepsAt N E l).length) ≤ j := fun i j => by
    induction j with
    | zero => simp [insTo, sumP]
    | succ j ih =>
      rw [insTo_step, happ]
      have : sumP [(⟨i, j⟩ : Lc)] (fun l => (stepsAt N E l).length) ≤ 1 := by
        simp only [sumP, List.map_cons, List.map_nil, List.sum_cons, List.sum_nil, Nat.add_zero]
        unfold stepsAt
        rw [if_neg (by show ¬ (j : Int) = -1; omega)]
        split <;> simp
      omega
  induction m with
  | zero => simp [locsTo, sumP, fromTo]
  | succ m ih =>
    rw [locsTo_step, happ]
    have e : sumP (locsOf m (nth N m).k) (fun l => (stepsAt N E l).length) ≤ (nextP E m).length + 2 := by
      unfold locsOf
      rw [happ]
      have h1 := hin m (insP (nth N m).k).toNat
      have h2 := insP_cases (nth N m).k
      have h3 : sumP (if hasP (nth N m).k = true then [(⟨m, -1⟩ : Lc)] else []) (fun l => (stepsAt N E l).length) ≤ (nextP E m).length := by
        split
        · simp only [sumP, List.map_cons, List.map_nil, List.sum_cons, List.sum_nil, Nat.add_zero]
          unfold stepsAt
          rw [if_pos rfl]
          simp
        · simp [sumP]
      omega
    unfold fromTo
    omega
theorem steps_few' {N : List Nd} {E : List Ed} (h : AccG N E) : sumP (locs N) (fun l => (stepsAt N E l).length) ≤ 60 := by
  have h1 := steps_few N E N.length
  have h2 := from_own E N.length
  have h3 := ownTo_le E N.length E.length
  have h4 := h.big
  unfold locs
  omega
end Go.Proofs.YtehianjfpmbfpaaGreat
end

section
/-
  Maps from places to rows of summaries: those that only are read, or whose rows are replaced; those whose rows a call makes longer one by one, each row in a block of its own. No row of the one is a row of the other.
-/
namespace Go.Proofs.YtehianjfpmbfpaaGreat
set_option maxRecDepth 100000
open Go.RowKit Go.Maps Go.Deep
set_option linter.unusedVariables false
set_option linter.unusedSimpArgs false

/-! Blocks of one kind are none of another. -/
theorem cell_map {w : World} {b o : Nat} {v : Value} (h : w.cell? ⟨b, o, none⟩ = some v) {es : Array MapEntry} {c : Nat} (hb : w.heap[b]? = some (.map es c)) : False := by
  simp [World.cell?, hb] at h
theorem cell_turn {w w' : World} {b g o : Nat} {v : Value} (h : w.cell? ⟨b, o, none⟩ = some v) (hg : w.grownBy w' (some g)) (hne : b ≠ g) : w'.cell? ⟨b, o, none⟩ = some v := hg.cell h (by simpa using hne)
theorem cell_mapTurn {w w' : World} {b g o : Nat} {v : Value} (h : w.cell? ⟨b, o, none⟩ = some v) (hg : w.grownBy w' (some g)) {es : Array MapEntry} {c : Nat} (hm : w.heap[g]? = some (.map es c)) : w'.cell? ⟨b, o, none⟩ = some v :=
  cell_turn h hg fun e => by subst e; exact cell_map h hm
theorem RowM.turn {w w' : World} {b o g : Nat} {d : List Sm} (h : RowM w b o d) (hg : w.grownBy w' (some g)) (hne : b ≠ g) : RowM w' b o d := fun j v hj => cell_turn (h j v hj) hg hne
theorem RowM.mapTurn {w w' : World} {b o g : Nat} {d : List Sm} (h : RowM w b o d) (hg : w.grownBy w' (some g)) {es : Array MapEntry} {c : Nat} (hm : w.heap[g]? = some (.map es c)) : RowM w' b o d := fun j v hj => cell_mapTurn (h j v hj) hg hm
theorem IsSms.turn {w w' : World} {s : Option Addr} {n c g : Nat} {d : List Sm} (h : IsSms w s n c d) (hg : w.grownBy w' (some g)) (hne : ∀ a, s = some a → a.block ≠ g) : IsSms w' s n c d :=
  ⟨h.1, h.2.1, h.2.2.imp id fun ⟨b, o, e, r⟩ => ⟨b, o, e, r.turn hg (hne _ e)⟩⟩
theorem IsSms.mapTurn {w w' : World} {s : Option Addr} {n c g : Nat} {d : List Sm} (h : IsSms w s n c d) (hg : w.grownBy w' (some g)) {es : Array MapEntry} {cl : Nat} (hm : w.heap[g]? = some (.map es cl)) : IsSms w' s n c d :=
  ⟨h.1, h.2.1, h.2.2.imp id fun ⟨b, o, e, r⟩ => ⟨b, o, e, r.mapTurn hg hm⟩⟩
theorem IsSps.mapTurn {w w' : World} {s : Option Addr} {n c g : Nat} {d : List Sp} (h : IsSps w s n c d) (hg : w.grownBy w' (some g)) {es : Array MapEntry} {cl : Nat} (hm : w.heap[g]? = some (.map es cl)) : IsSps w' s n c d :=
  ⟨h.1, h.2.1, h.2.2.imp id fun ⟨b, o, e, r⟩ => ⟨b, o, e, fun j v hj => cell_mapTurn (r j v hj) hg hm⟩⟩
theorem OwnMV.blk {w : World} {base n c : Nat} {s : Option Addr} {d : List Sm} (h : OwnMV w base s n c d) {a : Addr} (ha : s = some a) : base ≤ a.block ∧ a.block < w.heap.size ∧ ∃ cs, w.heap[a.block]? = some (.cells cs 68 (0, 0)) := by
  obtain ⟨_, ⟨rfl, _⟩ | ⟨g, rfl, ho⟩⟩ := h
  · cases ha
  · cases ha
    obtain ⟨cur, hb, hg, _⟩ := ho.parts
    exact ⟨hb, (Array.getElem?_eq_some_iff.1 hg).1, cur, hg⟩
theorem OwnMV.turn {w w' : World} {base n c g : Nat} {s : Option Addr} {d : List Sm} (h : OwnMV w base s n c d) (hg : w.grownBy w' (some g)) (hne : ∀ a, s = some a → a.block ≠ g) : OwnMV w' base s n c d := by
  refine ⟨h.1, ?_⟩
  obtain ⟨_, h' | ⟨g', e, ho⟩⟩ := h
  · exact .inl h'
  · exact .inr ⟨g', e, ho.keep (hg.block g' ho.lt (by simpa using hne _ e))⟩
theorem OwnMV.mapTurn {w w' : World} {base n c g : Nat} {s : Option Addr} {d : List Sm} (h : OwnMV w base s n c d) (hg : w.grownBy w' (some g)) {es : Array MapEntry} {cl : Nat} (hm : w.heap[g]? = some (.map es cl)) : OwnMV w' base s n c d :=
  h.turn hg fun a ha e => by
    obtain ⟨_, _, cs, hc⟩ := h.blk ha
    rw [e, hm] at hc
    cases hc
/-- What append to a row of summaries turns: that row alone. -/
def RowTurn (w w' : World) (base : Nat) (s : Option Addr) : Prop := w.grownBy w' (s.map (·.block)) ∧ ∀ a, s = some a → base ≤ a.block ∧ ∃ cs, w.heap[a.block]? = some (.cells cs 68 (0, 0))
theorem RowTurn.keep {w w' : World} {base : Nat} {s : Option Addr} (h : RowTurn w w' base s) {k : Nat} {o : Obj} (hk : w.heap[k]? = some o) (hne : ∀ a cs, s = some a → o = .cells cs 68 (0, 0) → a.block ≠ k) : w'.heap[k]? = w.heap[k]? := by
  refine h.1.block k (Array.getElem?_eq_some_iff.1 hk).1 ?_
  cases s with
  | none => simp
  | some a =>
    obtain ⟨_, cs, hc⟩ := h.2 a rfl
    intro e
    simp at e
    refine hne a cs rfl ?_ e.symm
    rw [e] at hk
    rw [hk] at hc
    exact (Option.some.inj hc)
theorem RowTurn.keepMap {w w' : World} {base : Nat} {s : Option Addr} (h : RowTurn w w' base s) {k : Nat} {es : Array MapEntry} {cl : Nat} (hk : w.heap[k]? = some (.map es cl)) : w'.heap[k]? = w.heap[k]? := h.keep hk fun a cs _ e => by cases e
theorem RowTurn.grow {W w w' : World} {base : Nat} {s : Option Addr} (h : RowTurn w w' base s) (hg : Grow W w) (hb : W.heap.size ≤ base) : Grow W w' := by
  cases s with
  | none => exact Below.grown hg h.1 hg.size (fun k e => by cases e)
  | some a => exact Below.grown hg h.1 hg.size (fun k e => by cases e; exact Nat.le_trans hb (h.2 a rfl).1)
/-- A block of cells of this type. -/
def TyB (w : World) (b : Nat) (ty : TypeId) : Prop := ∃ cs r, w.heap[b]? = some (.cells cs ty r)
theorem TyB.later {w w' : World} {b : Nat} {ty : TypeId} (hg : Grow w w') (h : TyB w b ty) : TyB w' b ty := by
  obtain ⟨cs, r, h⟩ := h
  exact ⟨cs, r, (hg.block b (Array.getElem?_eq_some_iff.1 h).1).trans h⟩
theorem RowTurn.keepTy {w w' : World} {base b : Nat} {s : Option Addr} {ty : TypeId} (h : RowTurn w w' base s) (hb : TyB w b ty) (hne : ty ≠ 68) : w'.heap[b]? = w.heap[b]? := by
  obtain ⟨cs, r, hb⟩ := hb
  exact h.keep hb fun a cs' _ e => by cases e; exact absurd rfl hne
theorem mapTurn_keepTy {w w' : World} {b g : Nat} {ty : TypeId} (hg : w.grownBy w' (some g)) {es : Array MapEntry} {cl : Nat} (hm : w.heap[g]? = some (.map es cl)) (hb : TyB w b ty) : w'.heap[b]? = w.heap[b]? := by
  obtain ⟨cs, r, hb⟩ := hb
  refine hg.block b (Array.getElem?_eq_some_iff.1 hb).1 ?_
  intro e
  simp at e
  rw [e, hm] at hb
  cases hb
theorem boxP_keep {w w' : World} {b : Nat} {t : Sp} (h : BoxP w b t) (he : w'.heap[b]? = w.heap[b]?) : BoxP w' b t := by
  have k : ∀ o v, w.cell? ⟨b, o, none⟩ = some v → w'.cell? ⟨b, o, none⟩ = some v := fun o v hv => (World.cell?_of_block (a := ⟨b, o, none⟩) he).trans hv
  obtain ⟨h0, h1, h2, h3, h4, h5, h6, h7, h8⟩ := h
  exact ⟨k _ _ h0, k _ _ h1, k _ _ h2, k _ _ h3, k _ _ h4, k _ _ h5, k _ _ h6, k _ _ h7, k _ _ h8⟩
theorem boxL_keep {w w' : World} {b : Nat} {t : Lc} (h : BoxL w b t) (he : w'.heap[b]? = w.heap[b]?) : BoxL w' b t := by
  have k : ∀ o v, w.cell? ⟨b, o, none⟩ = some v → w'.cell? ⟨b, o, none⟩ = some v := fun o v hv => (World.cell?_of_block (a := ⟨b, o, none⟩) he).trans hv
  exact ⟨k _ _ h.1, k _ _ h.2⟩
theorem ranges_iter {w : World} {b r n : Nat} {D : DataW Value} {left : Lit → Bool} {cnt : Nat} (h : RangesL w b r n D left cnt) : (∃ es cl, w.heap[b]? = some (.map es cl)) ∧ ∃ m x y z, w.heap[r]? = some (.mapIter m x y z) := by
  obtain ⟨es, clock, since, seen, c0, hb, _, _, _, hr, _⟩ := h
  exact ⟨⟨es, clock, hb⟩, _, _, _, _, hr⟩
theorem RowTurn.ranges {w w' : World} {base : Nat} {s : Option Addr} (h : RowTurn w w' base s) {b r n : Nat} {D : DataW Value} {left : Lit → Bool} {cnt : Nat} (hR : RangesL w b r n D left cnt) : RangesL w' b r n D left cnt := by
  obtain ⟨⟨es, cl, hb⟩, m, x, y, z, hr⟩ := ranges_iter hR
  refine rangesL_kept hR h.1 ?_ ?_
  all_goals
    cases s with
    | none => simp
    | some a =>
      obtain ⟨_, cs, hc⟩ := h.2 a rfl
      intro e
      simp at e
      first
        | (rw [← e, hb] at hc; cases hc)
        | (rw [← e, hr] at hc; cases hc)
theorem mapTurn_ranges {w w' : World} {g : Nat} (hg : w.grownBy w' (some g)) {es : Array MapEntry} {cl : Nat} (hm : w.heap[g]? = some (.map es cl)) {b r n : Nat} {D : DataW Value} {left : Lit → Bool} {cnt : Nat} (hR : RangesL w b r n D left cnt) (hne : b ≠ g) : RangesL w' b r n D left cnt := by
  obtain ⟨_, m, x, y, z, hr⟩ := ranges_iter hR
  refine rangesL_kept hR hg (by simpa using hne) ?_
  intro e
  simp at e
  rw [e, hm] at hr
  cases hr

def updL (L : Lc → List Sm) (x : Lc) (l : List Sm) (y : Lc) : List Sm := if y = x then l else L y
theorem updL_same (L : Lc → List Sm) (x : Lc) (l : List Sm) : updL L x l x = l := by simp [updL]
theorem updL_other (L : Lc → List Sm) {x y : Lc} (l : List Sm) (h : y ≠ x) : updL L x l y = L y := by simp [updL, h]
theorem zeroSlice (w : World) : (zeroValue 33).run Tryz.prog w = .ok (.slice none 0 0) w := by kernel_rfl

/-! Rows that are read, or replaced. -/
structure InF (w : World) (b : Nat) (P : List Lc) (f : Lc → Option Value) (L : Lc → List Sm) : Prop where
  map : MapL w b P f
  row : ∀ x, (f x = none ∧ L x = []) ∨ ∃ s n c, f x = some (.slice s n c) ∧ IsSms w s n c (L x) ∧ ∀ a, s = some a → a.block < w.heap.size
/-- A row of the map lies in block g. -/
def NoOf (f : Lc → Option Value) (g : Nat) : Prop := ∃ x s n c a, f x = some (.slice s n c) ∧ s = some a ∧ a.block = g
theorem InF.later {w w' : World} {b : Nat} {P : List Lc} {f : Lc → Option Value} {L : Lc → List Sm} (hg : Grow w w') (h : InF w b P f L) : InF w' b P f L :=
  ⟨h.map.later hg, fun x => (h.row x).imp id fun ⟨s, n, c, e, hI, ha⟩ => ⟨s, n, c, e, hI.later hg, fun a q => Nat.lt_of_lt_of_le (ha a q) hg.size⟩⟩
theorem InF.rowTurn {w w' : World} {b base : Nat} {P : List Lc} {f : Lc → Option Value} {L : Lc → List Sm} {s0 : Option Addr} (h : InF w b P f L) (ht : RowTurn w w' base s0) (hn : ∀ a, s0 = some a → ¬ NoOf f a.block) : InF w' b P f L := by
  obtain ⟨es, cl, hb⟩ := h.map.isMap
  refine ⟨h.map.keep (ht.keepMap hb), fun x => (h.row x).imp id fun ⟨s, n, c, e, hI, ha⟩ => ⟨s, n, c, e, ?_, fun a q => Nat.lt_of_lt_of_le (ha a q) ht.1.size⟩⟩
  cases s0 with
  | none => exact hI.later ⟨ht.1.os, ht.1.tape, ht.1.output, ht.1.size, fun k hk => ht.1.block k hk (by simp)⟩
  | some a0 => exact hI.turn ht.1 fun a q r => hn a0 rfl ⟨x, s, n, c, a, e, q, r⟩
theorem InF.mapTurn {w w' : World} {b g : Nat} {P : List Lc} {f : Lc → Option Value} {L : Lc → List Sm} (h : InF w b P f L) (hg : w.grownBy w' (some g)) {es : Array MapEntry} {cl : Nat} (hm : w.heap[g]? = some (.map es cl)) (hne : b ≠ g) : InF w' b P f L :=
  ⟨h.map.keep (hg.block b h.map.lt (by simpa using hne)), fun x => (h.row x).imp id fun ⟨s, n, c, e, hI, ha⟩ => ⟨s, n, c, e, hI.mapTurn hg hm, fun a q => Nat.lt_of_lt_of_le (ha a q) hg.size⟩⟩
theorem InF.iterTurn {w w' : World} {b r : Nat} {P : List Lc} {f : Lc → Option Value} {L : Lc → List Sm} (h : InF w b P f L) (hg : w.grownBy w' (some r)) (hm : ∃ m x y z, w.heap[r]? = some (.mapIter m x y z)) : InF w' b P f L := by
  obtain ⟨m, x0, y0, z0, hm⟩ := hm
  obtain ⟨es, cl, hb⟩ := h.map.isMap
  refine ⟨h.map.keep (hg.block b h.map.lt fun e => ?_), fun x => (h.row x).imp id fun ⟨s, n, c, e, hI, ha⟩ => ⟨s, n, c, e, ⟨hI.1, hI.2.1, hI.2.2.imp id fun ⟨b', o, e', hr⟩ => ⟨b', o, e', fun j v hj => ?_⟩⟩, fun a q => Nat.lt_of_lt_of_le (ha a q) hg.size⟩⟩
  · simp at e
    rw [e, hm] at hb
    cases hb
  · refine cell_turn (hr j v hj) hg fun q => ?_
    have h2 := hr j v hj
    rw [q] at h2
    simp [World.cell?, hm] at h2
theorem InF.get {w : World} {b : Nat} {P : List Lc} {f : Lc → Option Value} {L : Lc → List Sm} {t : TypeId} (h : InF w b P f L) (ht : Tryz.prog.underlying t = some (.map 27 33)) {x : Lc} (hx : LcWf x) :
    ∃ s n c, (Instr.lookup t (.map (some b)) (.agg #[.int .i64 x.n, .int .i64 x.p]) false).run Tryz.prog w = .ok (.slice s n c) w ∧ IsSms w s n c (L x) := by
  have h1 := h.map.get ht (zeroSlice w) hx
  unfold vL at h1
  rcases h.row x with ⟨e, e2⟩ | ⟨s, n, c, e, hI, _⟩
  · rw [e] at h1
    exact ⟨none, 0, 0, h1, by rw [e2]; exact ⟨rfl, Nat.le_refl _, .inl rfl⟩⟩
  · rw [e] at h1
    exact ⟨s, n, c, h1, hI⟩
theorem InF.set {w : World} {b : Nat} {P : List Lc} {f : Lc → Option Value} {L : Lc → List Sm} {t : TypeId} (h : InF w b P f L) (ht : Tryz.prog.underlying t = some (.map 27 33)) (hP : P.length < 1000000000) {x : Lc} (hx : x ∈ P)
    {s : Option Addr} {n c : Nat} {l : List Sm} (hI : IsSms w s n c l) (ha : ∀ a, s = some a → a.block < w.heap.size) :
    ∃ w', (Instr.mapUpdate t (.map (some b)) (.agg #[.int .i64 x.n, .int .i64 x.p]) (.slice s n c)).run Tryz.prog w = .ok () w' ∧ InF w' b P (putV f x (.slice s n c)) (updL L x l) ∧ w.grownBy w' (some b) := by
  obtain ⟨w', h1, h2, h3⟩ := h.map.set ht hP hx (.slice s n c)
  obtain ⟨es, cl, hb⟩ := h.map.isMap
  refine ⟨w', h1, ⟨h2, fun y => ?_⟩, h3⟩
  by_cases e : y = x
  · subst e
    rw [putV_same, updL_same]
    exact .inr ⟨s, n, c, rfl, hI.mapTurn h3 hb, fun a q => Nat.lt_of_lt_of_le (ha a q) h3.size⟩
  · rw [putV_other f _ e, updL_other L l e]
    exact (h.row y).imp id fun ⟨s', n', c', e', hI', ha'⟩ => ⟨s', n', c', e', hI'.mapTurn h3 hb, fun a q => Nat.lt_of_lt_of_le (ha' a q) h3.size⟩
theorem InF.new (w : World) (P : List Lc) (hn : P.Nodup) (hw : ∀ x ∈ P, LcWf x) : InF (w.alloc (.map #[] 0)) w.heap.size P (fun _ => none) fun _ => [] := ⟨MapL.new w P hn hw, fun x => .inl ⟨rfl, rfl⟩⟩
theorem InF.ext {w : World} {b : Nat} {P : List Lc} {f : Lc → Option Value} {L M : Lc → List Sm} (h : InF w b P f L) (e : ∀ x, L x = M x) : InF w b P f M := by
  have : L = M := funext e
  rwa [← this]

/-! Rows that are made longer. -/
structure GrpF (w : World) (base b : Nat) (P : List Lc) (f : Lc → Option Value) (R : Lc → List Sm) (No : Nat → Prop) : Prop where
  map : MapL w b P f
  lo : base ≤ b
  row : ∀ x, (f x = none ∧ R x = []) ∨ ∃ s n c, f x = some (.slice s n c) ∧ OwnMV w base s n c (R x)
  full : ∀ x, f x ≠ none → R x ≠ []
  apart : ∀ x y s n c s' n' c' a a', x ≠ y → f x = some (.slice s n c) → f y = some (.slice s' n' c') → s = some a → s' = some a' → a.block ≠ a'.block
  no : ∀ x s n c a, f x = some (.slice s n c) → s = some a → ¬ No a.block
/-- .. while the row of x is taken out, to be made longer: it is s. -/
structure HalfF (w : World) (base b : Nat) (P : List Lc) (f : Lc → Option Value) (R : Lc → List Sm) (No : Nat → Prop) (x : Lc) (st : Nat) (s : Option Addr) : Prop where
  map : MapL w b P f
  lo : base ≤ b
  ent : EntL w b x st
  row : ∀ y, y ≠ x → (f y = none ∧ R y = []) ∨ ∃ s n c, f y = some (.slice s n c) ∧ OwnMV w base s n c (R y)
  full : ∀ y, y ≠ x → f y ≠ none → R y ≠ []
  apart : ∀ y z s n c s' n' c' a a', y ≠ x → z ≠ x → y ≠ z → f y = some (.slice s n c) → f z = some (.slice s' n' c') → s = some a → s' = some a' → a.block ≠ a'.block
  no : ∀ y s n c a, y ≠ x → f y = some (.slice s n c) → s = some a → ¬ No a.block
  off : ∀ y s' n c a a', y ≠ x → f y = some (.slice s' n c) → s' = some a → s = some a' → a.block ≠ a'.block
  nos : ∀ a, s = some a → ¬ No a.block
theorem GrpF.new (w : World) (base : Nat) (P : List Lc) (hn : P.Nodup) (hw : ∀ x ∈ P, LcWf x) (hb : base ≤ w.heap.size) (No : Nat → Prop) : GrpF (w.alloc (.map #[] 0)) base w.heap.size P (fun _ => none) (fun _ => []) No :=
  ⟨MapL.new w P hn hw, hb, fun x => .inl ⟨rfl, rfl⟩, fun x h => absurd rfl h, fun x y s n c s' n' c' a a' _ h => (by cases h), fun x s n c a h => (by cases h)⟩
theorem GrpF.later {w w' : World} {base b : Nat} {P : List Lc} {f : Lc → Option Value} {R : Lc → List Sm} {No : Nat → Prop} (hg : Grow w w') (h : GrpF w base b P f R No) : GrpF w' base b P f R No :=
  ⟨h.map.later hg, h.lo, fun x => (h.row x).imp id fun ⟨s, n, c, e, ho⟩ => ⟨s, n, c, e, ho.later hg⟩, h.full, h.apart, h.no⟩
theorem GrpF.is {w : World} {base b : Nat} {P : List Lc} {f : Lc → Option Value} {R : Lc → List Sm} {No : Nat → Prop} (h : GrpF w base b P f R No) : InF w b P f R :=
  ⟨h.map, fun x => (h.row x).imp id fun ⟨s, n, c, e, ho⟩ => ⟨s, n, c, e, ho.is, fun a q => (ho.blk q).2.1⟩⟩
/-- Nothing is there just if no row has anything. -/
theorem GrpF.empty {w : World} {base b : Nat} {P : List Lc} {f : Lc → Option Value} {R : Lc → List Sm} {No : Nat → Prop} (h : GrpF w base b P f R No) : cntV P f = 0 ↔ ∀ x, R x = [] := by
  rw [h.map.empty]
  constructor
  · intro k x
    rcases h.row x with ⟨_, e⟩ | ⟨s, n, c, e, _⟩
    · exact e
    · rw [k x] at e; cases e
  · intro k x
    cases hf : f x with
    | none => rfl
    | some v => exact absurd (k x) (h.full x (by rw [hf]; simp))
theorem GrpF.mapTurn {w w' : World} {base b g : Nat} {P : List Lc} {f : Lc → Option Value} {R : Lc → List Sm} {No : Nat → Prop} (h : GrpF w base b P f R No) (hg : w.grownBy w' (some g)) {es : Array MapEntry} {cl : Nat} (hm : w.heap[g]? = some (.map es cl)) (hne : b ≠ g) : GrpF w' base b P f R No :=
  ⟨h.map.keep (hg.block b h.map.lt (by simpa using hne)), h.lo, fun x => (h.row x).imp id fun ⟨s, n, c, e, ho⟩ => ⟨s, n, c, e, ho.mapTurn hg hm⟩, h.full, h.apart, h.no⟩
theorem GrpF.iterTurn {w w' : World} {base b r : Nat} {P : List Lc} {f : Lc → Option Value} {R : Lc → List Sm} {No : Nat → Prop} (h : GrpF w base b P f R No) (hg : w.grownBy w' (some r)) (hm : ∃ m x y z, w.heap[r]? = some (.mapIter m x y z)) : GrpF w' base b P f R No := by
  obtain ⟨m, x0, y0, z0, hm⟩ := hm
  obtain ⟨es, cl, hb⟩ := h.map.isMap
  refine ⟨h.map.keep (hg.block b h.map.lt fun e => ?_), h.lo, fun x => (h.row x).imp id fun ⟨s, n, c, e, ho⟩ => ⟨s, n, c, e, ho.turn hg fun a ha e => ?_⟩, h.full, h.apart, h.no⟩
  · simp at e
    rw [e, hm] at hb
    cases hb
  · obtain ⟨_, _, cs, hc⟩ := ho.blk ha
    rw [e, hm] at hc
    cases hc
/-- Other blocks to keep away from: what is new among them is newer than all rows. -/
theorem GrpF.reno {w0 w : World} {base b : Nat} {P : List Lc} {f : Lc → Option Value} {R : Lc → List Sm} {No No' : Nat → Prop} (h0 : GrpF w0 base b P f R No) (h : GrpF w base b P f R No) (hn : ∀ g, No' g → No g ∨ w0.heap.size ≤ g) : GrpF w base b P f R No' :=
  ⟨h.map, h.lo, h.row, h.full, h.apart, fun x s n c a e q r => by
    rcases hn _ r with k | k
    · exact h.no x s n c a e q k
    · rcases h0.row x with ⟨e', _⟩ | ⟨s', n', c', e', ho⟩
      · rw [e] at e'; cases e'
      · rw [e] at e'
        cases e'
        have := (ho.blk q).2.1
        omega⟩
theorem GrpF.ext {w : World} {base b : Nat} {P : List Lc} {f : Lc → Option Value} {R M : Lc → List Sm} {No : Nat → Prop} (h : GrpF w base b P f R No) (e : ∀ x, R x = M x) : GrpF w base b P f M No := by
  have : R = M := funext e
  rwa [← this]
/-- An entry is asked for. -/
theorem GrpF.entry {w : World} {base b : Nat} {P : List Lc} {f : Lc → Option Value} {R : Lc → List Sm} {No : Nat → Prop} (h : GrpF w base b P f R No) (hP : P.length < 1000000000) {x : Lc} (hx : x ∈ P) :
    ∃ s n c st f' w', (Instr.mapEntry 81 (.map (some b)) (.agg #[.int .i64 x.n, .int .i64 x.p])).run Tryz.prog w = .ok (.tuple #[.slice s n c, goInt (st : Nat)]) w' ∧ HalfF w' base b P f' R No x st s ∧ OwnMV w' base s n c (R x) ∧ w.grownBy w' (some b) := by
  obtain ⟨st, w', h1, h2, h3, h4⟩ := h.map.entry Tryz.underlying81 zeroSlice hP hx
  obtain ⟨es, cl, hb⟩ := h.map.isMap
  unfold vL at h1
  obtain ⟨s, n, c, e, ho, hs⟩ : ∃ s n c, (f x).getD (.slice none 0 0) = .slice s n c ∧ OwnMV w base s n c (R x) ∧ ∀ a, s = some a → ∃ n' c', f x = some (.slice s n' c') := by
    rcases h.row x with ⟨e, e2⟩ | ⟨s, n, c, e, ho⟩
    · exact ⟨none, 0, 0, by rw [e]; rfl, by rw [e2]; exact OwnMV.nil _ _, fun a q => by cases q⟩
    · exact ⟨s, n, c, by rw [e]; rfl, ho, fun a q => ⟨n, c, e⟩⟩
  rw [e] at h1 h2
  refine ⟨s, n, c, st, _, w', h1, ⟨h2, h.lo, h3, fun y hy => ?_, fun y hy => ?_, fun y z s1 n1 c1 s2 n2 c2 a a' hy hz hyz => ?_, fun y s1 n1 c1 a hy => ?_, fun y s1 n1 c1 a a' hy => ?_, fun a q => ?_⟩, ho.mapTurn h4 hb, h4⟩
  · rw [putV_other f _ hy]
    exact (h.row y).imp id fun ⟨s, n, c, e, ho⟩ => ⟨s, n, c, e, ho.mapTurn h4 hb⟩
  · rw [putV_other f _ hy]; exact h.full y
  · rw [putV_other f _ hy, putV_other f _ hz]; exact h.apart y z s1 n1 c1 s2 n2 c2 a a' hyz
  · rw [putV_other f _ hy]; exact h.no y s1 n1 c1 a
  · rw [putV_other f _ hy]
    intro e1 q1 q2
    obtain ⟨n', c', e2⟩ := hs a' q2
    exact h.apart y x s1 n1 c1 s n' c' a a' hy e1 e2 q1 q2
  · obtain ⟨n', c', e2⟩ := hs a q
    exact h.no x s n' c' a e2 q
/-- The row that was made longer is stored. -/
theorem HalfF.store {w : World} {base b : Nat} {P : List Lc} {f : Lc → Option Value} {R : Lc → List Sm} {No : Nat → Prop} {x : Lc} {st : Nat} {s : Option Addr} (h : HalfF w base b P f R No x st s) (hP : P.length < 1000000000) (hx : x ∈ P) {n c : Nat} {l : List Sm} (ho : OwnMV w base s n c l) (hl : l ≠ []) :
    ∃ w', (Instr.entryStore 81 (.map (some b)) (goInt st) (.slice s n c)).run Tryz.prog w = .ok () w' ∧ GrpF w' base b P (putV f x (.slice s n c)) (updL R x l) No ∧ w.grownBy w' (some b) := by
  obtain ⟨w', h1, h2, h3⟩ := h.map.store Tryz.underlying81 hP h.ent hx (.slice s n c)
  obtain ⟨es, cl, hb⟩ := h.map.isMap
  refine ⟨w', h1, ⟨h2, h.lo, fun y => ?_, fun y => ?_, fun y z s1 n1 c1 s2 n2 c2 a a' hyz => ?_, fun y s1 n1 c1 a => ?_⟩, h3⟩
  · by_cases e : y = x
    · subst e
      rw [putV_same, updL_same]
      exact .inr ⟨s, n, c, rfl, ho.mapTurn h3 hb⟩
    · rw [putV_other f _ e, updL_other R l e]
      exact (h.row y e).imp id fun ⟨s, n, c, e, ho⟩ => ⟨s, n, c, e, ho.mapTurn h3 hb⟩
  · by_cases e : y = x
    · subst e
      rw [updL_same]
      exact fun _ => hl
    · rw [putV_other f _ e, updL_other R l e]; exact h.full y e
  · intro e1 e2 q1 q2
    by_cases ey : y = x
    · subst ey
      have hz : z ≠ y := fun e => hyz e.symm
      rw [putV_same] at e1
      rw [putV_other f _ hz] at e2
      cases e1
      exact fun k => h.off z s2 n2 c2 a' a hz e2 q2 q1 k.symm
    · rw [putV_other f _ ey] at e1
      by_cases ez : z = x
      · subst ez
        rw [putV_same] at e2
        cases e2
        exact h.off y s1 n1 c1 a a' ey e1 q1 q2
      · rw [putV_other f _ ez] at e2
        exact h.apart y z s1 n1 c1 s2 n2 c2 a a' ey ez hyz e1 e2 q1 q2
  · intro e1 q1
    by_cases ey : y = x
    · subst ey
      rw [putV_same] at e1
      cases e1
      exact h.nos a q1
    · rw [putV_other f _ ey] at e1
      exact h.no y s1 n1 c1 a ey e1 q1
section
variable {w : World} {ops : Array Oper} {rest : List Oper} {o : Oper} {a : Act} {Q : Exit → Act → World → Prop}
theorem wpList_entry_G (hg : o.guard = none) (m k : Operand) (hop : o.op = Op.mapEntry 81 m k) {base b : Nat} {P : List Lc} {f : Lc → Option Value} {R : Lc → List Sm} {No : Nat → Prop} {x : Lc}
    (hm : a.eval m = .map (some b)) (hk : a.eval k = .agg #[.int .i64 x.n, .int .i64 x.p]) (h : GrpF w base b P f R No) (hP : P.length < 1000000000) (hx : x ∈ P)
    (K : ∀ s n c (st : Nat) f' w', HalfF w' base b P f' R No x st s → OwnMV w' base s n c (R x) → w.grownBy w' (some b) → wpList Tryz.prog ops Q rest (a.put o.dst (.tuple #[.slice s n c, goInt st])) w') : wpList Tryz.prog ops Q (o :: rest) a w := by
  refine wpList_plain hg fun K' hK' => ?_
  obtain ⟨s, n, c, st, f', w', hrun, h1, h2, h3⟩ := h.entry hP hx
  unfold Oper.wp
  simp [execOp, hop, hm, hk, hrun, Result.andThen]
  exact hK' _ _ (K s n c st f' w' h1 h2 h3)
theorem wpList_append_G (hgd : o.guard = none) (s x : Operand) (ho : o.op = .call { callee := .builtin .append, args := #[s, x], argTypes := #[33, 33] })
    {base b : Nat} {P : List Lc} {f : Lc → Option Value} {R : Lc → List Sm} {No : Nat → Prop} {k : Lc} {st : Nat} {s0 : Option Addr} {n cap : Nat} {d : List Sm} {y : Sm} (h : HalfF w base b P f R No k st s0) (hown : OwnMV w base s0 n cap d) (hs : a.eval s = .slice s0 n cap)
    (g0 off c : Nat) (hx : a.eval x = .slice (some ⟨g0, off, none⟩) 1 c) (hsrc : RowM w g0 off [y]) (hlen : n + 1 ≤ 1000000000000) (hbase : base ≤ w.heap.size) (hNo : ∀ g, No g → g < w.heap.size)
    (K : ∀ s' c' w', HalfF w' base b P f R No k st s' → OwnMV w' base s' (n + 1) c' (d ++ [y]) → RowTurn w w' base s0 → wpList Tryz.prog ops Q rest (a.put o.dst (.slice s' (n + 1) c')) w') : wpList Tryz.prog ops Q (o :: rest) a w := by
  obtain ⟨i, hi, hz, hsz, hby⟩ := info_sm
  have hb0 := fun a ha => hown.blk (a := a) ha
  obtain ⟨hn, hown'⟩ := hown
  subst hn
  have hr : w.ownsRow base 68 7 (.slice s0 d.length cap) d.length (flatM d) := by
    rcases hown' with ⟨rfl, rfl, rfl⟩ | ⟨g, rfl, h1⟩
    · exact World.ownsRow_nil w base _ _
    · exact h1
  refine wpList_append_own_at w hgd s x 33 ho base 68 i _ 7 56 Tryz.underlying33 hi hz hsz hby rfl (by omega) _ d.length (flatM d) hs hr ⟨g0, off, none⟩ 1 c (flatM [y]) hx (by rw [flatM_len]; rfl) (fun j u hj => by rw [addr_add]; exact hsrc j u hj) (oneCell_flatM [y]) (by simp [maxLen]; omega) (by omega) hbase ?_
  intro v' w' h1 h2 h3 h4
  have hob : (Value.slice s0 d.length cap).ownBlock = s0.map (·.block) := by cases s0 <;> rfl
  rw [hob] at h2 h4
  have hl : (d ++ [y]).length = d.length + 1 := by simp
  rcases h1.2 with ⟨h', _⟩ | ⟨g', cap', cur, h', hb, hg, k1, k2, k3, k4⟩
  · have := (h3.1 h').2
    omega
  · subst h'
    have hgt : some g' = s0.map (·.block) ∨ g' = w.heap.size := by
      rcases h4 with h4 | h4
      · exact .inl h4
      · right; simpa [Value.ownBlock] using h4
    have hRT : RowTurn w w' base s0 := ⟨h2, fun a ha => ⟨(hb0 a ha).1, (hb0 a ha).2.2⟩⟩
    obtain ⟨es, cl, hbm⟩ := h.map.isMap
    have hkm := hRT.keepMap hbm
    have hrow : ∀ y', y' ≠ k → (f y' = none ∧ R y' = []) ∨ ∃ s n c, f y' = some (.slice s n c) ∧ OwnMV w' base s n c (R y') := fun y' hy => (h.row y' hy).imp id fun ⟨s1, n1, c1, e, ho⟩ => ⟨s1, n1, c1, e, by
      refine ⟨ho.1, ?_⟩
      obtain ⟨_, h' | ⟨g2, e2, ho2⟩⟩ := ho
      · exact .inl h'
      · refine .inr ⟨g2, e2, ho2.keep (h2.block g2 ho2.lt ?_)⟩
        intro q
        cases hs0 : s0 with
        | none => rw [hs0] at q; cases q
        | some a0 =>
          rw [hs0] at q
          simp at q
          exact h.off y' s1 n1 c1 _ a0 hy e e2 hs0 q⟩
    refine K (some ⟨g', 0, none⟩) cap' w' ⟨h.map.keep hkm, h.lo, h.ent.keep hkm, hrow, h.full, h.apart, h.no, fun y' s' n' c' a1 a2 hy e q1 q2 => ?_, fun a1 q => ?_⟩ ⟨hl, .inr ⟨g', rfl, OwnM.mk' hb hg (by rw [hl]; exact k1) k2 k3 (by rw [hl, flatM_append]; exact k4)⟩⟩ hRT
    · cases q2
      rcases hgt with q | q
      · cases hs0 : s0 with
        | none => rw [hs0] at q; cases q
        | some a0 =>
          rw [hs0] at q
          simp at q
          intro r
          exact h.off y' s' n' c' a1 a0 hy e q1 hs0 (r.trans q)
      · rcases h.row y' hy with ⟨e', _⟩ | ⟨s1, n1, c1, e', ho⟩
        · rw [e] at e'; cases e'
        · rw [e] at e'
          cases e'
          have := (ho.blk q1).2.1
          intro r
          have r' : a1.block = g' := r
          omega
    · cases q
      rcases hgt with q | q
      · cases hs0 : s0 with
        | none => rw [hs0] at q; cases q
        | some a0 =>
          rw [hs0] at q
          simp at q
          show ¬ No g'
          rw [q]
          exact h.nos a0 hs0
      · intro r
        have : g' < w.heap.size := hNo _ r
        omega
theorem wpList_estore_G (hg : o.guard = none) (m k v : Operand) (hop : o.op = Op.entryStore 81 m k v) {base b : Nat} {P : List Lc} {f : Lc → Option Value} {R : Lc → List Sm} {No : Nat → Prop} {x : Lc} {st : Nat} {s : Option Addr} {n c : Nat} {l : List Sm}
    (hm : a.eval m = .map (some b)) (hk : a.eval k = goInt st) (hv : a.eval v = .slice s n c) (h : HalfF w base b P f R No x st s) (hP : P.length < 1000000000) (hx : x ∈ P) (ho : OwnMV w base s n c l) (hl : l ≠ [])
    (K : ∀ f' w', GrpF w' base b P f' (updL R x l) No → w.grownBy w' (some b) → wpList Tryz.prog ops Q rest (a.put o.dst undef) w') : wpList Tryz.prog ops Q (o :: rest) a w := by
  refine wpList_plain hg fun K' hK' => ?_
  obtain ⟨w', hrun, h1, h2⟩ := h.store hP hx ho hl
  unfold Oper.wp
  simp [execOp, hop, hm, hk, hv, hrun, Result.andThen]
  exact hK' _ _ (K _ w' h1 h2)
theorem wpList_set_F (hg : o.guard = none) (m k v : Operand) (t : TypeId) (hop : o.op = Op.mapUpdate t m k v ∨ o.op = Op.insert t m k v) (ht : Tryz.prog.underlying t = some (.map 27 33)) {b : Nat} {P : List Lc} {f : Lc → Option Value} {L : Lc → List Sm} {x : Lc} {s : Option Addr} {n c : Nat} {l : List Sm}
    (hm : a.eval m = .map (some b)) (hk : a.eval k = .agg #[.int .i64 x.n, .int .i64 x.p]) (hv : a.eval v = .slice s n c) (h : InF w b P f L) (hP : P.length < 1000000000) (hx : x ∈ P) (hI : IsSms w s n c l) (ha : ∀ a, s = some a → a.block < w.heap.size)
    (K : ∀ w', InF w' b P (putV f x (.slice s n c)) (updL L x l) → w.grownBy w' (some b) → wpList Tryz.prog ops Q rest (a.put o.dst undef) w') : wpList Tryz.prog ops Q (o :: rest) a w := by
  refine wpList_plain hg fun K' hK' => ?_
  obtain ⟨w', hrun, h1, h2⟩ := h.set ht hP hx hI ha
  unfold Oper.wp
  rcases hop with hop | hop
  · simp [execOp, hop, hm, hk, hv, hrun, Result.andThen]
    exact hK' _ _ (K w' h1 h2)
  · simp [execOp, hop, hm, hk, hv, hrun, Result.andThen]
    exact hK' _ _ (K w' h1 h2)
end
theorem noOf_put {f : Lc → Option Value} {x : Lc} {s : Option Addr} {n c g : Nat} (h : NoOf (putV f x (.slice s n c)) g) : NoOf f g ∨ ∃ a, s = some a ∧ a.block = g := by
  obtain ⟨y, s', n', c', a, e, q, r⟩ := h
  by_cases ey : y = x
  · subst ey
    rw [putV_same] at e
    cases e
    exact .inr ⟨a, q, r⟩
  · rw [putV_other f _ ey] at e
    exact .inl ⟨y, s', n', c', a, e, q, r⟩
theorem InF.noLt {w : World} {b : Nat} {P : List Lc} {f : Lc → Option Value} {L : Lc → List Sm} (h : InF w b P f L) (g : Nat) (k : NoOf f g) : g < w.heap.size := by
  obtain ⟨x, s, n, c, a, e, q, r⟩ := k
  rcases h.row x with ⟨e', _⟩ | ⟨s', n', c', e', _, ha⟩
  · rw [e] at e'; cases e'
  · rw [e] at e'
    cases e'
    rw [← r]; exact ha a q

end Go.Proofs.YtehianjfpmbfpaaGreat
end
