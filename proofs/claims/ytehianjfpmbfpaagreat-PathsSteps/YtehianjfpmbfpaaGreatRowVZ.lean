import Derived.Test.YtehianjfpmbfpaaGreatBase
import Derived.ProofKit
import Derived.OpenShut
import Derived.ShutString
import Derived.ChangeOld
import Derived.Below
import Derived.Deep.Strs
import Derived.Test.YtehianjfpmbfpaaGreatSBase
import Derived.Test.YtehianjfpmbfpaaGreatBox
import Derived.Maps.AppendAt
import Derived.Laws.OwnMore
import Derived.Deep.Slices
section
/-
  How times, arrays of three numbers and rows of numbers that come in as arguments are opened: the value written out.
-/
namespace Go.Proofs.YtehianjfpmbfpaaGreat
set_option maxRecDepth 100000
open Go.ChangeShapes Go.WideShapes Go.ChangeAt Go.RowKit Go.Deep

theorem own : ownKnob Tryz.prog.godebug = none := by kernel_rfl
theorem laidOut : laidOutB Tryz.prog = true := by kernel_rfl

/-- Every number of a time fits an int. -/
def TmWf (t : Tm) : Prop := (Lit.int .i64 t.e).wf = true ∧ (Lit.int .i64 t.d).wf = true ∧ (Lit.int .i64 t.x).wf = true ∧ (Lit.int .i64 t.y).wf = true ∧ (Lit.int .i64 t.z).wf = true

theorem open_tm {H : Type} {enc : TypeId × Value → H} {W : World} {r : Reach} {b0 : Nat} {v : Value} {d : DataW H} {p : List MemPlace} {base : Nat} {spare : Nat → Bool} {held : Bool}
    (hv : Value.okWide Tryz.prog W r b0 43 v) (h : DataW.Trod enc Tryz.prog W base spare held 43 v d p) : ∃ t : Tm, v = .agg #[.int .i64 t.e, .int .i64 t.d, .int .i64 t.x, .int .i64 t.y, .int .i64 t.z] ∧ TmWf t := by
  obtain ⟨cs, rfl, hsz⟩ := okWide_struct Tryz.underlying43 hv
  have hC : Tryz.prog.cellsOf 43 = 5 := by kernel_rfl
  have hC3 : Tryz.prog.cellsOf 3 = 1 := by kernel_rfl
  have hCa : Tryz.prog.cellsOf 41 = 3 := by kernel_rfl
  rw [hC] at hsz
  obtain ⟨l⟩ := cs
  match l, hsz with
  | [c0, c1, c2, c3, c4], _ =>
    obtain ⟨fuel, hf⟩ := h
    obtain ⟨y0, y1, y2, n, hx, _, h0, h1, h2⟩ := trod_struct3 Tryz.underlying43 hf
    simp only [Value.cells] at h0 h1 h2
    simp [hC3, hCa] at h0 h1 h2
    obtain ⟨e, e0, _, we⟩ := DataW.trod_int Tryz.underlying3 h0
    obtain ⟨d', e1, _, wd⟩ := DataW.trod_int Tryz.underlying3 h1
    obtain ⟨xs, m, _, _, _, hlen, hi⟩ := DataW.trod_array Tryz.underlying41 h2
    match xs, hlen with
    | [z0, z1, z2], _ =>
      have i0 := hi 0 (by omega)
      have i1 := hi 1 (by omega)
      have i2 := hi 2 (by omega)
      simp [hC3] at i0 i1 i2
      obtain ⟨x, e2, _, wx⟩ := DataW.trod_int Tryz.underlying3 i0
      obtain ⟨y, e3, _, wy⟩ := DataW.trod_int Tryz.underlying3 i1
      obtain ⟨z, e4, _, wz⟩ := DataW.trod_int Tryz.underlying3 i2
      simp at e0 e1 e2 e3 e4
      subst e0 e1 e2 e3 e4
      exact ⟨⟨e, d', x, y, z⟩, rfl, we, wd, wx, wy, wz⟩

end Go.Proofs.YtehianjfpmbfpaaGreat
end

section
/-
  How summaries, and an array of two times, that come in as arguments are opened: the value written out.
-/
namespace Go.Proofs.YtehianjfpmbfpaaGreat
set_option maxRecDepth 100000
open Go.ChangeShapes Go.WideShapes Go.ChangeAt Go.RowKit Go.Deep

section
variable {H : Type} {enc : TypeId × Value → H} {P : Program} {w : World} {base : Nat} {spare : Nat → Bool} {held : Bool}
theorem trod_struct5 {t : TypeId} {f0 f1 f2 f3 f4 : Field} {fuel : Nat} {cs : List Value} {x : DataW H × List MemPlace} (ht : P.underlying t = some (.struct #[f0, f1, f2, f3, f4])) (h : DataW.trod enc P w base spare held fuel t cs = some x) :
    ∃ y0 y1 y2 y3 y4 n, DataW.trod enc P w base spare held n f0.type ((cs.drop f0.offset).take (P.cellsOf f0.type)) = some y0 ∧
      DataW.trod enc P w base spare held n f1.type ((cs.drop f1.offset).take (P.cellsOf f1.type)) = some y1 ∧ DataW.trod enc P w base spare held n f2.type ((cs.drop f2.offset).take (P.cellsOf f2.type)) = some y2 ∧
      DataW.trod enc P w base spare held n f3.type ((cs.drop f3.offset).take (P.cellsOf f3.type)) = some y3 ∧ DataW.trod enc P w base spare held n f4.type ((cs.drop f4.offset).take (P.cellsOf f4.type)) = some y4 := by
  obtain ⟨xs, n, _, rfl, hl, hlen, hf⟩ := DataW.trod_struct ht h
  match xs, hlen with
  | [y0, y1, y2, y3, y4], _ => exact ⟨y0, y1, y2, y3, y4, n, by simpa using hf 0 f0 rfl, by simpa using hf 1 f1 rfl, by simpa using hf 2 f2 rfl, by simpa using hf 3 f3 rfl, by simpa using hf 4 f4 rfl⟩
end

/-- Every number of a summary fits an int. -/
def SmWf (s : Sm) : Prop := (Lit.int .i64 s.f).wf = true ∧ (Lit.int .i64 s.t).wf = true ∧ (Lit.int .i64 s.k).wf = true ∧ (Lit.int .i64 s.ep).wf = true ∧ (Lit.int .i64 s.x).wf = true ∧ (Lit.int .i64 s.y).wf = true ∧ (Lit.int .i64 s.z).wf = true

theorem open_sm {H : Type} {enc : TypeId × Value → H} {W : World} {r : Reach} {b0 : Nat} {v : Value} {d : DataW H} {p : List MemPlace} {base : Nat} {spare : Nat → Bool} {held : Bool}
    (hv : Value.okWide Tryz.prog W r b0 68 v) (h : DataW.Trod enc Tryz.prog W base spare held 68 v d p) : ∃ s : Sm, v = .agg #[.int .i64 s.f, .int .i64 s.t, .int .i64 s.k, .int .i64 s.ep, .int .i64 s.x, .int .i64 s.y, .int .i64 s.z] ∧ SmWf s := by
  obtain ⟨cs, rfl, hsz⟩ := okWide_struct Tryz.underlying68 hv
  have hC : Tryz.prog.cellsOf 68 = 7 := by kernel_rfl
  have hC3 : Tryz.prog.cellsOf 3 = 1 := by kernel_rfl
  have hCa : Tryz.prog.cellsOf 41 = 3 := by kernel_rfl
  rw [hC] at hsz
  obtain ⟨l⟩ := cs
  match l, hsz with
  | [c0, c1, c2, c3, c4, c5, c6], _ =>
    obtain ⟨fuel, hf⟩ := h
    obtain ⟨y0, y1, y2, y3, y4, n, h0, h1, h2, h3, h4⟩ := trod_struct5 Tryz.underlying68 hf
    simp only [Value.cells] at h0 h1 h2 h3 h4
    simp [hC3, hCa] at h0 h1 h2 h3 h4
    obtain ⟨e, e0, _, we⟩ := DataW.trod_int Tryz.underlying3 h0
    obtain ⟨d', e1, _, wd⟩ := DataW.trod_int Tryz.underlying3 h1
    obtain ⟨k', e5, _, wk⟩ := DataW.trod_int Tryz.underlying3 h2
    obtain ⟨p', e6, _, wp⟩ := DataW.trod_int Tryz.underlying3 h3
    obtain ⟨xs, m, _, _, _, hlen, hi⟩ := DataW.trod_array Tryz.underlying41 h4
    match xs, hlen with
    | [z0, z1, z2], _ =>
      have i0 := hi 0 (by omega)
      have i1 := hi 1 (by omega)
      have i2 := hi 2 (by omega)
      simp [hC3] at i0 i1 i2
      obtain ⟨x, e2, _, wx⟩ := DataW.trod_int Tryz.underlying3 i0
      obtain ⟨y, e3, _, wy⟩ := DataW.trod_int Tryz.underlying3 i1
      obtain ⟨z, e4, _, wz⟩ := DataW.trod_int Tryz.underlying3 i2
      simp at e0 e1 e2 e3 e4 e5 e6
      subst e0 e1 e2 e3 e4 e5 e6
      exact ⟨⟨e, d', k', p', x, y, z⟩, rfl, we, wd, wk, wp, wx, wy, wz⟩


end Go.Proofs.YtehianjfpmbfpaaGreat
end

section
/-
  Rows of times and of summaries: their cells one behind the other, where they lie, those that a call has made by append, how one that comes in as an argument is opened.
-/
namespace Go.Proofs.YtehianjfpmbfpaaGreat
set_option maxRecDepth 100000
open Go.ChangeShapes Go.WideShapes Go.ChangeAt Go.RowKit Go.Deep
set_option linter.unusedVariables false

theorem addr_add (b o j : Nat) : (Addr.mk b o none).add j = ⟨b, o + j, none⟩ := by cases j <;> rfl
theorem grow_app {W0 wq w2 : World} {g : Nat} (h : Grow W0 wq) (gb : wq.grownBy w2 (some g)) (hg : W0.heap.size ≤ g) : Grow W0 w2 :=
  Below.grown h gb h.size (fun k e => by cases e; exact hg)
theorem takeWhile_eq_take {α : Type} (p : α → Bool) : ∀ d : List α, d.takeWhile p = d.take (d.takeWhile p).length
  | [] => rfl
  | x :: l => by
    by_cases h : p x = true
    · simp only [List.takeWhile_cons, h, if_true, List.length_cons, List.take_succ_cons]
      rw [← takeWhile_eq_take p l]
    · simp [h]
theorem dropWhile_eq_drop {α : Type} (p : α → Bool) : ∀ d : List α, d.dropWhile p = d.drop (d.takeWhile p).length
  | [] => rfl
  | x :: l => by
    by_cases h : p x = true
    · simp only [List.takeWhile_cons, List.dropWhile_cons, h, if_true, List.length_cons, List.drop_succ_cons]
      exact dropWhile_eq_drop p l
    · simp [h]
theorem ret_slice {a : Option Addr} {m n c : Nat} (h : m = n) : Ending.returned (.slice a m c) = .returned (.slice a n c) := by rw [h]
def encT (t : Tm) : List Value := [.int .i64 t.e, .int .i64 t.d, .int .i64 t.x, .int .i64 t.y, .int .i64 t.z]
def encM (t : Sm) : List Value := [.int .i64 t.f, .int .i64 t.t, .int .i64 t.k, .int .i64 t.ep, .int .i64 t.x, .int .i64 t.y, .int .i64 t.z]

theorem tm_cells {H : Type} {enc : TypeId × Value → H} {W : World} {base : Nat} {spare : Nat → Bool} {held : Bool} {fuel : Nat} {cs : List Value} {y : DataW H × List MemPlace}
    (hf : DataW.trod enc Tryz.prog W base spare held fuel 43 cs = some y) : ∃ t : Tm, cs = encT t := by
  have hC : Tryz.prog.cellsOf 43 = 5 := by kernel_rfl
  have hC3 : Tryz.prog.cellsOf 3 = 1 := by kernel_rfl
  have hCa : Tryz.prog.cellsOf 41 = 3 := by kernel_rfl
  obtain ⟨y0, y1, y2, n, hx, hlen, h0, h1, h2⟩ := trod_struct3 Tryz.underlying43 hf
  rw [hC] at hlen
  match cs, hlen with
  | [c0, c1, c2, c3, c4], _ =>
    simp [hC3, hCa] at h0 h1 h2
    obtain ⟨e, e0, _, we⟩ := DataW.trod_int Tryz.underlying3 h0
    obtain ⟨d', e1, _, wd⟩ := DataW.trod_int Tryz.underlying3 h1
    obtain ⟨xs, m, _, _, _, hlen, hi⟩ := DataW.trod_array Tryz.underlying41 h2
    match xs, hlen with
    | [z0, z1, z2], _ =>
      have i0 := hi 0 (by omega)
      have i1 := hi 1 (by omega)
      have i2 := hi 2 (by omega)
      simp [hC3] at i0 i1 i2
      obtain ⟨x, e2, _, wx⟩ := DataW.trod_int Tryz.underlying3 i0
      obtain ⟨y, e3, _, wy⟩ := DataW.trod_int Tryz.underlying3 i1
      obtain ⟨z, e4, _, wz⟩ := DataW.trod_int Tryz.underlying3 i2
      simp at e0 e1 e2 e3 e4
      subst e0 e1 e2 e3 e4
      exact ⟨⟨e, d', x, y, z⟩, rfl⟩
theorem sm_cells {H : Type} {enc : TypeId × Value → H} {W : World} {base : Nat} {spare : Nat → Bool} {held : Bool} {fuel : Nat} {cs : List Value} {y : DataW H × List MemPlace}
    (hf : DataW.trod enc Tryz.prog W base spare held fuel 68 cs = some y) : ∃ t : Sm, cs = encM t := by
  have hC : Tryz.prog.cellsOf 68 = 7 := by kernel_rfl
  have hC3 : Tryz.prog.cellsOf 3 = 1 := by kernel_rfl
  have hCa : Tryz.prog.cellsOf 41 = 3 := by kernel_rfl
  obtain ⟨_, _, _, _, hlen0, _⟩ := DataW.trod_struct Tryz.underlying68 hf
  obtain ⟨y0, y1, y2, y3, y4, n, h0, h1, h2, h3, h4⟩ := trod_struct5 Tryz.underlying68 hf
  have hlen : cs.length = 7 := by rw [hC] at hlen0; exact hlen0
  match cs, hlen with
  | [c0, c1, c2, c3, c4, c5, c6], _ =>
    simp [hC3, hCa] at h0 h1 h2 h3 h4
    obtain ⟨e, e0, _, we⟩ := DataW.trod_int Tryz.underlying3 h0
    obtain ⟨d', e1, _, wd⟩ := DataW.trod_int Tryz.underlying3 h1
    obtain ⟨k', e5, _, wk⟩ := DataW.trod_int Tryz.underlying3 h2
    obtain ⟨p', e6, _, wp⟩ := DataW.trod_int Tryz.underlying3 h3
    obtain ⟨xs, m, _, _, _, hlen, hi⟩ := DataW.trod_array Tryz.underlying41 h4
    match xs, hlen with
    | [z0, z1, z2], _ =>
      have i0 := hi 0 (by omega)
      have i1 := hi 1 (by omega)
      have i2 := hi 2 (by omega)
      simp [hC3] at i0 i1 i2
      obtain ⟨x, e2, _, wx⟩ := DataW.trod_int Tryz.underlying3 i0
      obtain ⟨y, e3, _, wy⟩ := DataW.trod_int Tryz.underlying3 i1
      obtain ⟨z, e4, _, wz⟩ := DataW.trod_int Tryz.underlying3 i2
      simp at e0 e1 e2 e3 e4 e5 e6
      subst e0 e1 e2 e3 e4 e5 e6
      exact ⟨⟨e, d', k', p', x, y, z⟩, rfl⟩

theorem encT_len (t : Tm) : (encT t).length = 5 := rfl
/-- The cells of a row. -/
def flatT (d : List Tm) : List Value := d.flatMap encT
theorem flatT_nil : flatT [] = [] := rfl
theorem flatT_cons (t : Tm) (d : List Tm) : flatT (t :: d) = encT t ++ flatT d := rfl
theorem flatT_append (d e : List Tm) : flatT (d ++ e) = flatT d ++ flatT e := by simp [flatT]
theorem flatT_len : ∀ d : List Tm, (flatT d).length = d.length * 5
  | [] => rfl
  | t :: d => by rw [flatT_cons, List.length_append, flatT_len d, encT_len, List.length_cons]; omega
theorem flatT_drop : ∀ (d : List Tm) (j : Nat), (flatT d).drop (j * 5) = flatT (d.drop j)
  | [], j => by simp [flatT]
  | t :: d, 0 => by simp
  | t :: d, j + 1 => by
    rw [flatT_cons, show (j + 1) * 5 = (encT t).length + j * 5 by rw [encT_len]; omega, List.drop_append, List.drop_of_length_le (by omega)]
    simpa using flatT_drop d j
theorem flatT_take : ∀ (d : List Tm) (j : Nat), (flatT d).take (j * 5) = flatT (d.take j)
  | [], j => by simp [flatT]
  | t :: d, 0 => by simp [flatT]
  | t :: d, j + 1 => by
    rw [flatT_cons, show (j + 1) * 5 = (encT t).length + j * 5 by rw [encT_len]; omega, List.take_length_add_append, flatT_take d j]
    rfl
theorem flatT_get (d : List Tm) (j i : Nat) (hj : j < d.length) (hi : i < 5) : (flatT d)[j * 5 + i]? = (encT d[j])[i]? := by
  rw [← List.getElem?_drop, flatT_drop, List.drop_eq_getElem_cons hj, flatT_cons, List.getElem?_append_left (by rw [encT_len]; exact hi)]
theorem oneCell_encT (x : Tm) : ∀ v ∈ encT x, v.oneCell' = true := by
  intro v hv
  simp [encT] at hv
  rcases hv with rfl | rfl | rfl | rfl | rfl <;> rfl
theorem oneCell_flatT (d : List Tm) : ∀ v ∈ flatT d, v.oneCell' = true := by
  intro v hv
  obtain ⟨x, _, hx⟩ := List.mem_flatMap.1 hv
  exact oneCell_encT x v hx

/-- A row lies in a block. -/
def RowT (w : World) (b o : Nat) (d : List Tm) : Prop := ∀ (j : Nat) v, (flatT d)[j]? = some v → w.cell? ⟨b, o + j, none⟩ = some v
theorem RowT.later {w w' : World} {b o : Nat} {d : List Tm} (hg : Grow w w') (h : RowT w b o d) : RowT w' b o d := fun j v hj => cell_later hg (h j v hj)
theorem RowT.at {w : World} {b o : Nat} {d : List Tm} (h : RowT w b o d) (j : Nat) (hj : j < d.length) :
    w.cell? ⟨b, o + j * 5, none⟩ = some (.int .i64 d[j].e) ∧ w.cell? ⟨b, o + j * 5 + 1, none⟩ = some (.int .i64 d[j].d) ∧ w.cell? ⟨b, o + j * 5 + 2, none⟩ = some (.int .i64 d[j].x) ∧ w.cell? ⟨b, o + j * 5 + 3, none⟩ = some (.int .i64 d[j].y) ∧ w.cell? ⟨b, o + j * 5 + 4, none⟩ = some (.int .i64 d[j].z) := by
  have k (i : Nat) (hi : i < 5) (v : Value) (hv : (encT d[j])[i]? = some v) : w.cell? ⟨b, o + (j * 5 + i), none⟩ = some v := h _ v (by rw [flatT_get d j i hj hi]; exact hv)
  exact ⟨k 0 (by omega) _ rfl, k 1 (by omega) _ rfl, k 2 (by omega) _ rfl, k 3 (by omega) _ rfl, k 4 (by omega) _ rfl⟩
theorem RowT.drop' {w : World} {b o : Nat} {d : List Tm} (h : RowT w b o d) (k : Nat) : RowT w b (o + k * 5) (d.drop k) := by
  intro j v hj
  rw [← flatT_drop, List.getElem?_drop] at hj
  rw [Nat.add_assoc]; exact h _ v hj
theorem RowT.take' {w : World} {b o : Nat} {d : List Tm} (h : RowT w b o d) (k : Nat) : RowT w b o (d.take k) := by
  intro j v hj
  rw [← flatT_take] at hj
  refine h j v ?_
  rw [List.getElem?_take] at hj
  split at hj
  · exact hj
  · cases hj
theorem RowT_one (w : World) (t : Tm) : RowT (w.alloc (.cells #[.int .i64 t.e, .int .i64 t.d, .int .i64 t.x, .int .i64 t.y, .int .i64 t.z] 43)) w.heap.size 0 [t] := by
  intro j v hj
  have hj' : j < 5 := by
    have := (List.getElem?_eq_some_iff.1 hj).1
    rw [flatT_len] at this
    simpa using this
  have e : flatT [t] = encT t := by simp [flatT]
  rw [e] at hj
  have : j = 0 ∨ j = 1 ∨ j = 2 ∨ j = 3 ∨ j = 4 := by omega
  rcases this with rfl | rfl | rfl | rfl | rfl <;> simp [encT] at hj <;> subst hj <;> simp [go_sem]
theorem RowT_of {w : World} {b o : Nat} (f : Nat → Tm) (n : Nat) (h : ∀ i, i < n → ∀ j : Nat, j < 5 → w.cell? ⟨b, o + (i * 5 + j), none⟩ = (encT (f i))[j]?) : RowT w b o ((List.range n).map f) := by
  intro k v hk
  have hk' : k < n * 5 := by
    have := (List.getElem?_eq_some_iff.1 hk).1
    rw [flatT_len] at this
    simpa using this
  have e : k = k / 5 * 5 + k % 5 := by omega
  have h1 := flatT_get ((List.range n).map f) (k / 5) (k % 5) (by simp; omega) (by omega)
  rw [← e, hk] at h1
  have h2 := h (k / 5) (by omega) (k % 5) (by omega)
  rw [← e] at h2
  rw [h2, h1]
  simp

/-- The call owns a row, in block g. -/
def OwnS (w : World) (base g cap : Nat) (d : List Tm) : Prop := w.ownsRow base 43 5 (.slice (some ⟨g, 0, none⟩) d.length cap) d.length (flatT d)
theorem OwnS.parts {w : World} {base g cap : Nat} {d : List Tm} (h : OwnS w base g cap d) :
    ∃ cur, base ≤ g ∧ w.heap[g]? = some (.cells cur 43 (0, 0)) ∧ d.length ≤ cap ∧ cap ≤ maxLen ∧ cur.size = cap * 5 ∧ cur.toList.take (d.length * 5) = flatT d := by
  rcases h.2 with ⟨h', _⟩ | ⟨g', cap', cur, h', hb, hg, h1, h2, h3, h4⟩
  · simp at h'
  · simp only [Value.slice.injEq, Option.some.injEq, Addr.mk.injEq, and_true, true_and] at h'
    obtain ⟨rfl, rfl⟩ := h'
    exact ⟨cur, hb, hg, h1, h2, h3, h4⟩
theorem OwnS.mk' {w : World} {base g cap : Nat} {d : List Tm} {cur : Array Value} (hb : base ≤ g) (hg : w.heap[g]? = some (.cells cur 43 (0, 0))) (h1 : d.length ≤ cap) (h2 : cap ≤ maxLen) (h3 : cur.size = cap * 5) (h4 : cur.toList.take (d.length * 5) = flatT d) : OwnS w base g cap d :=
  ⟨flatT_len d, .inr ⟨g, cap, cur, rfl, hb, hg, h1, h2, h3, h4⟩⟩
theorem OwnS.lt {w : World} {base g cap : Nat} {d : List Tm} (h : OwnS w base g cap d) : g < w.heap.size := by
  obtain ⟨cur, _, hg, _⟩ := h.parts
  exact (Array.getElem?_eq_some_iff.1 hg).1
theorem OwnS.le {w : World} {base g cap : Nat} {d : List Tm} (h : OwnS w base g cap d) : base ≤ g ∧ d.length ≤ cap ∧ cap ≤ maxLen := by
  obtain ⟨cur, hb, _, h1, h2, _⟩ := h.parts
  exact ⟨hb, h1, h2⟩
theorem OwnS.row {w : World} {base g cap : Nat} {d : List Tm} (h : OwnS w base g cap d) : RowT w g 0 d := by
  intro j v hj
  have hj' : j < d.length * 5 := by rw [← flatT_len]; exact (List.getElem?_eq_some_iff.1 hj).1
  have := World.ownsRow.cellAt h j hj'
  rw [Nat.zero_add, this]; exact hj
theorem OwnS.keep {w w' : World} {base g cap : Nat} {d : List Tm} (h : OwnS w base g cap d) (he : w'.heap[g]? = w.heap[g]?) : OwnS w' base g cap d := by
  obtain ⟨cur, hb, hg, h1, h2, h3, h4⟩ := h.parts
  exact OwnS.mk' hb (he.trans hg) h1 h2 h3 h4
theorem OwnS.later {w w' : World} {base g cap : Nat} {d : List Tm} (h : OwnS w base g cap d) (hg : Grow w w') : OwnS w' base g cap d := h.keep (hg.block g h.lt)
theorem OwnS.rebase {w : World} {base base' g cap : Nat} {d : List Tm} (h : OwnS w base g cap d) (hb : base' ≤ g) : OwnS w base' g cap d := by
  obtain ⟨cur, _, hg, h1, h2, h3, h4⟩ := h.parts
  exact OwnS.mk' hb hg h1 h2 h3 h4
theorem OwnS.lit0 (w : World) (base : Nat) (hb : base ≤ w.heap.size) : OwnS (w.alloc (.cells #[] 43)) base w.heap.size 0 [] :=
  OwnS.mk' hb (MapKept.heap_alloc w _).1 (Nat.le_refl _) (by simp [maxLen]) rfl rfl
theorem info_tm : ∃ i, Tryz.prog.info? 43 = some i ∧ i.zero = some (.agg #[.int .i64 0, .int .i64 0, .int .i64 0, .int .i64 0, .int .i64 0]) ∧ i.size = 5 ∧ i.bytes = 40 := by
  cases hi : Tryz.prog.info? 43 with
  | none =>
    have : (Tryz.prog.info? 43).isSome = true := by kernel_rfl
    rw [hi] at this; cases this
  | some i =>
    have hz : (Tryz.prog.info? 43).map (·.zero) = some (some (.agg #[.int .i64 0, .int .i64 0, .int .i64 0, .int .i64 0, .int .i64 0])) := by kernel_rfl
    have hs : (Tryz.prog.info? 43).map (·.size) = some 5 := by kernel_rfl
    have hb : (Tryz.prog.info? 43).map (·.bytes) = some 40 := by kernel_rfl
    rw [hi] at hz hs hb
    simp only [Option.map_some, Option.some.injEq] at hz hs hb
    exact ⟨i, rfl, hz, hs, hb⟩
/-- A slice that came in. -/
def IsTms (w : World) (s : Option Addr) (n cap : Nat) (d : List Tm) : Prop :=
  d.length = n ∧ n ≤ cap ∧ (d = [] ∨ ∃ b o, s = some ⟨b, o, none⟩ ∧ RowT w b o d)
theorem IsTms.later {w w' : World} {s : Option Addr} {n cap : Nat} {d : List Tm} (hg : Grow w w') (h : IsTms w s n cap d) : IsTms w' s n cap d :=
  ⟨h.1, h.2.1, h.2.2.imp id fun ⟨b, o, e, r⟩ => ⟨b, o, e, r.later hg⟩⟩
/-- The first k of them. -/
theorem IsTms.take' {w : World} {s : Option Addr} {n cap : Nat} {d : List Tm} (h : IsTms w s n cap d) (k : Nat) (hk : k ≤ n) : IsTms w s k cap (d.take k) :=
  ⟨by rw [List.length_take, h.1]; omega, by have := h.2.1; omega, h.2.2.imp (fun e => by rw [e]; simp) fun ⟨b, o, e, r⟩ => ⟨b, o, e, r.take' k⟩⟩
/-- append(x, y...) on a row that the call owns. -/
theorem wpList_app_tm {w : World} {ops : Array Oper} {rest : List Oper} {o : Oper} {a : Act} {Q : Exit → Act → World → Prop} (hgd : o.guard = none) (s x : Operand)
    (ho : o.op = .call { callee := .builtin .append, args := #[s, x], argTypes := #[39, 39] })
    (base g cap : Nat) (d e : List Tm) (n : Nat) (hn : n = d.length) (hs : a.eval s = .slice (some ⟨g, 0, none⟩) n cap) (hown : OwnS w base g cap d)
    (b off m c : Nat) (hx : a.eval x = .slice (some ⟨b, off, none⟩) m c) (hm : e.length = m) (hsrc : RowT w b off e) (hlen : d.length + m ≤ 1000000000000) (hbase : base ≤ w.heap.size)
    (h : ∀ g' cap' w', OwnS w' base g' cap' (d ++ e) → w.grownBy w' (some g) → (g' = g ∨ g' = w.heap.size) → wpList Tryz.prog ops Q rest (a.put o.dst (.slice (some ⟨g', 0, none⟩) (n + m) cap')) w') :
    wpList Tryz.prog ops Q (o :: rest) a w := by
  obtain ⟨i, hi, hz, hsz, hby⟩ := info_tm
  subst hn
  refine wpList_append_own_at w hgd s x 39 ho base 43 i _ 5 40 Tryz.underlying39 hi hz hsz hby rfl (by omega) _ d.length (flatT d) hs hown ⟨b, off, none⟩ m c (flatT e) hx (by rw [flatT_len, hm]) (fun j u hj => by rw [addr_add]; exact hsrc j u hj) (oneCell_flatT e) (by simp [maxLen]; omega) (by omega) hbase ?_
  intro v' w' h1 h2 h3 h4
  have hl : (d ++ e).length = d.length + m := by rw [List.length_append, hm]
  rcases h1.2 with ⟨h', _⟩ | ⟨g', cap', cur, h', hb, hg, k1, k2, k3, k4⟩
  · have := (h3.1 h').1
    simp at this
  · subst h'
    refine h g' cap' w' (OwnS.mk' hb hg (by rw [hl]; exact k1) k2 k3 (by rw [hl, flatT_append]; exact k4)) h2 ?_
    rcases h4 with h4 | h4 <;> simp [Value.ownBlock] at h4
    · exact .inl h4
    · exact .inr h4
theorem rows_tms {H : Type} {enc : TypeId × Value → H} {W : World} {s : Option Addr} {len cap : Nat} {d : DataW H} {p : List MemPlace} {base : Nat} {spare : Nat → Bool} {held : Bool}
    (h : DataW.Trod enc Tryz.prog W base spare held 39 (.slice s len cap) d p) : ∃ l, IsTms W s len cap l := by
  have hC : Tryz.prog.cellsOf 43 = 5 := by kernel_rfl
  obtain ⟨fuel, hf⟩ := h
  rcases open_slice Tryz.underlying39 hf with ⟨hcs, _⟩ | ⟨a, l, c, m, n, D, Pl, hcs, _, hl, _, hm, _, hi⟩
  · simp [Value.cells] at hcs
    obtain ⟨rfl, rfl, rfl⟩ := hcs
    exact ⟨[], rfl, Nat.le_refl _, .inl rfl⟩
  · simp [Value.cells] at hcs
    obtain ⟨rfl, rfl, rfl⟩ := hcs
    have hlm : len ≤ m := by rw [hm]; split <;> omega
    by_cases h0 : len = 0
    · subst h0
      exact ⟨[], rfl, hl, .inl rfl⟩
    · rw [hC] at hi
      have key : ∀ i, i < len → ∃ t : Tm, ∀ j : Nat, j < 5 → W.cell? ((a.add (i * 5)).add j) = (encT t)[j]? := by
        intro i hi'
        obtain ⟨cs', h1, h2⟩ := hi i (by omega)
        obtain ⟨t, rfl⟩ := tm_cells h2
        refine ⟨t, fun j hj => ?_⟩
        exact (World.cells?_some h1).2.2 j (by omega)
      have hch : ∃ f : Nat → Tm, ∀ i, i < len → ∀ j : Nat, j < 5 → W.cell? ((a.add (i * 5)).add j) = (encT (f i))[j]? :=
        ⟨fun i => if h : i < len then (key i h).choose else ⟨0, 0, 0, 0, 0⟩, fun i hi' => by
          have := (key i hi').choose_spec
          simpa [hi'] using this⟩
      obtain ⟨f, hf'⟩ := hch
      have hc := hf' 0 (by omega) 0 (by omega)
      obtain ⟨b, off, spot⟩ := a
      have hspot : spot = none := by
        have h5 : W.cell? (⟨b, off, spot⟩ : Addr) = some (.int .i64 (f 0).e) := by simpa [Addr.add, encT] using hc
        simpa using World.cell?_spot h5
      subst hspot
      refine ⟨(List.range len).map f, by simp, hl, .inr ⟨b, off, rfl, RowT_of f len fun i hi' j hj => ?_⟩⟩
      have := hf' i hi' j hj
      rw [addr_add, addr_add] at this
      rw [← Nat.add_assoc]; exact this
theorem encM_len (t : Sm) : (encM t).length = 7 := rfl
/-- The cells of a row. -/
def flatM (d : List Sm) : List Value := d.flatMap encM
theorem flatM_nil : flatM [] = [] := rfl
theorem flatM_cons (t : Sm) (d : List Sm) : flatM (t :: d) = encM t ++ flatM d := rfl
theorem flatM_append (d e : List Sm) : flatM (d ++ e) = flatM d ++ flatM e := by simp [flatM]
theorem flatM_len : ∀ d : List Sm, (flatM d).length = d.length * 7
  | [] => rfl
  | t :: d => by rw [flatM_cons, List.length_append, flatM_len d, encM_len, List.length_cons]; omega
theorem flatM_drop : ∀ (d : List Sm) (j : Nat), (flatM d).drop (j * 7) = flatM (d.drop j)
  | [], j => by simp [flatM]
  | t :: d, 0 => by simp
  | t :: d, j + 1 => by
    rw [flatM_cons, show (j + 1) * 7 = (encM t).length + j * 7 by rw [encM_len]; omega, List.drop_append, List.drop_of_length_le (by omega)]
    simpa using flatM_drop d j
theorem flatM_take : ∀ (d : List Sm) (j : Nat), (flatM d).take (j * 7) = flatM (d.take j)
  | [], j => by simp [flatM]
  | t :: d, 0 => by simp [flatM]
  | t :: d, j + 1 => by
    rw [flatM_cons, show (j + 1) * 7 = (encM t).length + j * 7 by rw [encM_len]; omega, List.take_length_add_append, flatM_take d j]
    rfl
theorem flatM_get (d : List Sm) (j i : Nat) (hj : j < d.length) (hi : i < 7) : (flatM d)[j * 7 + i]? = (encM d[j])[i]? := by
  rw [← List.getElem?_drop, flatM_drop, List.drop_eq_getElem_cons hj, flatM_cons, List.getElem?_append_left (by rw [encM_len]; exact hi)]
theorem oneCell_encM (x : Sm) : ∀ v ∈ encM x, v.oneCell' = true := by
  intro v hv
  simp [encM] at hv
  rcases hv with rfl | rfl | rfl | rfl | rfl | rfl | rfl <;> rfl
theorem oneCell_flatM (d : List Sm) : ∀ v ∈ flatM d, v.oneCell' = true := by
  intro v hv
  obtain ⟨x, _, hx⟩ := List.mem_flatMap.1 hv
  exact oneCell_encM x v hx

/-- A row lies in a block. -/
def RowM (w : World) (b o : Nat) (d : List Sm) : Prop := ∀ (j : Nat) v, (flatM d)[j]? = some v → w.cell? ⟨b, o + j, none⟩ = some v
theorem RowM.later {w w' : World} {b o : Nat} {d : List Sm} (hg : Grow w w') (h : RowM w b o d) : RowM w' b o d := fun j v hj => cell_later hg (h j v hj)
theorem RowM.at {w : World} {b o : Nat} {d : List Sm} (h : RowM w b o d) (j : Nat) (hj : j < d.length) :
    w.cell? ⟨b, o + j * 7, none⟩ = some (.int .i64 d[j].f) ∧ w.cell? ⟨b, o + j * 7 + 1, none⟩ = some (.int .i64 d[j].t) ∧ w.cell? ⟨b, o + j * 7 + 2, none⟩ = some (.int .i64 d[j].k) ∧ w.cell? ⟨b, o + j * 7 + 3, none⟩ = some (.int .i64 d[j].ep) ∧ w.cell? ⟨b, o + j * 7 + 4, none⟩ = some (.int .i64 d[j].x) ∧ w.cell? ⟨b, o + j * 7 + 5, none⟩ = some (.int .i64 d[j].y) ∧ w.cell? ⟨b, o + j * 7 + 6, none⟩ = some (.int .i64 d[j].z) := by
  have k (i : Nat) (hi : i < 7) (v : Value) (hv : (encM d[j])[i]? = some v) : w.cell? ⟨b, o + (j * 7 + i), none⟩ = some v := h _ v (by rw [flatM_get d j i hj hi]; exact hv)
  exact ⟨k 0 (by omega) _ rfl, k 1 (by omega) _ rfl, k 2 (by omega) _ rfl, k 3 (by omega) _ rfl, k 4 (by omega) _ rfl, k 5 (by omega) _ rfl, k 6 (by omega) _ rfl⟩
theorem RowM.drop' {w : World} {b o : Nat} {d : List Sm} (h : RowM w b o d) (k : Nat) : RowM w b (o + k * 7) (d.drop k) := by
  intro j v hj
  rw [← flatM_drop, List.getElem?_drop] at hj
  rw [Nat.add_assoc]; exact h _ v hj
theorem RowM.take' {w : World} {b o : Nat} {d : List Sm} (h : RowM w b o d) (k : Nat) : RowM w b o (d.take k) := by
  intro j v hj
  rw [← flatM_take] at hj
  refine h j v ?_
  rw [List.getElem?_take] at hj
  split at hj
  · exact hj
  · cases hj
theorem RowM_one (w : World) (t : Sm) : RowM (w.alloc (.cells #[.int .i64 t.f, .int .i64 t.t, .int .i64 t.k, .int .i64 t.ep, .int .i64 t.x, .int .i64 t.y, .int .i64 t.z] 68)) w.heap.size 0 [t] := by
  intro j v hj
  have hj' : j < 7 := by
    have := (List.getElem?_eq_some_iff.1 hj).1
    rw [flatM_len] at this
    simpa using this
  have e : flatM [t] = encM t := by simp [flatM]
  rw [e] at hj
  have : j = 0 ∨ j = 1 ∨ j = 2 ∨ j = 3 ∨ j = 4 ∨ j = 5 ∨ j = 6 := by omega
  rcases this with rfl | rfl | rfl | rfl | rfl | rfl | rfl <;> simp [encM] at hj <;> subst hj <;> simp [go_sem]
theorem RowM_of {w : World} {b o : Nat} (f : Nat → Sm) (n : Nat) (h : ∀ i, i < n → ∀ j : Nat, j < 7 → w.cell? ⟨b, o + (i * 7 + j), none⟩ = (encM (f i))[j]?) : RowM w b o ((List.range n).map f) := by
  intro k v hk
  have hk' : k < n * 7 := by
    have := (List.getElem?_eq_some_iff.1 hk).1
    rw [flatM_len] at this
    simpa using this
  have e : k = k / 7 * 7 + k % 7 := by omega
  have h1 := flatM_get ((List.range n).map f) (k / 7) (k % 7) (by simp; omega) (by omega)
  rw [← e, hk] at h1
  have h2 := h (k / 7) (by omega) (k % 7) (by omega)
  rw [← e] at h2
  rw [h2, h1]
  simp

/-- The call owns a row, in block g. -/
def OwnM (w : World) (base g cap : Nat) (d : List Sm) : Prop := w.ownsRow base 68 7 (.slice (some ⟨g, 0, none⟩) d.length cap) d.length (flatM d)
theorem OwnM.parts {w : World} {base g cap : Nat} {d : List Sm} (h : OwnM w base g cap d) :
    ∃ cur, base ≤ g ∧ w.heap[g]? = some (.cells cur 68 (0, 0)) ∧ d.length ≤ cap ∧ cap ≤ maxLen ∧ cur.size = cap * 7 ∧ cur.toList.take (d.length * 7) = flatM d := by
  rcases h.2 with ⟨h', _⟩ | ⟨g', cap', cur, h', hb, hg, h1, h2, h3, h4⟩
  · simp at h'
  · simp only [Value.slice.injEq, Option.some.injEq, Addr.mk.injEq, and_true, true_and] at h'
    obtain ⟨rfl, rfl⟩ := h'
    exact ⟨cur, hb, hg, h1, h2, h3, h4⟩
theorem OwnM.mk' {w : World} {base g cap : Nat} {d : List Sm} {cur : Array Value} (hb : base ≤ g) (hg : w.heap[g]? = some (.cells cur 68 (0, 0))) (h1 : d.length ≤ cap) (h2 : cap ≤ maxLen) (h3 : cur.size = cap * 7) (h4 : cur.toList.take (d.length * 7) = flatM d) : OwnM w base g cap d :=
  ⟨flatM_len d, .inr ⟨g, cap, cur, rfl, hb, hg, h1, h2, h3, h4⟩⟩
theorem OwnM.lt {w : World} {base g cap : Nat} {d : List Sm} (h : OwnM w base g cap d) : g < w.heap.size := by
  obtain ⟨cur, _, hg, _⟩ := h.parts
  exact (Array.getElem?_eq_some_iff.1 hg).1
theorem OwnM.le {w : World} {base g cap : Nat} {d : List Sm} (h : OwnM w base g cap d) : base ≤ g ∧ d.length ≤ cap ∧ cap ≤ maxLen := by
  obtain ⟨cur, hb, _, h1, h2, _⟩ := h.parts
  exact ⟨hb, h1, h2⟩
theorem OwnM.row {w : World} {base g cap : Nat} {d : List Sm} (h : OwnM w base g cap d) : RowM w g 0 d := by
  intro j v hj
  have hj' : j < d.length * 7 := by rw [← flatM_len]; exact (List.getElem?_eq_some_iff.1 hj).1
  have := World.ownsRow.cellAt h j hj'
  rw [Nat.zero_add, this]; exact hj
theorem OwnM.keep {w w' : World} {base g cap : Nat} {d : List Sm} (h : OwnM w base g cap d) (he : w'.heap[g]? = w.heap[g]?) : OwnM w' base g cap d := by
  obtain ⟨cur, hb, hg, h1, h2, h3, h4⟩ := h.parts
  exact OwnM.mk' hb (he.trans hg) h1 h2 h3 h4
theorem OwnM.later {w w' : World} {base g cap : Nat} {d : List Sm} (h : OwnM w base g cap d) (hg : Grow w w') : OwnM w' base g cap d := h.keep (hg.block g h.lt)
theorem OwnM.rebase {w : World} {base base' g cap : Nat} {d : List Sm} (h : OwnM w base g cap d) (hb : base' ≤ g) : OwnM w base' g cap d := by
  obtain ⟨cur, _, hg, h1, h2, h3, h4⟩ := h.parts
  exact OwnM.mk' hb hg h1 h2 h3 h4
theorem OwnM.lit0 (w : World) (base : Nat) (hb : base ≤ w.heap.size) : OwnM (w.alloc (.cells #[] 68)) base w.heap.size 0 [] :=
  OwnM.mk' hb (MapKept.heap_alloc w _).1 (Nat.le_refl _) (by simp [maxLen]) rfl rfl
theorem info_sm : ∃ i, Tryz.prog.info? 68 = some i ∧ i.zero = some (.agg #[.int .i64 0, .int .i64 0, .int .i64 0, .int .i64 0, .int .i64 0, .int .i64 0, .int .i64 0]) ∧ i.size = 7 ∧ i.bytes = 56 := by
  cases hi : Tryz.prog.info? 68 with
  | none =>
    have : (Tryz.prog.info? 68).isSome = true := by kernel_rfl
    rw [hi] at this; cases this
  | some i =>
    have hz : (Tryz.prog.info? 68).map (·.zero) = some (some (.agg #[.int .i64 0, .int .i64 0, .int .i64 0, .int .i64 0, .int .i64 0, .int .i64 0, .int .i64 0])) := by kernel_rfl
    have hs : (Tryz.prog.info? 68).map (·.size) = some 7 := by kernel_rfl
    have hb : (Tryz.prog.info? 68).map (·.bytes) = some 56 := by kernel_rfl
    rw [hi] at hz hs hb
    simp only [Option.map_some, Option.some.injEq] at hz hs hb
    exact ⟨i, rfl, hz, hs, hb⟩
/-- A slice that came in. -/
def IsSms (w : World) (s : Option Addr) (n cap : Nat) (d : List Sm) : Prop :=
  d.length = n ∧ n ≤ cap ∧ (d = [] ∨ ∃ b o, s = some ⟨b, o, none⟩ ∧ RowM w b o d)
theorem IsSms.later {w w' : World} {s : Option Addr} {n cap : Nat} {d : List Sm} (hg : Grow w w') (h : IsSms w s n cap d) : IsSms w' s n cap d :=
  ⟨h.1, h.2.1, h.2.2.imp id fun ⟨b, o, e, r⟩ => ⟨b, o, e, r.later hg⟩⟩
/-- The first k of them. -/
theorem IsSms.take' {w : World} {s : Option Addr} {n cap : Nat} {d : List Sm} (h : IsSms w s n cap d) (k : Nat) (hk : k ≤ n) : IsSms w s k cap (d.take k) :=
  ⟨by rw [List.length_take, h.1]; omega, by have := h.2.1; omega, h.2.2.imp (fun e => by rw [e]; simp) fun ⟨b, o, e, r⟩ => ⟨b, o, e, r.take' k⟩⟩
/-- append(x, y...) on a row that the call owns. -/
theorem wpList_app_sm {w : World} {ops : Array Oper} {rest : List Oper} {o : Oper} {a : Act} {Q : Exit → Act → World → Prop} (hgd : o.guard = none) (s x : Operand)
    (ho : o.op = .call { callee := .builtin .append, args := #[s, x], argTypes := #[33, 33] })
    (base g cap : Nat) (d e : List Sm) (n : Nat) (hn : n = d.length) (hs : a.eval s = .slice (some ⟨g, 0, none⟩) n cap) (hown : OwnM w base g cap d)
    (b off m c : Nat) (hx : a.eval x = .slice (some ⟨b, off, none⟩) m c) (hm : e.length = m) (hsrc : RowM w b off e) (hlen : d.length + m ≤ 1000000000000) (hbase : base ≤ w.heap.size)
    (h : ∀ g' cap' w', OwnM w' base g' cap' (d ++ e) → w.grownBy w' (some g) → (g' = g ∨ g' = w.heap.size) → wpList Tryz.prog ops Q rest (a.put o.dst (.slice (some ⟨g', 0, none⟩) (n + m) cap')) w') :
    wpList Tryz.prog ops Q (o :: rest) a w := by
  obtain ⟨i, hi, hz, hsz, hby⟩ := info_sm
  subst hn
  refine wpList_append_own_at w hgd s x 33 ho base 68 i _ 7 56 Tryz.underlying33 hi hz hsz hby rfl (by omega) _ d.length (flatM d) hs hown ⟨b, off, none⟩ m c (flatM e) hx (by rw [flatM_len, hm]) (fun j u hj => by rw [addr_add]; exact hsrc j u hj) (oneCell_flatM e) (by simp [maxLen]; omega) (by omega) hbase ?_
  intro v' w' h1 h2 h3 h4
  have hl : (d ++ e).length = d.length + m := by rw [List.length_append, hm]
  rcases h1.2 with ⟨h', _⟩ | ⟨g', cap', cur, h', hb, hg, k1, k2, k3, k4⟩
  · have := (h3.1 h').1
    simp at this
  · subst h'
    refine h g' cap' w' (OwnM.mk' hb hg (by rw [hl]; exact k1) k2 k3 (by rw [hl, flatM_append]; exact k4)) h2 ?_
    rcases h4 with h4 | h4 <;> simp [Value.ownBlock] at h4
    · exact .inl h4
    · exact .inr h4
theorem rows_sms {H : Type} {enc : TypeId × Value → H} {W : World} {s : Option Addr} {len cap : Nat} {d : DataW H} {p : List MemPlace} {base : Nat} {spare : Nat → Bool} {held : Bool}
    (h : DataW.Trod enc Tryz.prog W base spare held 33 (.slice s len cap) d p) : ∃ l, IsSms W s len cap l := by
  have hC : Tryz.prog.cellsOf 68 = 7 := by kernel_rfl
  obtain ⟨fuel, hf⟩ := h
  rcases open_slice Tryz.underlying33 hf with ⟨hcs, _⟩ | ⟨a, l, c, m, n, D, Pl, hcs, _, hl, _, hm, _, hi⟩
  · simp [Value.cells] at hcs
    obtain ⟨rfl, rfl, rfl⟩ := hcs
    exact ⟨[], rfl, Nat.le_refl _, .inl rfl⟩
  · simp [Value.cells] at hcs
    obtain ⟨rfl, rfl, rfl⟩ := hcs
    have hlm : len ≤ m := by rw [hm]; split <;> omega
    by_cases h0 : len = 0
    · subst h0
      exact ⟨[], rfl, hl, .inl rfl⟩
    · rw [hC] at hi
      have key : ∀ i, i < len → ∃ t : Sm, ∀ j : Nat, j < 7 → W.cell? ((a.add (i * 7)).add j) = (encM t)[j]? := by
        intro i hi'
        obtain ⟨cs', h1, h2⟩ := hi i (by omega)
        obtain ⟨t, rfl⟩ := sm_cells h2
        refine ⟨t, fun j hj => ?_⟩
        exact (World.cells?_some h1).2.2 j (by omega)
      have hch : ∃ f : Nat → Sm, ∀ i, i < len → ∀ j : Nat, j < 7 → W.cell? ((a.add (i * 7)).add j) = (encM (f i))[j]? :=
        ⟨fun i => if h : i < len then (key i h).choose else ⟨0, 0, 0, 0, 0, 0, 0⟩, fun i hi' => by
          have := (key i hi').choose_spec
          simpa [hi'] using this⟩
      obtain ⟨f, hf'⟩ := hch
      have hc := hf' 0 (by omega) 0 (by omega)
      obtain ⟨b, off, spot⟩ := a
      have hspot : spot = none := by
        have h5 : W.cell? (⟨b, off, spot⟩ : Addr) = some (.int .i64 (f 0).f) := by simpa [Addr.add, encM] using hc
        simpa using World.cell?_spot h5
      subst hspot
      refine ⟨(List.range len).map f, by simp, hl, .inr ⟨b, off, rfl, RowM_of f len fun i hi' j hj => ?_⟩⟩
      have := hf' i hi' j hj
      rw [addr_add, addr_add] at this
      rw [← Nat.add_assoc]; exact this

end Go.Proofs.YtehianjfpmbfpaaGreat
end

section
/-
  Rows that a call owns and that may still be nil; append of one more to such a row.
-/
namespace Go.Proofs.YtehianjfpmbfpaaGreat
set_option maxRecDepth 100000
open Go.ChangeShapes Go.WideShapes Go.ChangeAt Go.RowKit Go.Deep
set_option linter.unusedVariables false

/-- The world has grown, but for the one row, which is the call's own. -/
structure GrewBut (w w' : World) (base : Nat) (s : Option Addr) : Prop where
  grown : w.grownBy w' (s.map (·.block))
  own : ∀ a, s = some a → base ≤ a.block

theorem GrewBut.grow {W w w' : World} {base : Nat} {s : Option Addr} (h : GrewBut w w' base s) (hW : Grow W w) (hb : W.heap.size ≤ base) : Grow W w' := by
  cases s with
  | none => exact Below.grown hW h.grown hW.size (fun k e => by cases e)
  | some a => exact Below.grown hW h.grown hW.size (fun k e => by cases e; exact Nat.le_trans hb (h.own a rfl))

/-- The call owns a row, or it is nil. -/
def OwnSV (w : World) (base : Nat) (s : Option Addr) (n cap : Nat) (d : List Tm) : Prop :=
  d.length = n ∧ ((s = none ∧ cap = 0 ∧ d = []) ∨ ∃ g, s = some ⟨g, 0, none⟩ ∧ OwnS w base g cap d)
theorem OwnSV.nil (w : World) (base : Nat) : OwnSV w base none 0 0 [] := ⟨rfl, .inl ⟨rfl, rfl, rfl⟩⟩
theorem OwnSV.of {w : World} {base g cap n : Nat} {d : List Tm} (h : OwnS w base g cap d) (hn : d.length = n) : OwnSV w base (some ⟨g, 0, none⟩) n cap d := ⟨hn, .inr ⟨g, rfl, h⟩⟩
theorem OwnSV.is {w : World} {base n cap : Nat} {s : Option Addr} {d : List Tm} (h : OwnSV w base s n cap d) : IsTms w s n cap d := by
  obtain ⟨hn, ⟨rfl, rfl, rfl⟩ | ⟨g, rfl, ho⟩⟩ := h
  · exact ⟨hn, by simp at hn; omega, .inl rfl⟩
  · exact ⟨hn, by rw [← hn]; exact ho.le.2.1, .inr ⟨g, 0, rfl, ho.row⟩⟩
theorem OwnSV.later {w w' : World} {base n cap : Nat} {s : Option Addr} {d : List Tm} (h : OwnSV w base s n cap d) (hg : Grow w w') : OwnSV w' base s n cap d :=
  ⟨h.1, h.2.imp id fun ⟨g, e, ho⟩ => ⟨g, e, ho.later hg⟩⟩
theorem OwnSV.rebase {w : World} {base base' n cap : Nat} {s : Option Addr} {d : List Tm} (h : OwnSV w base s n cap d) (hb : base' ≤ base) : OwnSV w base' s n cap d :=
  ⟨h.1, h.2.imp id fun ⟨g, e, ho⟩ => ⟨g, e, ho.rebase (Nat.le_trans hb ho.le.1)⟩⟩
/-- append(x, y...) on a row that the call owns, or nil. -/
theorem wpList_apv_tm {w : World} {ops : Array Oper} {rest : List Oper} {o : Oper} {a : Act} {Q : Exit → Act → World → Prop} (hgd : o.guard = none) (s x : Operand)
    (ho : o.op = .call { callee := .builtin .append, args := #[s, x], argTypes := #[39, 39] })
    (base : Nat) (s0 : Option Addr) (cap : Nat) (d e : List Tm) (n : Nat) (hs : a.eval s = .slice s0 n cap) (hown : OwnSV w base s0 n cap d)
    (b off m c : Nat) (hx : a.eval x = .slice (some ⟨b, off, none⟩) m c) (hm : e.length = m) (hm0 : 0 < m) (hsrc : RowT w b off e) (hlen : d.length + m ≤ 1000000000000) (hbase : base ≤ w.heap.size)
    (h : ∀ g' cap' w', OwnS w' base g' cap' (d ++ e) → GrewBut w w' base s0 → wpList Tryz.prog ops Q rest (a.put o.dst (.slice (some ⟨g', 0, none⟩) (n + m) cap')) w') :
    wpList Tryz.prog ops Q (o :: rest) a w := by
  obtain ⟨i, hi, hz, hsz, hby⟩ := info_tm
  obtain ⟨hn, hown⟩ := hown
  subst hn
  have hr : w.ownsRow base 43 5 (.slice s0 d.length cap) d.length (flatT d) := by
    rcases hown with ⟨rfl, rfl, rfl⟩ | ⟨g, rfl, h1⟩
    · exact World.ownsRow_nil w base _ _
    · exact h1
  refine wpList_append_own_at w hgd s x 39 ho base 43 i _ 5 40 Tryz.underlying39 hi hz hsz hby rfl (by omega) _ d.length (flatT d) hs hr ⟨b, off, none⟩ m c (flatT e) hx (by rw [flatT_len, hm]) (fun j u hj => by rw [addr_add]; exact hsrc j u hj) (oneCell_flatT e) (by simp [maxLen]; omega) (by omega) hbase ?_
  intro v' w' h1 h2 h3 h4
  have hl : (d ++ e).length = d.length + m := by rw [List.length_append, hm]
  rcases h1.2 with ⟨h', _⟩ | ⟨g', cap', cur, h', hb, hg, k1, k2, k3, k4⟩
  · have := (h3.1 h').2
    omega
  · subst h'
    refine h g' cap' w' (OwnS.mk' hb hg (by rw [hl]; exact k1) k2 k3 (by rw [hl, flatT_append]; exact k4)) ⟨?_, ?_⟩
    · rcases hown with ⟨rfl, rfl, rfl⟩ | ⟨g, rfl, h1⟩
      · exact h2
      · exact h2
    · intro a ha
      rcases hown with ⟨rfl, rfl, rfl⟩ | ⟨g, rfl, h1⟩
      · cases ha
      · cases ha; exact h1.le.1
/-- The call owns a row, or it is nil. -/
def OwnMV (w : World) (base : Nat) (s : Option Addr) (n cap : Nat) (d : List Sm) : Prop :=
  d.length = n ∧ ((s = none ∧ cap = 0 ∧ d = []) ∨ ∃ g, s = some ⟨g, 0, none⟩ ∧ OwnM w base g cap d)
theorem OwnMV.nil (w : World) (base : Nat) : OwnMV w base none 0 0 [] := ⟨rfl, .inl ⟨rfl, rfl, rfl⟩⟩
theorem OwnMV.of {w : World} {base g cap n : Nat} {d : List Sm} (h : OwnM w base g cap d) (hn : d.length = n) : OwnMV w base (some ⟨g, 0, none⟩) n cap d := ⟨hn, .inr ⟨g, rfl, h⟩⟩
theorem OwnMV.is {w : World} {base n cap : Nat} {s : Option Addr} {d : List Sm} (h : OwnMV w base s n cap d) : IsSms w s n cap d := by
  obtain ⟨hn, ⟨rfl, rfl, rfl⟩ | ⟨g, rfl, ho⟩⟩ := h
  · exact ⟨hn, by simp at hn; omega, .inl rfl⟩
  · exact ⟨hn, by rw [← hn]; exact ho.le.2.1, .inr ⟨g, 0, rfl, ho.row⟩⟩
theorem OwnMV.later {w w' : World} {base n cap : Nat} {s : Option Addr} {d : List Sm} (h : OwnMV w base s n cap d) (hg : Grow w w') : OwnMV w' base s n cap d :=
  ⟨h.1, h.2.imp id fun ⟨g, e, ho⟩ => ⟨g, e, ho.later hg⟩⟩
theorem OwnMV.rebase {w : World} {base base' n cap : Nat} {s : Option Addr} {d : List Sm} (h : OwnMV w base s n cap d) (hb : base' ≤ base) : OwnMV w base' s n cap d :=
  ⟨h.1, h.2.imp id fun ⟨g, e, ho⟩ => ⟨g, e, ho.rebase (Nat.le_trans hb ho.le.1)⟩⟩
/-- append(x, y...) on a row that the call owns, or nil. -/
theorem wpList_apv_sm {w : World} {ops : Array Oper} {rest : List Oper} {o : Oper} {a : Act} {Q : Exit → Act → World → Prop} (hgd : o.guard = none) (s x : Operand)
    (ho : o.op = .call { callee := .builtin .append, args := #[s, x], argTypes := #[33, 33] })
    (base : Nat) (s0 : Option Addr) (cap : Nat) (d e : List Sm) (n : Nat) (hs : a.eval s = .slice s0 n cap) (hown : OwnMV w base s0 n cap d)
    (b off m c : Nat) (hx : a.eval x = .slice (some ⟨b, off, none⟩) m c) (hm : e.length = m) (hm0 : 0 < m) (hsrc : RowM w b off e) (hlen : d.length + m ≤ 1000000000000) (hbase : base ≤ w.heap.size)
    (h : ∀ g' cap' w', OwnM w' base g' cap' (d ++ e) → GrewBut w w' base s0 → wpList Tryz.prog ops Q rest (a.put o.dst (.slice (some ⟨g', 0, none⟩) (n + m) cap')) w') :
    wpList Tryz.prog ops Q (o :: rest) a w := by
  obtain ⟨i, hi, hz, hsz, hby⟩ := info_sm
  obtain ⟨hn, hown⟩ := hown
  subst hn
  have hr : w.ownsRow base 68 7 (.slice s0 d.length cap) d.length (flatM d) := by
    rcases hown with ⟨rfl, rfl, rfl⟩ | ⟨g, rfl, h1⟩
    · exact World.ownsRow_nil w base _ _
    · exact h1
  refine wpList_append_own_at w hgd s x 33 ho base 68 i _ 7 56 Tryz.underlying33 hi hz hsz hby rfl (by omega) _ d.length (flatM d) hs hr ⟨b, off, none⟩ m c (flatM e) hx (by rw [flatM_len, hm]) (fun j u hj => by rw [addr_add]; exact hsrc j u hj) (oneCell_flatM e) (by simp [maxLen]; omega) (by omega) hbase ?_
  intro v' w' h1 h2 h3 h4
  have hl : (d ++ e).length = d.length + m := by rw [List.length_append, hm]
  rcases h1.2 with ⟨h', _⟩ | ⟨g', cap', cur, h', hb, hg, k1, k2, k3, k4⟩
  · have := (h3.1 h').2
    omega
  · subst h'
    refine h g' cap' w' (OwnM.mk' hb hg (by rw [hl]; exact k1) k2 k3 (by rw [hl, flatM_append]; exact k4)) ⟨?_, ?_⟩
    · rcases hown with ⟨rfl, rfl, rfl⟩ | ⟨g, rfl, h1⟩
      · exact h2
      · exact h2
    · intro a ha
      rcases hown with ⟨rfl, rfl, rfl⟩ | ⟨g, rfl, h1⟩
      · cases ha
      · cases ha; exact h1.le.1

end Go.Proofs.YtehianjfpmbfpaaGreat
end
