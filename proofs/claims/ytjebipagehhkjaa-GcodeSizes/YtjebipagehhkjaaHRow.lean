/-
  Rows of nodes, edges, places and numbers: their cells one behind the other, where they lie, those that a call has made by append, nil ones too; how nodes, places and graphs that come in as arguments are opened; boxes of them.
-/
import Derived.Test.YtjebipagehhkjaaHPl
import Derived.ProofKit
import Derived.OpenShut
import Derived.ShutString
import Derived.ChangeOld
import Derived.Below
import Derived.Deep.Strs
import Derived.Maps.AppendAt
import Derived.Laws.OwnMore
import Derived.Deep.Slices
namespace Go.Proofs.Ytjebipagehhkjaa
set_option maxRecDepth 100000
open Go.ChangeShapes Go.WideShapes Go.ChangeAt Go.RowKit Go.Deep
set_option linter.unusedVariables false

theorem own : ownKnob Try.prog.godebug = none := by kernel_rfl
theorem laidOut : laidOutB Try.prog = true := by kernel_rfl
theorem addr_add (b o j : Nat) : (Addr.mk b o none).add j = ⟨b, o + j, none⟩ := by cases j <;> rfl
theorem ret_slice {a : Option Addr} {m n c : Nat} (h : m = n) : Ending.returned (.slice a m c) = .returned (.slice a n c) := by rw [h]
/-- It lies in a block. -/
def BoxN (w : World) (b : Nat) (t : Nd) : Prop := w.cell? ⟨b, 0, none⟩ = some (.int .i64 t.k) ∧ w.cell? ⟨b, 1, none⟩ = some (.int .i64 t.a) ∧ w.cell? ⟨b, 2, none⟩ = some (.int .i64 t.b) ∧ w.cell? ⟨b, 3, none⟩ = some (.int .i64 t.d)
theorem BoxN.later {w w' : World} {b : Nat} {t : Nd} (hg : Grow w w') (h : BoxN w b t) : BoxN w' b t := by
  obtain ⟨h0, h1, h2, h3⟩ := h
  exact ⟨cell_later hg h0, cell_later hg h1, cell_later hg h2, cell_later hg h3⟩
theorem BoxN.new (w : World) (t : Nd) : BoxN (w.alloc (.cells #[.int .i64 t.k, .int .i64 t.a, .int .i64 t.b, .int .i64 t.d] 38)) w.heap.size t := by simp [BoxN, go_sem]
theorem BoxN.lt {w : World} {b : Nat} {t : Nd} (h : BoxN w b t) : b < w.heap.size := World.block_lt_of_cell? _ _ h.1
def encN (t : Nd) : List Value := [.int .i64 t.k, .int .i64 t.a, .int .i64 t.b, .int .i64 t.d]
theorem nd_cells {H : Type} {enc : TypeId × Value → H} {W : World} {base : Nat} {spare : Nat → Bool} {held : Bool} {fuel : Nat} {cs : List Value} {y : DataW H × List MemPlace}
    (hf : DataW.trod enc Try.prog W base spare held fuel 38 cs = some y) : ∃ t : Nd, cs = encN t ∧ (Lit.int .i64 t.k).wf = true ∧ (Lit.int .i64 t.a).wf = true ∧ (Lit.int .i64 t.b).wf = true ∧ (Lit.int .i64 t.d).wf = true := by
  have hC : Try.prog.cellsOf 38 = 4 := by kernel_rfl
  have hC3 : Try.prog.cellsOf 3 = 1 := by kernel_rfl
  obtain ⟨xs, n, _, hx, hl, hlen, hfs⟩ := DataW.trod_struct Try.underlying38 hf
  rw [hC] at hl
  match xs, hlen, cs, hl with
  | [y0, y1, y2, y3], _, [c0, c1, c2, c3], _ =>
    have h0 := hfs 0 _ rfl
    have h1 := hfs 1 _ rfl
    have h2 := hfs 2 _ rfl
    have h3 := hfs 3 _ rfl
    simp [hC3] at h0 h1 h2 h3
    obtain ⟨v0, e0, _, we0⟩ := DataW.trod_int Try.underlying3 h0
    obtain ⟨v1, e1, _, we1⟩ := DataW.trod_int Try.underlying3 h1
    obtain ⟨v2, e2, _, we2⟩ := DataW.trod_int Try.underlying3 h2
    obtain ⟨v3, e3, _, we3⟩ := DataW.trod_int Try.underlying3 h3
    simp at e0 e1 e2 e3
    subst e0 e1 e2 e3
    exact ⟨⟨v0, v1, v2, v3⟩, rfl, we0, we1, we2, we3⟩
theorem open_nd {H : Type} {enc : TypeId × Value → H} {W : World} {r : Reach} {b0 : Nat} {v : Value} {d : DataW H} {p : List MemPlace} {base : Nat} {spare : Nat → Bool} {held : Bool}
    (hv : Value.okWide Try.prog W r b0 38 v) (h : DataW.Trod enc Try.prog W base spare held 38 v d p) : ∃ t : Nd, v = .agg #[.int .i64 t.k, .int .i64 t.a, .int .i64 t.b, .int .i64 t.d] ∧ (Lit.int .i64 t.k).wf = true ∧ (Lit.int .i64 t.a).wf = true ∧ (Lit.int .i64 t.b).wf = true ∧ (Lit.int .i64 t.d).wf = true := by
  obtain ⟨cs, rfl, hsz⟩ := okWide_struct Try.underlying38 hv
  obtain ⟨fuel, hf⟩ := h
  obtain ⟨t, ht, hw⟩ := nd_cells hf
  refine ⟨t, ?_, hw⟩
  have : cs.toList = encN t := by simpa [Value.cells] using ht
  obtain ⟨l⟩ := cs
  simp at this
  subst this
  rfl
theorem encN_len (t : Nd) : (encN t).length = 4 := rfl
/-- The cells of a row. -/
def flatN (d : List Nd) : List Value := d.flatMap encN
theorem flatN_nil : flatN [] = [] := rfl
theorem flatN_cons (t : Nd) (d : List Nd) : flatN (t :: d) = encN t ++ flatN d := rfl
theorem flatN_append (d e : List Nd) : flatN (d ++ e) = flatN d ++ flatN e := by simp [flatN]
theorem flatN_len : ∀ d : List Nd, (flatN d).length = d.length * 4
  | [] => rfl
  | t :: d => by rw [flatN_cons, List.length_append, flatN_len d, encN_len, List.length_cons]; omega
theorem flatN_drop : ∀ (d : List Nd) (j : Nat), (flatN d).drop (j * 4) = flatN (d.drop j)
  | [], j => by simp [flatN]
  | t :: d, 0 => by simp
  | t :: d, j + 1 => by
    rw [flatN_cons, show (j + 1) * 4 = (encN t).length + j * 4 by rw [encN_len]; omega, List.drop_append, List.drop_of_length_le (by omega)]
    simpa using flatN_drop d j
theorem flatN_take : ∀ (d : List Nd) (j : Nat), (flatN d).take (j * 4) = flatN (d.take j)
  | [], j => by simp [flatN]
  | t :: d, 0 => by simp [flatN]
  | t :: d, j + 1 => by
    rw [flatN_cons, show (j + 1) * 4 = (encN t).length + j * 4 by rw [encN_len]; omega, List.take_length_add_append, flatN_take d j]
    rfl
theorem flatN_get (d : List Nd) (j i : Nat) (hj : j < d.length) (hi : i < 4) : (flatN d)[j * 4 + i]? = (encN d[j])[i]? := by
  rw [← List.getElem?_drop, flatN_drop, List.drop_eq_getElem_cons hj, flatN_cons, List.getElem?_append_left (by rw [encN_len]; exact hi)]
theorem oneCell_encN (x : Nd) : ∀ v ∈ encN x, v.oneCell' = true := by
  intro v hv
  simp [encN] at hv
  rcases hv with rfl | rfl | rfl | rfl <;> rfl
theorem oneCell_flatN (d : List Nd) : ∀ v ∈ flatN d, v.oneCell' = true := by
  intro v hv
  obtain ⟨x, _, hx⟩ := List.mem_flatMap.1 hv
  exact oneCell_encN x v hx
/-- A row lies in a block. -/
def RowN (w : World) (b o : Nat) (d : List Nd) : Prop := ∀ (j : Nat) v, (flatN d)[j]? = some v → w.cell? ⟨b, o + j, none⟩ = some v
theorem RowN.later {w w' : World} {b o : Nat} {d : List Nd} (hg : Grow w w') (h : RowN w b o d) : RowN w' b o d := fun j v hj => cell_later hg (h j v hj)
theorem RowN.at {w : World} {b o : Nat} {d : List Nd} (h : RowN w b o d) (j : Nat) (hj : j < d.length) :
    w.cell? ⟨b, o + j * 4, none⟩ = some (.int .i64 d[j].k) ∧ w.cell? ⟨b, o + j * 4 + 1, none⟩ = some (.int .i64 d[j].a) ∧ w.cell? ⟨b, o + j * 4 + 2, none⟩ = some (.int .i64 d[j].b) ∧ w.cell? ⟨b, o + j * 4 + 3, none⟩ = some (.int .i64 d[j].d) := by
  have k (i : Nat) (hi : i < 4) (v : Value) (hv : (encN d[j])[i]? = some v) : w.cell? ⟨b, o + (j * 4 + i), none⟩ = some v := h _ v (by rw [flatN_get d j i hj hi]; exact hv)
  exact ⟨k 0 (by omega) _ rfl, k 1 (by omega) _ rfl, k 2 (by omega) _ rfl, k 3 (by omega) _ rfl⟩
theorem RowN.take' {w : World} {b o : Nat} {d : List Nd} (h : RowN w b o d) (k : Nat) : RowN w b o (d.take k) := by
  intro j v hj
  rw [← flatN_take] at hj
  refine h j v ?_
  rw [List.getElem?_take] at hj
  split at hj
  · exact hj
  · cases hj
theorem RowN_one (w : World) (t : Nd) : RowN (w.alloc (.cells #[.int .i64 t.k, .int .i64 t.a, .int .i64 t.b, .int .i64 t.d] 38)) w.heap.size 0 [t] := by
  intro j v hj
  have hj' : j < 4 := by
    have := (List.getElem?_eq_some_iff.1 hj).1
    rw [flatN_len] at this
    simpa using this
  have e : flatN [t] = encN t := by simp [flatN]
  rw [e] at hj
  have : j = 0 ∨ j = 1 ∨ j = 2 ∨ j = 3 := by omega
  rcases this with rfl | rfl | rfl | rfl <;> simp [encN] at hj <;> subst hj <;> simp [go_sem]
theorem RowN_of {w : World} {b o : Nat} (f : Nat → Nd) (n : Nat) (h : ∀ i, i < n → ∀ j : Nat, j < 4 → w.cell? ⟨b, o + (i * 4 + j), none⟩ = (encN (f i))[j]?) : RowN w b o ((List.range n).map f) := by
  intro k v hk
  have hk' : k < n * 4 := by
    have := (List.getElem?_eq_some_iff.1 hk).1
    rw [flatN_len] at this
    simpa using this
  have e : k = k / 4 * 4 + k % 4 := by omega
  have h1 := flatN_get ((List.range n).map f) (k / 4) (k % 4) (by simp; omega) (by omega)
  rw [← e, hk] at h1
  have h2 := h (k / 4) (by omega) (k % 4) (by omega)
  rw [← e] at h2
  rw [h2, h1]
  simp
/-- A slice that came in. -/
def IsNds (w : World) (s : Option Addr) (n cap : Nat) (d : List Nd) : Prop :=
  d.length = n ∧ n ≤ cap ∧ (d = [] ∨ ∃ b o, s = some ⟨b, o, none⟩ ∧ RowN w b o d)
theorem IsNds.later {w w' : World} {s : Option Addr} {n cap : Nat} {d : List Nd} (hg : Grow w w') (h : IsNds w s n cap d) : IsNds w' s n cap d :=
  ⟨h.1, h.2.1, h.2.2.imp id fun ⟨b, o, e, r⟩ => ⟨b, o, e, r.later hg⟩⟩
/-- The first k of them. -/
theorem IsNds.take' {w : World} {s : Option Addr} {n cap : Nat} {d : List Nd} (h : IsNds w s n cap d) (k : Nat) (hk : k ≤ n) : IsNds w s k cap (d.take k) :=
  ⟨by rw [List.length_take, h.1]; omega, by have := h.2.1; omega, h.2.2.imp (fun e => by rw [e]; simp) fun ⟨b, o, e, r⟩ => ⟨b, o, e, r.take' k⟩⟩
theorem IsNds_nil (w : World) : IsNds w none 0 0 [] := ⟨rfl, Nat.le_refl _, .inl rfl⟩
theorem run_headN (a : Option Addr) (n cap k : Nat) (w : World) (h1 : (k : Int) ≤ (cap : Int)) :
    (Instr.slice 22 (.slice a n cap) none (some (.int .i64 (k : Int))) none).run Try.prog w = .ok (.slice a k cap) w := by
  have h0 : (0 : Int) ≤ (k : Int) := by omega
  have z := Try.sizeOf38
  cases a with
  | none => simp [go_sem, h1]
  | some a =>
    obtain ⟨b, o, s⟩ := a
    by_cases hc : cap = 0
    · have hk : k = 0 := by omega
      subst hk
      simp [go_sem, hc]
    · simp [go_sem, h1, hc]
theorem rows_nds {H : Type} {enc : TypeId × Value → H} {W : World} {s : Option Addr} {len cap : Nat} {d : DataW H} {p : List MemPlace} {base : Nat} {spare : Nat → Bool} {held : Bool}
    (h : DataW.Trod enc Try.prog W base spare held 22 (.slice s len cap) d p) : ∃ l, IsNds W s len cap l := by
  have hC : Try.prog.cellsOf 38 = 4 := by kernel_rfl
  obtain ⟨fuel, hf⟩ := h
  rcases open_slice Try.underlying22 hf with ⟨hcs, _⟩ | ⟨a, l, c, m, n, D, Pl, hcs, _, hl, _, hm, _, hi⟩
  · simp [Value.cells] at hcs
    obtain ⟨rfl, rfl, rfl⟩ := hcs
    exact ⟨[], rfl, Nat.le_refl _, .inl rfl⟩
  · simp [Value.cells] at hcs
    obtain ⟨rfl, rfl, rfl⟩ := hcs
    have hlm : len ≤ m := by rw [hm]; split <;> omega
    by_cases h0 : len = 0
    · subst h0
      exact ⟨[], rfl, hl, .inl rfl⟩
    · rw [hC] at hi
      have key : ∀ i, i < len → ∃ t : Nd, ∀ j : Nat, j < 4 → W.cell? ((a.add (i * 4)).add j) = (encN t)[j]? := by
        intro i hi'
        obtain ⟨cs', h1, h2⟩ := hi i (by omega)
        obtain ⟨t, rfl, hwf⟩ := nd_cells h2
        refine ⟨t, fun j hj => ?_⟩
        exact (World.cells?_some h1).2.2 j (by omega)
      have hch : ∃ f : Nat → Nd, ∀ i, i < len → ∀ j : Nat, j < 4 → W.cell? ((a.add (i * 4)).add j) = (encN (f i))[j]? :=
        ⟨fun i => if h : i < len then (key i h).choose else ⟨0, 0, 0, 0⟩, fun i hi' => by
          have := (key i hi').choose_spec
          simpa [hi'] using this⟩
      obtain ⟨f, hf'⟩ := hch
      have hc := hf' 0 (by omega) 0 (by omega)
      obtain ⟨b, off, spot⟩ := a
      have hspot : spot = none := by
        have h5 : W.cell? (⟨b, off, spot⟩ : Addr) = some (.int .i64 (f 0).k) := by simpa [Addr.add, encN] using hc
        simpa using World.cell?_spot h5
      subst hspot
      refine ⟨(List.range len).map f, by simp, hl, .inr ⟨b, off, rfl, RowN_of f len fun i hi' j hj => ?_⟩⟩
      have := hf' i hi' j hj
      rw [addr_add, addr_add] at this
      rw [← Nat.add_assoc]; exact this
theorem slice_cellN {H : Type} {enc : TypeId × Value → H} {W : World} {base : Nat} {spare : Nat → Bool} {held : Bool} {fuel : Nat} {c : Value} {y : DataW H × List MemPlace}
    (h : DataW.trod enc Try.prog W base spare held fuel 22 [c] = some y) : ∃ s n cap l, c = .slice s n cap ∧ IsNds W s n cap l := by
  have hc : ∃ s n cap, c = .slice s n cap := by
    rcases open_slice Try.underlying22 h with ⟨hcs, _⟩ | ⟨a, l, cp, m, n, D, Pl, hcs, _⟩
    · simp at hcs; exact ⟨_, _, _, hcs⟩
    · simp at hcs; exact ⟨_, _, _, hcs⟩
  obtain ⟨s, n, cap, rfl⟩ := hc
  obtain ⟨l, hl⟩ := rows_nds (enc := enc) (W := W) (s := s) (len := n) (cap := cap) (d := y.1) (p := y.2) (base := base) (spare := spare) (held := held) ⟨fuel, by simpa [Value.cells] using h⟩
  exact ⟨s, n, cap, l, rfl, hl⟩
/-- It lies in a block. -/
def BoxE (w : World) (b : Nat) (t : Ed) : Prop := w.cell? ⟨b, 0, none⟩ = some (.int .i64 t.f) ∧ w.cell? ⟨b, 1, none⟩ = some (.int .i64 t.t) ∧ w.cell? ⟨b, 2, none⟩ = some (.int .i64 t.p)
theorem BoxE.later {w w' : World} {b : Nat} {t : Ed} (hg : Grow w w') (h : BoxE w b t) : BoxE w' b t := by
  obtain ⟨h0, h1, h2⟩ := h
  exact ⟨cell_later hg h0, cell_later hg h1, cell_later hg h2⟩
theorem BoxE.new (w : World) (t : Ed) : BoxE (w.alloc (.cells #[.int .i64 t.f, .int .i64 t.t, .int .i64 t.p] 40)) w.heap.size t := by simp [BoxE, go_sem]
theorem BoxE.lt {w : World} {b : Nat} {t : Ed} (h : BoxE w b t) : b < w.heap.size := World.block_lt_of_cell? _ _ h.1
def encE (t : Ed) : List Value := [.int .i64 t.f, .int .i64 t.t, .int .i64 t.p]
theorem ed_cells {H : Type} {enc : TypeId × Value → H} {W : World} {base : Nat} {spare : Nat → Bool} {held : Bool} {fuel : Nat} {cs : List Value} {y : DataW H × List MemPlace}
    (hf : DataW.trod enc Try.prog W base spare held fuel 40 cs = some y) : ∃ t : Ed, cs = encE t ∧ (Lit.int .i64 t.f).wf = true ∧ (Lit.int .i64 t.t).wf = true ∧ (Lit.int .i64 t.p).wf = true := by
  have hC : Try.prog.cellsOf 40 = 3 := by kernel_rfl
  have hC3 : Try.prog.cellsOf 3 = 1 := by kernel_rfl
  obtain ⟨xs, n, _, hx, hl, hlen, hfs⟩ := DataW.trod_struct Try.underlying40 hf
  rw [hC] at hl
  match xs, hlen, cs, hl with
  | [y0, y1, y2], _, [c0, c1, c2], _ =>
    have h0 := hfs 0 _ rfl
    have h1 := hfs 1 _ rfl
    have h2 := hfs 2 _ rfl
    simp [hC3] at h0 h1 h2
    obtain ⟨v0, e0, _, we0⟩ := DataW.trod_int Try.underlying3 h0
    obtain ⟨v1, e1, _, we1⟩ := DataW.trod_int Try.underlying3 h1
    obtain ⟨v2, e2, _, we2⟩ := DataW.trod_int Try.underlying3 h2
    simp at e0 e1 e2
    subst e0 e1 e2
    exact ⟨⟨v0, v1, v2⟩, rfl, we0, we1, we2⟩
theorem open_ed {H : Type} {enc : TypeId × Value → H} {W : World} {r : Reach} {b0 : Nat} {v : Value} {d : DataW H} {p : List MemPlace} {base : Nat} {spare : Nat → Bool} {held : Bool}
    (hv : Value.okWide Try.prog W r b0 40 v) (h : DataW.Trod enc Try.prog W base spare held 40 v d p) : ∃ t : Ed, v = .agg #[.int .i64 t.f, .int .i64 t.t, .int .i64 t.p] ∧ (Lit.int .i64 t.f).wf = true ∧ (Lit.int .i64 t.t).wf = true ∧ (Lit.int .i64 t.p).wf = true := by
  obtain ⟨cs, rfl, hsz⟩ := okWide_struct Try.underlying40 hv
  obtain ⟨fuel, hf⟩ := h
  obtain ⟨t, ht, hw⟩ := ed_cells hf
  refine ⟨t, ?_, hw⟩
  have : cs.toList = encE t := by simpa [Value.cells] using ht
  obtain ⟨l⟩ := cs
  simp at this
  subst this
  rfl
theorem encE_len (t : Ed) : (encE t).length = 3 := rfl
/-- The cells of a row. -/
def flatE (d : List Ed) : List Value := d.flatMap encE
theorem flatE_nil : flatE [] = [] := rfl
theorem flatE_cons (t : Ed) (d : List Ed) : flatE (t :: d) = encE t ++ flatE d := rfl
theorem flatE_append (d e : List Ed) : flatE (d ++ e) = flatE d ++ flatE e := by simp [flatE]
theorem flatE_len : ∀ d : List Ed, (flatE d).length = d.length * 3
  | [] => rfl
  | t :: d => by rw [flatE_cons, List.length_append, flatE_len d, encE_len, List.length_cons]; omega
theorem flatE_drop : ∀ (d : List Ed) (j : Nat), (flatE d).drop (j * 3) = flatE (d.drop j)
  | [], j => by simp [flatE]
  | t :: d, 0 => by simp
  | t :: d, j + 1 => by
    rw [flatE_cons, show (j + 1) * 3 = (encE t).length + j * 3 by rw [encE_len]; omega, List.drop_append, List.drop_of_length_le (by omega)]
    simpa using flatE_drop d j
theorem flatE_take : ∀ (d : List Ed) (j : Nat), (flatE d).take (j * 3) = flatE (d.take j)
  | [], j => by simp [flatE]
  | t :: d, 0 => by simp [flatE]
  | t :: d, j + 1 => by
    rw [flatE_cons, show (j + 1) * 3 = (encE t).length + j * 3 by rw [encE_len]; omega, List.take_length_add_append, flatE_take d j]
    rfl
theorem flatE_get (d : List Ed) (j i : Nat) (hj : j < d.length) (hi : i < 3) : (flatE d)[j * 3 + i]? = (encE d[j])[i]? := by
  rw [← List.getElem?_drop, flatE_drop, List.drop_eq_getElem_cons hj, flatE_cons, List.getElem?_append_left (by rw [encE_len]; exact hi)]
theorem oneCell_encE (x : Ed) : ∀ v ∈ encE x, v.oneCell' = true := by
  intro v hv
  simp [encE] at hv
  rcases hv with rfl | rfl | rfl <;> rfl
theorem oneCell_flatE (d : List Ed) : ∀ v ∈ flatE d, v.oneCell' = true := by
  intro v hv
  obtain ⟨x, _, hx⟩ := List.mem_flatMap.1 hv
  exact oneCell_encE x v hx
/-- A row lies in a block. -/
def RowE (w : World) (b o : Nat) (d : List Ed) : Prop := ∀ (j : Nat) v, (flatE d)[j]? = some v → w.cell? ⟨b, o + j, none⟩ = some v
theorem RowE.later {w w' : World} {b o : Nat} {d : List Ed} (hg : Grow w w') (h : RowE w b o d) : RowE w' b o d := fun j v hj => cell_later hg (h j v hj)
theorem RowE.at {w : World} {b o : Nat} {d : List Ed} (h : RowE w b o d) (j : Nat) (hj : j < d.length) :
    w.cell? ⟨b, o + j * 3, none⟩ = some (.int .i64 d[j].f) ∧ w.cell? ⟨b, o + j * 3 + 1, none⟩ = some (.int .i64 d[j].t) ∧ w.cell? ⟨b, o + j * 3 + 2, none⟩ = some (.int .i64 d[j].p) := by
  have k (i : Nat) (hi : i < 3) (v : Value) (hv : (encE d[j])[i]? = some v) : w.cell? ⟨b, o + (j * 3 + i), none⟩ = some v := h _ v (by rw [flatE_get d j i hj hi]; exact hv)
  exact ⟨k 0 (by omega) _ rfl, k 1 (by omega) _ rfl, k 2 (by omega) _ rfl⟩
theorem RowE.take' {w : World} {b o : Nat} {d : List Ed} (h : RowE w b o d) (k : Nat) : RowE w b o (d.take k) := by
  intro j v hj
  rw [← flatE_take] at hj
  refine h j v ?_
  rw [List.getElem?_take] at hj
  split at hj
  · exact hj
  · cases hj
theorem RowE_one (w : World) (t : Ed) : RowE (w.alloc (.cells #[.int .i64 t.f, .int .i64 t.t, .int .i64 t.p] 40)) w.heap.size 0 [t] := by
  intro j v hj
  have hj' : j < 3 := by
    have := (List.getElem?_eq_some_iff.1 hj).1
    rw [flatE_len] at this
    simpa using this
  have e : flatE [t] = encE t := by simp [flatE]
  rw [e] at hj
  have : j = 0 ∨ j = 1 ∨ j = 2 := by omega
  rcases this with rfl | rfl | rfl <;> simp [encE] at hj <;> subst hj <;> simp [go_sem]
theorem RowE_of {w : World} {b o : Nat} (f : Nat → Ed) (n : Nat) (h : ∀ i, i < n → ∀ j : Nat, j < 3 → w.cell? ⟨b, o + (i * 3 + j), none⟩ = (encE (f i))[j]?) : RowE w b o ((List.range n).map f) := by
  intro k v hk
  have hk' : k < n * 3 := by
    have := (List.getElem?_eq_some_iff.1 hk).1
    rw [flatE_len] at this
    simpa using this
  have e : k = k / 3 * 3 + k % 3 := by omega
  have h1 := flatE_get ((List.range n).map f) (k / 3) (k % 3) (by simp; omega) (by omega)
  rw [← e, hk] at h1
  have h2 := h (k / 3) (by omega) (k % 3) (by omega)
  rw [← e] at h2
  rw [h2, h1]
  simp
/-- A slice that came in. -/
def IsEds (w : World) (s : Option Addr) (n cap : Nat) (d : List Ed) : Prop :=
  d.length = n ∧ n ≤ cap ∧ (d = [] ∨ ∃ b o, s = some ⟨b, o, none⟩ ∧ RowE w b o d)
theorem IsEds.later {w w' : World} {s : Option Addr} {n cap : Nat} {d : List Ed} (hg : Grow w w') (h : IsEds w s n cap d) : IsEds w' s n cap d :=
  ⟨h.1, h.2.1, h.2.2.imp id fun ⟨b, o, e, r⟩ => ⟨b, o, e, r.later hg⟩⟩
/-- The first k of them. -/
theorem IsEds.take' {w : World} {s : Option Addr} {n cap : Nat} {d : List Ed} (h : IsEds w s n cap d) (k : Nat) (hk : k ≤ n) : IsEds w s k cap (d.take k) :=
  ⟨by rw [List.length_take, h.1]; omega, by have := h.2.1; omega, h.2.2.imp (fun e => by rw [e]; simp) fun ⟨b, o, e, r⟩ => ⟨b, o, e, r.take' k⟩⟩
theorem IsEds_nil (w : World) : IsEds w none 0 0 [] := ⟨rfl, Nat.le_refl _, .inl rfl⟩
theorem run_headE (a : Option Addr) (n cap k : Nat) (w : World) (h1 : (k : Int) ≤ (cap : Int)) :
    (Instr.slice 23 (.slice a n cap) none (some (.int .i64 (k : Int))) none).run Try.prog w = .ok (.slice a k cap) w := by
  have h0 : (0 : Int) ≤ (k : Int) := by omega
  have z := Try.sizeOf40
  cases a with
  | none => simp [go_sem, h1]
  | some a =>
    obtain ⟨b, o, s⟩ := a
    by_cases hc : cap = 0
    · have hk : k = 0 := by omega
      subst hk
      simp [go_sem, hc]
    · simp [go_sem, h1, hc]
theorem rows_eds {H : Type} {enc : TypeId × Value → H} {W : World} {s : Option Addr} {len cap : Nat} {d : DataW H} {p : List MemPlace} {base : Nat} {spare : Nat → Bool} {held : Bool}
    (h : DataW.Trod enc Try.prog W base spare held 23 (.slice s len cap) d p) : ∃ l, IsEds W s len cap l := by
  have hC : Try.prog.cellsOf 40 = 3 := by kernel_rfl
  obtain ⟨fuel, hf⟩ := h
  rcases open_slice Try.underlying23 hf with ⟨hcs, _⟩ | ⟨a, l, c, m, n, D, Pl, hcs, _, hl, _, hm, _, hi⟩
  · simp [Value.cells] at hcs
    obtain ⟨rfl, rfl, rfl⟩ := hcs
    exact ⟨[], rfl, Nat.le_refl _, .inl rfl⟩
  · simp [Value.cells] at hcs
    obtain ⟨rfl, rfl, rfl⟩ := hcs
    have hlm : len ≤ m := by rw [hm]; split <;> omega
    by_cases h0 : len = 0
    · subst h0
      exact ⟨[], rfl, hl, .inl rfl⟩
    · rw [hC] at hi
      have key : ∀ i, i < len → ∃ t : Ed, ∀ j : Nat, j < 3 → W.cell? ((a.add (i * 3)).add j) = (encE t)[j]? := by
        intro i hi'
        obtain ⟨cs', h1, h2⟩ := hi i (by omega)
        obtain ⟨t, rfl, hwf⟩ := ed_cells h2
        refine ⟨t, fun j hj => ?_⟩
        exact (World.cells?_some h1).2.2 j (by omega)
      have hch : ∃ f : Nat → Ed, ∀ i, i < len → ∀ j : Nat, j < 3 → W.cell? ((a.add (i * 3)).add j) = (encE (f i))[j]? :=
        ⟨fun i => if h : i < len then (key i h).choose else ⟨0, 0, 0⟩, fun i hi' => by
          have := (key i hi').choose_spec
          simpa [hi'] using this⟩
      obtain ⟨f, hf'⟩ := hch
      have hc := hf' 0 (by omega) 0 (by omega)
      obtain ⟨b, off, spot⟩ := a
      have hspot : spot = none := by
        have h5 : W.cell? (⟨b, off, spot⟩ : Addr) = some (.int .i64 (f 0).f) := by simpa [Addr.add, encE] using hc
        simpa using World.cell?_spot h5
      subst hspot
      refine ⟨(List.range len).map f, by simp, hl, .inr ⟨b, off, rfl, RowE_of f len fun i hi' j hj => ?_⟩⟩
      have := hf' i hi' j hj
      rw [addr_add, addr_add] at this
      rw [← Nat.add_assoc]; exact this
theorem slice_cellE {H : Type} {enc : TypeId × Value → H} {W : World} {base : Nat} {spare : Nat → Bool} {held : Bool} {fuel : Nat} {c : Value} {y : DataW H × List MemPlace}
    (h : DataW.trod enc Try.prog W base spare held fuel 23 [c] = some y) : ∃ s n cap l, c = .slice s n cap ∧ IsEds W s n cap l := by
  have hc : ∃ s n cap, c = .slice s n cap := by
    rcases open_slice Try.underlying23 h with ⟨hcs, _⟩ | ⟨a, l, cp, m, n, D, Pl, hcs, _⟩
    · simp at hcs; exact ⟨_, _, _, hcs⟩
    · simp at hcs; exact ⟨_, _, _, hcs⟩
  obtain ⟨s, n, cap, rfl⟩ := hc
  obtain ⟨l, hl⟩ := rows_eds (enc := enc) (W := W) (s := s) (len := n) (cap := cap) (d := y.1) (p := y.2) (base := base) (spare := spare) (held := held) ⟨fuel, by simpa [Value.cells] using h⟩
  exact ⟨s, n, cap, l, rfl, hl⟩

/-- A graph that came in: two slices. -/
structure GA where
  s : Option Addr
  n : Nat
  c : Nat
  t : Option Addr
  m : Nat
  q : Nat
  N : List Nd
  E : List Ed
/-- Its rows lie where it says. -/
structure IsG (w : World) (g : GA) : Prop where
  nodes : IsNds w g.s g.n g.c g.N
  edges : IsEds w g.t g.m g.q g.E
theorem IsG.later {w w' : World} {g : GA} (hg : Grow w w') (h : IsG w g) : IsG w' g := ⟨h.nodes.later hg, h.edges.later hg⟩
theorem open_gr {H : Type} {enc : TypeId × Value → H} {W : World} {r : Reach} {b0 : Nat} {v : Value} {d : DataW H} {p : List MemPlace} {base : Nat} {spare : Nat → Bool} {held : Bool}
    (hv : Value.okWide Try.prog W r b0 25 v) (h : DataW.Trod enc Try.prog W base spare held 25 v d p) : ∃ g : GA, v = .agg #[.slice g.s g.n g.c, .slice g.t g.m g.q] ∧ IsG W g := by
  obtain ⟨cs, rfl, hsz⟩ := okWide_struct Try.underlying25 hv
  have hC : Try.prog.cellsOf 25 = 2 := by kernel_rfl
  have hC1 : Try.prog.cellsOf 22 = 1 := by kernel_rfl
  have hC2 : Try.prog.cellsOf 23 = 1 := by kernel_rfl
  rw [hC] at hsz
  obtain ⟨l⟩ := cs
  match l, hsz with
  | [c0, c1], _ =>
    obtain ⟨fuel, hf⟩ := h
    obtain ⟨y0, y1, n, _, _, h0, h1⟩ := trod_struct2 Try.underlying25 hf
    simp only [Value.cells] at h0 h1
    simp [hC1, hC2] at h0 h1
    obtain ⟨s, n, cap, l, rfl, hl⟩ := slice_cellN h0
    obtain ⟨s', n', cap', l', rfl, hl'⟩ := slice_cellE h1
    exact ⟨⟨s, n, cap, s', n', cap', l, l'⟩, rfl, hl, hl'⟩
/-- A graph lies in a block. -/
def BoxG (w : World) (b : Nat) (g : GA) : Prop := w.cell? ⟨b, 0, none⟩ = some (.slice g.s g.n g.c) ∧ w.cell? ⟨b, 1, none⟩ = some (.slice g.t g.m g.q)
theorem BoxG.later {w w' : World} {b : Nat} {g : GA} (hg : Grow w w') (h : BoxG w b g) : BoxG w' b g := ⟨cell_later hg h.1, cell_later hg h.2⟩
theorem BoxG.new (w : World) (g : GA) : BoxG (w.alloc (.cells #[.slice g.s g.n g.c, .slice g.t g.m g.q] 25)) w.heap.size g := by simp [BoxG, go_sem]
theorem BoxG.lt {w : World} {b : Nat} {g : GA} (h : BoxG w b g) : b < w.heap.size := World.block_lt_of_cell? _ _ h.1

/-- The world has grown, but for the one row, which is the call's own. -/
structure GrewBut (w w' : World) (base : Nat) (s : Option Addr) : Prop where
  grown : w.grownBy w' (s.map (·.block))
  own : ∀ a, s = some a → base ≤ a.block
theorem GrewBut.grow {W w w' : World} {base : Nat} {s : Option Addr} (h : GrewBut w w' base s) (hW : Grow W w) (hb : W.heap.size ≤ base) : Grow W w' := by
  cases s with
  | none => exact Below.grown hW h.grown hW.size (fun k e => by cases e)
  | some a => exact Below.grown hW h.grown hW.size (fun k e => by cases e; exact Nat.le_trans hb (h.own a rfl))

def flatI (d : List Int) : List Value := d.map (Value.int .i64)
theorem flatI_append (d e : List Int) : flatI (d ++ e) = flatI d ++ flatI e := by simp [flatI]
theorem flatI_len (d : List Int) : (flatI d).length = d.length * 1 := by simp [flatI]
theorem oneCell_flatI (d : List Int) : ∀ v ∈ flatI d, v.oneCell' = true := by
  intro v hv
  obtain ⟨x, _, rfl⟩ := List.mem_map.1 hv
  rfl
def RowI (w : World) (b o : Nat) (d : List Int) : Prop := ∀ (j : Nat) v, (flatI d)[j]? = some v → w.cell? ⟨b, o + j, none⟩ = some v
theorem RowI.later {w w' : World} {b o : Nat} {d : List Int} (hg : Grow w w') (h : RowI w b o d) : RowI w' b o d := fun j v hj => cell_later hg (h j v hj)
theorem RowI.at {w : World} {b o : Nat} {d : List Int} (h : RowI w b o d) (j : Nat) (hj : j < d.length) : w.cell? ⟨b, o + j, none⟩ = some (.int .i64 d[j]) := h j _ (by simp [flatI, hj])
theorem RowI_one (w : World) (t : Int) : RowI (w.alloc (.cells #[.int .i64 t] 3)) w.heap.size 0 [t] := by
  intro j v hj
  have hj' : j < 1 := by
    have := (List.getElem?_eq_some_iff.1 hj).1
    simpa [flatI] using this
  have : j = 0 := by omega
  subst this
  simp [flatI] at hj
  subst hj
  simp [go_sem]
/-- A slice of numbers. -/
def IsIns (w : World) (s : Option Addr) (n cap : Nat) (d : List Int) : Prop :=
  d.length = n ∧ n ≤ cap ∧ (d = [] ∨ ∃ b o, s = some ⟨b, o, none⟩ ∧ RowI w b o d)
theorem IsIns.later {w w' : World} {s : Option Addr} {n cap : Nat} {d : List Int} (hg : Grow w w') (h : IsIns w s n cap d) : IsIns w' s n cap d :=
  ⟨h.1, h.2.1, h.2.2.imp id fun ⟨b, o, e, r⟩ => ⟨b, o, e, r.later hg⟩⟩
theorem isIns_one (w : World) (x : Int) : IsIns (w.alloc (.cells #[.int .i64 x] 3)) (some ⟨w.heap.size, 0, none⟩) 1 1 [x] := ⟨rfl, Nat.le_refl _, .inr ⟨_, _, rfl, RowI_one w x⟩⟩

end Go.Proofs.Ytjebipagehhkjaa
