import Derived.Test.YtehianjfpmbfpaaGreatHPlZ
import Derived.ProofKit
import Derived.OpenShut
import Derived.ShutString
import Derived.ChangeOld
import Derived.Below
import Derived.Deep.Strs
import Derived.Maps.AppendAt
import Derived.Laws.OwnMore
import Derived.Deep.Slices
import Derived.Test.YtehianjfpmbfpaaGreatRowVZ
import Derived.Maps.RangeWalk
import Derived.Maps.OwnOps
import Derived.Maps.Ext
import Derived.DeepKeys4
import Derived.WideKeyEntry
section
/-
  Rows of nodes, edges, places and numbers: their cells one behind the other, where they lie, those that a call has made by append, nil ones too; how nodes, places and graphs that come in as arguments are opened; boxes of them.
-/
namespace Go.Proofs.YtehianjfpmbfpaaGreat
set_option maxRecDepth 100000
open Go.ChangeShapes Go.WideShapes Go.ChangeAt Go.RowKit Go.Deep
set_option linter.unusedVariables false

/-- It lies in a block. -/
def BoxN (w : World) (b : Nat) (t : Nd) : Prop := w.cell? ⟨b, 0, none⟩ = some (.int .i64 t.k) ∧ w.cell? ⟨b, 1, none⟩ = some (.int .i64 t.a) ∧ w.cell? ⟨b, 2, none⟩ = some (.int .i64 t.b) ∧ w.cell? ⟨b, 3, none⟩ = some (.int .i64 t.d)
theorem BoxN.later {w w' : World} {b : Nat} {t : Nd} (hg : Grow w w') (h : BoxN w b t) : BoxN w' b t := by
  obtain ⟨h0, h1, h2, h3⟩ := h
  exact ⟨cell_later hg h0, cell_later hg h1, cell_later hg h2, cell_later hg h3⟩
theorem BoxN.new (w : World) (t : Nd) : BoxN (w.alloc (.cells #[.int .i64 t.k, .int .i64 t.a, .int .i64 t.b, .int .i64 t.d] 63)) w.heap.size t := by simp [BoxN, go_sem]
theorem BoxN.lt {w : World} {b : Nat} {t : Nd} (h : BoxN w b t) : b < w.heap.size := World.block_lt_of_cell? _ _ h.1
def encN (t : Nd) : List Value := [.int .i64 t.k, .int .i64 t.a, .int .i64 t.b, .int .i64 t.d]
theorem nd_cells {H : Type} {enc : TypeId × Value → H} {W : World} {base : Nat} {spare : Nat → Bool} {held : Bool} {fuel : Nat} {cs : List Value} {y : DataW H × List MemPlace}
    (hf : DataW.trod enc Tryz.prog W base spare held fuel 63 cs = some y) : ∃ t : Nd, cs = encN t ∧ (Lit.int .i64 t.k).wf = true ∧ (Lit.int .i64 t.a).wf = true ∧ (Lit.int .i64 t.b).wf = true ∧ (Lit.int .i64 t.d).wf = true := by
  have hC : Tryz.prog.cellsOf 63 = 4 := by kernel_rfl
  have hC3 : Tryz.prog.cellsOf 3 = 1 := by kernel_rfl
  obtain ⟨xs, n, _, hx, hl, hlen, hfs⟩ := DataW.trod_struct Tryz.underlying63 hf
  rw [hC] at hl
  match xs, hlen, cs, hl with
  | [y0, y1, y2, y3], _, [c0, c1, c2, c3], _ =>
    have h0 := hfs 0 _ rfl
    have h1 := hfs 1 _ rfl
    have h2 := hfs 2 _ rfl
    have h3 := hfs 3 _ rfl
    simp [hC3] at h0 h1 h2 h3
    obtain ⟨v0, e0, _, we0⟩ := DataW.trod_int Tryz.underlying3 h0
    obtain ⟨v1, e1, _, we1⟩ := DataW.trod_int Tryz.underlying3 h1
    obtain ⟨v2, e2, _, we2⟩ := DataW.trod_int Tryz.underlying3 h2
    obtain ⟨v3, e3, _, we3⟩ := DataW.trod_int Tryz.underlying3 h3
    simp at e0 e1 e2 e3
    subst e0 e1 e2 e3
    exact ⟨⟨v0, v1, v2, v3⟩, rfl, we0, we1, we2, we3⟩
theorem open_nd {H : Type} {enc : TypeId × Value → H} {W : World} {r : Reach} {b0 : Nat} {v : Value} {d : DataW H} {p : List MemPlace} {base : Nat} {spare : Nat → Bool} {held : Bool}
    (hv : Value.okWide Tryz.prog W r b0 63 v) (h : DataW.Trod enc Tryz.prog W base spare held 63 v d p) : ∃ t : Nd, v = .agg #[.int .i64 t.k, .int .i64 t.a, .int .i64 t.b, .int .i64 t.d] ∧ (Lit.int .i64 t.k).wf = true ∧ (Lit.int .i64 t.a).wf = true ∧ (Lit.int .i64 t.b).wf = true ∧ (Lit.int .i64 t.d).wf = true := by
  obtain ⟨cs, rfl, hsz⟩ := okWide_struct Tryz.underlying63 hv
  obtain ⟨fuel, hf⟩ := h
  obtain ⟨t, ht, hw⟩ := nd_cells hf
  refine ⟨t, ?_, hw⟩
  have : cs.toList = encN t := by simpa [Value.cells] using ht
  obtain ⟨l⟩ := cs
  simp at this
  subst this
  rfl
theorem encN_len (t : Nd) : (encN t).length = 4 := rfl
/-- The cells of a row. -/
def flatN (d : List Nd) : List Value := d.flatMap encN
theorem flatN_nil : flatN [] = [] := rfl
theorem flatN_cons (t : Nd) (d : List Nd) : flatN (t :: d) = encN t ++ flatN d := rfl
theorem flatN_append (d e : List Nd) : flatN (d ++ e) = flatN d ++ flatN e := by simp [flatN]
theorem flatN_len : ∀ d : List Nd, (flatN d).length = d.length * 4
  | [] => rfl
  | t :: d => by rw [flatN_cons, List.length_append, flatN_len d, encN_len, List.length_cons]; omega
theorem flatN_drop : ∀ (d : List Nd) (j : Nat), (flatN d).drop (j * 4) = flatN (d.drop j)
  | [], j => by simp [flatN]
  | t :: d, 0 => by simp
  | t :: d, j + 1 => by
    rw [flatN_cons, show (j + 1) * 4 = (encN t).length + j * 4 by rw [encN_len]; omega, List.drop_append, List.drop_of_length_le (by omega)]
    simpa using flatN_drop d j
theorem flatN_take : ∀ (d : List Nd) (j : Nat), (flatN d).take (j * 4) = flatN (d.take j)
  | [], j => by simp [flatN]
  | t :: d, 0 => by simp [flatN]
  | t :: d, j + 1 => by
    rw [flatN_cons, show (j + 1) * 4 = (encN t).length + j * 4 by rw [encN_len]; omega, List.take_length_add_append, flatN_take d j]
    rfl
theorem flatN_get (d : List Nd) (j i : Nat) (hj : j < d.length) (hi : i < 4) : (flatN d)[j * 4 + i]? = (encN d[j])[i]? := by
  rw [← List.getElem?_drop, flatN_drop, List.drop_eq_getElem_cons hj, flatN_cons, List.getElem?_append_left (by rw [encN_len]; exact hi)]
theorem oneCell_encN (x : Nd) : ∀ v ∈ encN x, v.oneCell' = true := by
  intro v hv
  simp [encN] at hv
  rcases hv with rfl | rfl | rfl | rfl <;> rfl
theorem oneCell_flatN (d : List Nd) : ∀ v ∈ flatN d, v.oneCell' = true := by
  intro v hv
  obtain ⟨x, _, hx⟩ := List.mem_flatMap.1 hv
  exact oneCell_encN x v hx
/-- A row lies in a block. -/
def RowN (w : World) (b o : Nat) (d : List Nd) : Prop := ∀ (j : Nat) v, (flatN d)[j]? = some v → w.cell? ⟨b, o + j, none⟩ = some v
theorem RowN.later {w w' : World} {b o : Nat} {d : List Nd} (hg : Grow w w') (h : RowN w b o d) : RowN w' b o d := fun j v hj => cell_later hg (h j v hj)
theorem RowN.at {w : World} {b o : Nat} {d : List Nd} (h : RowN w b o d) (j : Nat) (hj : j < d.length) :
    w.cell? ⟨b, o + j * 4, none⟩ = some (.int .i64 d[j].k) ∧ w.cell? ⟨b, o + j * 4 + 1, none⟩ = some (.int .i64 d[j].a) ∧ w.cell? ⟨b, o + j * 4 + 2, none⟩ = some (.int .i64 d[j].b) ∧ w.cell? ⟨b, o + j * 4 + 3, none⟩ = some (.int .i64 d[j].d) := by
  have k (i : Nat) (hi : i < 4) (v : Value) (hv : (encN d[j])[i]? = some v) : w.cell? ⟨b, o + (j * 4 + i), none⟩ = some v := h _ v (by rw [flatN_get d j i hj hi]; exact hv)
  exact ⟨k 0 (by omega) _ rfl, k 1 (by omega) _ rfl, k 2 (by omega) _ rfl, k 3 (by omega) _ rfl⟩
theorem RowN.take' {w : World} {b o : Nat} {d : List Nd} (h : RowN w b o d) (k : Nat) : RowN w b o (d.take k) := by
  intro j v hj
  rw [← flatN_take] at hj
  refine h j v ?_
  rw [List.getElem?_take] at hj
  split at hj
  · exact hj
  · cases hj
theorem RowN_one (w : World) (t : Nd) : RowN (w.alloc (.cells #[.int .i64 t.k, .int .i64 t.a, .int .i64 t.b, .int .i64 t.d] 63)) w.heap.size 0 [t] := by
  intro j v hj
  have hj' : j < 4 := by
    have := (List.getElem?_eq_some_iff.1 hj).1
    rw [flatN_len] at this
    simpa using this
  have e : flatN [t] = encN t := by simp [flatN]
  rw [e] at hj
  have : j = 0 ∨ j = 1 ∨ j = 2 ∨ j = 3 := by omega
  rcases this with rfl | rfl | rfl | rfl <;> simp [encN] at hj <;> subst hj <;> simp [go_sem]
theorem RowN_of {w : World} {b o : Nat} (f : Nat → Nd) (n : Nat) (h : ∀ i, i < n → ∀ j : Nat, j < 4 → w.cell? ⟨b, o + (i * 4 + j), none⟩ = (encN (f i))[j]?) : RowN w b o ((List.range n).map f) := by
  intro k v hk
  have hk' : k < n * 4 := by
    have := (List.getElem?_eq_some_iff.1 hk).1
    rw [flatN_len] at this
    simpa using this
  have e : k = k / 4 * 4 + k % 4 := by omega
  have h1 := flatN_get ((List.range n).map f) (k / 4) (k % 4) (by simp; omega) (by omega)
  rw [← e, hk] at h1
  have h2 := h (k / 4) (by omega) (k % 4) (by omega)
  rw [← e] at h2
  rw [h2, h1]
  simp
/-- A slice that came in. -/
def IsNds (w : World) (s : Option Addr) (n cap : Nat) (d : List Nd) : Prop :=
  d.length = n ∧ n ≤ cap ∧ (d = [] ∨ ∃ b o, s = some ⟨b, o, none⟩ ∧ RowN w b o d)
theorem IsNds.later {w w' : World} {s : Option Addr} {n cap : Nat} {d : List Nd} (hg : Grow w w') (h : IsNds w s n cap d) : IsNds w' s n cap d :=
  ⟨h.1, h.2.1, h.2.2.imp id fun ⟨b, o, e, r⟩ => ⟨b, o, e, r.later hg⟩⟩
/-- The first k of them. -/
theorem IsNds.take' {w : World} {s : Option Addr} {n cap : Nat} {d : List Nd} (h : IsNds w s n cap d) (k : Nat) (hk : k ≤ n) : IsNds w s k cap (d.take k) :=
  ⟨by rw [List.length_take, h.1]; omega, by have := h.2.1; omega, h.2.2.imp (fun e => by rw [e]; simp) fun ⟨b, o, e, r⟩ => ⟨b, o, e, r.take' k⟩⟩
theorem IsNds_nil (w : World) : IsNds w none 0 0 [] := ⟨rfl, Nat.le_refl _, .inl rfl⟩
theorem run_headN (a : Option Addr) (n cap k : Nat) (w : World) (h1 : (k : Int) ≤ (cap : Int)) :
    (Instr.slice 22 (.slice a n cap) none (some (.int .i64 (k : Int))) none).run Tryz.prog w = .ok (.slice a k cap) w := by
  have h0 : (0 : Int) ≤ (k : Int) := by omega
  have z := Tryz.sizeOf63
  cases a with
  | none => simp [go_sem, h1]
  | some a =>
    obtain ⟨b, o, s⟩ := a
    by_cases hc : cap = 0
    · have hk : k = 0 := by omega
      subst hk
      simp [go_sem, hc]
    · simp [go_sem, h1, hc]
theorem rows_nds {H : Type} {enc : TypeId × Value → H} {W : World} {s : Option Addr} {len cap : Nat} {d : DataW H} {p : List MemPlace} {base : Nat} {spare : Nat → Bool} {held : Bool}
    (h : DataW.Trod enc Tryz.prog W base spare held 22 (.slice s len cap) d p) : ∃ l, IsNds W s len cap l := by
  have hC : Tryz.prog.cellsOf 63 = 4 := by kernel_rfl
  obtain ⟨fuel, hf⟩ := h
  rcases open_slice Tryz.underlying22 hf with ⟨hcs, _⟩ | ⟨a, l, c, m, n, D, Pl, hcs, _, hl, _, hm, _, hi⟩
  · simp [Value.cells] at hcs
    obtain ⟨rfl, rfl, rfl⟩ := hcs
    exact ⟨[], rfl, Nat.le_refl _, .inl rfl⟩
  · simp [Value.cells] at hcs
    obtain ⟨rfl, rfl, rfl⟩ := hcs
    have hlm : len ≤ m := by rw [hm]; split <;> omega
    by_cases h0 : len = 0
    · subst h0
      exact ⟨[], rfl, hl, .inl rfl⟩
    · rw [hC] at hi
      have key : ∀ i, i < len → ∃ t : Nd, ∀ j : Nat, j < 4 → W.cell? ((a.add (i * 4)).add j) = (encN t)[j]? := by
        intro i hi'
        obtain ⟨cs', h1, h2⟩ := hi i (by omega)
        obtain ⟨t, rfl, hwf⟩ := nd_cells h2
        refine ⟨t, fun j hj => ?_⟩
        exact (World.cells?_some h1).2.2 j (by omega)
      have hch : ∃ f : Nat → Nd, ∀ i, i < len → ∀ j : Nat, j < 4 → W.cell? ((a.add (i * 4)).add j) = (encN (f i))[j]? :=
        ⟨fun i => if h : i < len then (key i h).choose else ⟨0, 0, 0, 0⟩, fun i hi' => by
          have := (key i hi').choose_spec
          simpa [hi'] using this⟩
      obtain ⟨f, hf'⟩ := hch
      have hc := hf' 0 (by omega) 0 (by omega)
      obtain ⟨b, off, spot⟩ := a
      have hspot : spot = none := by
        have h5 : W.cell? (⟨b, off, spot⟩ : Addr) = some (.int .i64 (f 0).k) := by simpa [Addr.add, encN] using hc
        simpa using World.cell?_spot h5
      subst hspot
      refine ⟨(List.range len).map f, by simp, hl, .inr ⟨b, off, rfl, RowN_of f len fun i hi' j hj => ?_⟩⟩
      have := hf' i hi' j hj
      rw [addr_add, addr_add] at this
      rw [← Nat.add_assoc]; exact this
theorem slice_cellN {H : Type} {enc : TypeId × Value → H} {W : World} {base : Nat} {spare : Nat → Bool} {held : Bool} {fuel : Nat} {c : Value} {y : DataW H × List MemPlace}
    (h : DataW.trod enc Tryz.prog W base spare held fuel 22 [c] = some y) : ∃ s n cap l, c = .slice s n cap ∧ IsNds W s n cap l := by
  have hc : ∃ s n cap, c = .slice s n cap := by
    rcases open_slice Tryz.underlying22 h with ⟨hcs, _⟩ | ⟨a, l, cp, m, n, D, Pl, hcs, _⟩
    · simp at hcs; exact ⟨_, _, _, hcs⟩
    · simp at hcs; exact ⟨_, _, _, hcs⟩
  obtain ⟨s, n, cap, rfl⟩ := hc
  obtain ⟨l, hl⟩ := rows_nds (enc := enc) (W := W) (s := s) (len := n) (cap := cap) (d := y.1) (p := y.2) (base := base) (spare := spare) (held := held) ⟨fuel, by simpa [Value.cells] using h⟩
  exact ⟨s, n, cap, l, rfl, hl⟩
/-- It lies in a block. -/
def BoxE (w : World) (b : Nat) (t : Ed) : Prop := w.cell? ⟨b, 0, none⟩ = some (.int .i64 t.f) ∧ w.cell? ⟨b, 1, none⟩ = some (.int .i64 t.t) ∧ w.cell? ⟨b, 2, none⟩ = some (.int .i64 t.p)
theorem BoxE.later {w w' : World} {b : Nat} {t : Ed} (hg : Grow w w') (h : BoxE w b t) : BoxE w' b t := by
  obtain ⟨h0, h1, h2⟩ := h
  exact ⟨cell_later hg h0, cell_later hg h1, cell_later hg h2⟩
theorem BoxE.new (w : World) (t : Ed) : BoxE (w.alloc (.cells #[.int .i64 t.f, .int .i64 t.t, .int .i64 t.p] 61)) w.heap.size t := by simp [BoxE, go_sem]
theorem BoxE.lt {w : World} {b : Nat} {t : Ed} (h : BoxE w b t) : b < w.heap.size := World.block_lt_of_cell? _ _ h.1
def encE (t : Ed) : List Value := [.int .i64 t.f, .int .i64 t.t, .int .i64 t.p]
theorem ed_cells {H : Type} {enc : TypeId × Value → H} {W : World} {base : Nat} {spare : Nat → Bool} {held : Bool} {fuel : Nat} {cs : List Value} {y : DataW H × List MemPlace}
    (hf : DataW.trod enc Tryz.prog W base spare held fuel 61 cs = some y) : ∃ t : Ed, cs = encE t ∧ (Lit.int .i64 t.f).wf = true ∧ (Lit.int .i64 t.t).wf = true ∧ (Lit.int .i64 t.p).wf = true := by
  have hC : Tryz.prog.cellsOf 61 = 3 := by kernel_rfl
  have hC3 : Tryz.prog.cellsOf 3 = 1 := by kernel_rfl
  obtain ⟨xs, n, _, hx, hl, hlen, hfs⟩ := DataW.trod_struct Tryz.underlying61 hf
  rw [hC] at hl
  match xs, hlen, cs, hl with
  | [y0, y1, y2], _, [c0, c1, c2], _ =>
    have h0 := hfs 0 _ rfl
    have h1 := hfs 1 _ rfl
    have h2 := hfs 2 _ rfl
    simp [hC3] at h0 h1 h2
    obtain ⟨v0, e0, _, we0⟩ := DataW.trod_int Tryz.underlying3 h0
    obtain ⟨v1, e1, _, we1⟩ := DataW.trod_int Tryz.underlying3 h1
    obtain ⟨v2, e2, _, we2⟩ := DataW.trod_int Tryz.underlying3 h2
    simp at e0 e1 e2
    subst e0 e1 e2
    exact ⟨⟨v0, v1, v2⟩, rfl, we0, we1, we2⟩
theorem open_ed {H : Type} {enc : TypeId × Value → H} {W : World} {r : Reach} {b0 : Nat} {v : Value} {d : DataW H} {p : List MemPlace} {base : Nat} {spare : Nat → Bool} {held : Bool}
    (hv : Value.okWide Tryz.prog W r b0 61 v) (h : DataW.Trod enc Tryz.prog W base spare held 61 v d p) : ∃ t : Ed, v = .agg #[.int .i64 t.f, .int .i64 t.t, .int .i64 t.p] ∧ (Lit.int .i64 t.f).wf = true ∧ (Lit.int .i64 t.t).wf = true ∧ (Lit.int .i64 t.p).wf = true := by
  obtain ⟨cs, rfl, hsz⟩ := okWide_struct Tryz.underlying61 hv
  obtain ⟨fuel, hf⟩ := h
  obtain ⟨t, ht, hw⟩ := ed_cells hf
  refine ⟨t, ?_, hw⟩
  have : cs.toList = encE t := by simpa [Value.cells] using ht
  obtain ⟨l⟩ := cs
  simp at this
  subst this
  rfl
theorem encE_len (t : Ed) : (encE t).length = 3 := rfl
/-- The cells of a row. -/
def flatE (d : List Ed) : List Value := d.flatMap encE
theorem flatE_nil : flatE [] = [] := rfl
theorem flatE_cons (t : Ed) (d : List Ed) : flatE (t :: d) = encE t ++ flatE d := rfl
theorem flatE_append (d e : List Ed) : flatE (d ++ e) = flatE d ++ flatE e := by simp [flatE]
theorem flatE_len : ∀ d : List Ed, (flatE d).length = d.length * 3
  | [] => rfl
  | t :: d => by rw [flatE_cons, List.length_append, flatE_len d, encE_len, List.length_cons]; omega
theorem flatE_drop : ∀ (d : List Ed) (j : Nat), (flatE d).drop (j * 3) = flatE (d.drop j)
  | [], j => by simp [flatE]
  | t :: d, 0 => by simp
  | t :: d, j + 1 => by
    rw [flatE_cons, show (j + 1) * 3 = (encE t).length + j * 3 by rw [encE_len]; omega, List.drop_append, List.drop_of_length_le (by omega)]
    simpa using flatE_drop d j
theorem flatE_take : ∀ (d : List Ed) (j : Nat), (flatE d).take (j * 3) = flatE (d.take j)
  | [], j => by simp [flatE]
  | t :: d, 0 => by simp [flatE]
  | t :: d, j + 1 => by
    rw [flatE_cons, show (j + 1) * 3 = (encE t).length + j * 3 by rw [encE_len]; omega, List.take_length_add_append, flatE_take d j]
    rfl
theorem flatE_get (d : List Ed) (j i : Nat) (hj : j < d.length) (hi : i < 3) : (flatE d)[j * 3 + i]? = (encE d[j])[i]? := by
  rw [← List.getElem?_drop, flatE_drop, List.drop_eq_getElem_cons hj, flatE_cons, List.getElem?_append_left (by rw [encE_len]; exact hi)]
theorem oneCell_encE (x : Ed) : ∀ v ∈ encE x, v.oneCell' = true := by
  intro v hv
  simp [encE] at hv
  rcases hv with rfl | rfl | rfl <;> rfl
theorem oneCell_flatE (d : List Ed) : ∀ v ∈ flatE d, v.oneCell' = true := by
  intro v hv
  obtain ⟨x, _, hx⟩ := List.mem_flatMap.1 hv
  exact oneCell_encE x v hx
/-- A row lies in a block. -/
def RowE (w : World) (b o : Nat) (d : List Ed) : Prop := ∀ (j : Nat) v, (flatE d)[j]? = some v → w.cell? ⟨b, o + j, none⟩ = some v
theorem RowE.later {w w' : World} {b o : Nat} {d : List Ed} (hg : Grow w w') (h : RowE w b o d) : RowE w' b o d := fun j v hj => cell_later hg (h j v hj)
theorem RowE.at {w : World} {b o : Nat} {d : List Ed} (h : RowE w b o d) (j : Nat) (hj : j < d.length) :
    w.cell? ⟨b, o + j * 3, none⟩ = some (.int .i64 d[j].f) ∧ w.cell? ⟨b, o + j * 3 + 1, none⟩ = some (.int .i64 d[j].t) ∧ w.cell? ⟨b, o + j * 3 + 2, none⟩ = some (.int .i64 d[j].p) := by
  have k (i : Nat) (hi : i < 3) (v : Value) (hv : (encE d[j])[i]? = some v) : w.cell? ⟨b, o + (j * 3 + i), none⟩ = some v := h _ v (by rw [flatE_get d j i hj hi]; exact hv)
  exact ⟨k 0 (by omega) _ rfl, k 1 (by omega) _ rfl, k 2 (by omega) _ rfl⟩
theorem RowE.take' {w : World} {b o : Nat} {d : List Ed} (h : RowE w b o d) (k : Nat) : RowE w b o (d.take k) := by
  intro j v hj
  rw [← flatE_take] at hj
  refine h j v ?_
  rw [List.getElem?_take] at hj
  split at hj
  · exact hj
  · cases hj
theorem RowE_one (w : World) (t : Ed) : RowE (w.alloc (.cells #[.int .i64 t.f, .int .i64 t.t, .int .i64 t.p] 61)) w.heap.size 0 [t] := by
  intro j v hj
  have hj' : j < 3 := by
    have := (List.getElem?_eq_some_iff.1 hj).1
    rw [flatE_len] at this
    simpa using this
  have e : flatE [t] = encE t := by simp [flatE]
  rw [e] at hj
  have : j = 0 ∨ j = 1 ∨ j = 2 := by omega
  rcases this with rfl | rfl | rfl <;> simp [encE] at hj <;> subst hj <;> simp [go_sem]
theorem RowE_of {w : World} {b o : Nat} (f : Nat → Ed) (n : Nat) (h : ∀ i, i < n → ∀ j : Nat, j < 3 → w.cell? ⟨b, o + (i * 3 + j), none⟩ = (encE (f i))[j]?) : RowE w b o ((List.range n).map f) := by
  intro k v hk
  have hk' : k < n * 3 := by
    have := (List.getElem?_eq_some_iff.1 hk).1
    rw [flatE_len] at this
    simpa using this
  have e : k = k / 3 * 3 + k % 3 := by omega
  have h1 := flatE_get ((List.range n).map f) (k / 3) (k % 3) (by simp; omega) (by omega)
  rw [← e, hk] at h1
  have h2 := h (k / 3) (by omega) (k % 3) (by omega)
  rw [← e] at h2
  rw [h2, h1]
  simp
/-- A slice that came in. -/
def IsEds (w : World) (s : Option Addr) (n cap : Nat) (d : List Ed) : Prop :=
  d.length = n ∧ n ≤ cap ∧ (d = [] ∨ ∃ b o, s = some ⟨b, o, none⟩ ∧ RowE w b o d)
theorem IsEds.later {w w' : World} {s : Option Addr} {n cap : Nat} {d : List Ed} (hg : Grow w w') (h : IsEds w s n cap d) : IsEds w' s n cap d :=
  ⟨h.1, h.2.1, h.2.2.imp id fun ⟨b, o, e, r⟩ => ⟨b, o, e, r.later hg⟩⟩
/-- The first k of them. -/
theorem IsEds.take' {w : World} {s : Option Addr} {n cap : Nat} {d : List Ed} (h : IsEds w s n cap d) (k : Nat) (hk : k ≤ n) : IsEds w s k cap (d.take k) :=
  ⟨by rw [List.length_take, h.1]; omega, by have := h.2.1; omega, h.2.2.imp (fun e => by rw [e]; simp) fun ⟨b, o, e, r⟩ => ⟨b, o, e, r.take' k⟩⟩
theorem IsEds_nil (w : World) : IsEds w none 0 0 [] := ⟨rfl, Nat.le_refl _, .inl rfl⟩
theorem run_headE (a : Option Addr) (n cap k : Nat) (w : World) (h1 : (k : Int) ≤ (cap : Int)) :
    (Instr.slice 23 (.slice a n cap) none (some (.int .i64 (k : Int))) none).run Tryz.prog w = .ok (.slice a k cap) w := by
  have h0 : (0 : Int) ≤ (k : Int) := by omega
  have z := Tryz.sizeOf61
  cases a with
  | none => simp [go_sem, h1]
  | some a =>
    obtain ⟨b, o, s⟩ := a
    by_cases hc : cap = 0
    · have hk : k = 0 := by omega
      subst hk
      simp [go_sem, hc]
    · simp [go_sem, h1, hc]
theorem rows_eds {H : Type} {enc : TypeId × Value → H} {W : World} {s : Option Addr} {len cap : Nat} {d : DataW H} {p : List MemPlace} {base : Nat} {spare : Nat → Bool} {held : Bool}
    (h : DataW.Trod enc Tryz.prog W base spare held 23 (.slice s len cap) d p) : ∃ l, IsEds W s len cap l := by
  have hC : Tryz.prog.cellsOf 61 = 3 := by kernel_rfl
  obtain ⟨fuel, hf⟩ := h
  rcases open_slice Tryz.underlying23 hf with ⟨hcs, _⟩ | ⟨a, l, c, m, n, D, Pl, hcs, _, hl, _, hm, _, hi⟩
  · simp [Value.cells] at hcs
    obtain ⟨rfl, rfl, rfl⟩ := hcs
    exact ⟨[], rfl, Nat.le_refl _, .inl rfl⟩
  · simp [Value.cells] at hcs
    obtain ⟨rfl, rfl, rfl⟩ := hcs
    have hlm : len ≤ m := by rw [hm]; split <;> omega
    by_cases h0 : len = 0
    · subst h0
      exact ⟨[], rfl, hl, .inl rfl⟩
    · rw [hC] at hi
      have key : ∀ i, i < len → ∃ t : Ed, ∀ j : Nat, j < 3 → W.cell? ((a.add (i * 3)).add j) = (encE t)[j]? := by
        intro i hi'
        obtain ⟨cs', h1, h2⟩ := hi i (by omega)
        obtain ⟨t, rfl, hwf⟩ := ed_cells h2
        refine ⟨t, fun j hj => ?_⟩
        exact (World.cells?_some h1).2.2 j (by omega)
      have hch : ∃ f : Nat → Ed, ∀ i, i < len → ∀ j : Nat, j < 3 → W.cell? ((a.add (i * 3)).add j) = (encE (f i))[j]? :=
        ⟨fun i => if h : i < len then (key i h).choose else ⟨0, 0, 0⟩, fun i hi' => by
          have := (key i hi').choose_spec
          simpa [hi'] using this⟩
      obtain ⟨f, hf'⟩ := hch
      have hc := hf' 0 (by omega) 0 (by omega)
      obtain ⟨b, off, spot⟩ := a
      have hspot : spot = none := by
        have h5 : W.cell? (⟨b, off, spot⟩ : Addr) = some (.int .i64 (f 0).f) := by simpa [Addr.add, encE] using hc
        simpa using World.cell?_spot h5
      subst hspot
      refine ⟨(List.range len).map f, by simp, hl, .inr ⟨b, off, rfl, RowE_of f len fun i hi' j hj => ?_⟩⟩
      have := hf' i hi' j hj
      rw [addr_add, addr_add] at this
      rw [← Nat.add_assoc]; exact this
theorem slice_cellE {H : Type} {enc : TypeId × Value → H} {W : World} {base : Nat} {spare : Nat → Bool} {held : Bool} {fuel : Nat} {c : Value} {y : DataW H × List MemPlace}
    (h : DataW.trod enc Tryz.prog W base spare held fuel 23 [c] = some y) : ∃ s n cap l, c = .slice s n cap ∧ IsEds W s n cap l := by
  have hc : ∃ s n cap, c = .slice s n cap := by
    rcases open_slice Tryz.underlying23 h with ⟨hcs, _⟩ | ⟨a, l, cp, m, n, D, Pl, hcs, _⟩
    · simp at hcs; exact ⟨_, _, _, hcs⟩
    · simp at hcs; exact ⟨_, _, _, hcs⟩
  obtain ⟨s, n, cap, rfl⟩ := hc
  obtain ⟨l, hl⟩ := rows_eds (enc := enc) (W := W) (s := s) (len := n) (cap := cap) (d := y.1) (p := y.2) (base := base) (spare := spare) (held := held) ⟨fuel, by simpa [Value.cells] using h⟩
  exact ⟨s, n, cap, l, rfl, hl⟩
/-- It lies in a block. -/
def BoxL (w : World) (b : Nat) (t : Lc) : Prop := w.cell? ⟨b, 0, none⟩ = some (.int .i64 t.n) ∧ w.cell? ⟨b, 1, none⟩ = some (.int .i64 t.p)
theorem BoxL.later {w w' : World} {b : Nat} {t : Lc} (hg : Grow w w') (h : BoxL w b t) : BoxL w' b t := by
  obtain ⟨h0, h1⟩ := h
  exact ⟨cell_later hg h0, cell_later hg h1⟩
theorem BoxL.new (w : World) (t : Lc) : BoxL (w.alloc (.cells #[.int .i64 t.n, .int .i64 t.p] 27)) w.heap.size t := by simp [BoxL, go_sem]
theorem BoxL.lt {w : World} {b : Nat} {t : Lc} (h : BoxL w b t) : b < w.heap.size := World.block_lt_of_cell? _ _ h.1
def encL (t : Lc) : List Value := [.int .i64 t.n, .int .i64 t.p]
theorem lc_cells {H : Type} {enc : TypeId × Value → H} {W : World} {base : Nat} {spare : Nat → Bool} {held : Bool} {fuel : Nat} {cs : List Value} {y : DataW H × List MemPlace}
    (hf : DataW.trod enc Tryz.prog W base spare held fuel 27 cs = some y) : ∃ t : Lc, cs = encL t ∧ (Lit.int .i64 t.n).wf = true ∧ (Lit.int .i64 t.p).wf = true := by
  have hC : Tryz.prog.cellsOf 27 = 2 := by kernel_rfl
  have hC3 : Tryz.prog.cellsOf 3 = 1 := by kernel_rfl
  obtain ⟨xs, n, _, hx, hl, hlen, hfs⟩ := DataW.trod_struct Tryz.underlying27 hf
  rw [hC] at hl
  match xs, hlen, cs, hl with
  | [y0, y1], _, [c0, c1], _ =>
    have h0 := hfs 0 _ rfl
    have h1 := hfs 1 _ rfl
    simp [hC3] at h0 h1
    obtain ⟨v0, e0, _, we0⟩ := DataW.trod_int Tryz.underlying3 h0
    obtain ⟨v1, e1, _, we1⟩ := DataW.trod_int Tryz.underlying3 h1
    simp at e0 e1
    subst e0 e1
    exact ⟨⟨v0, v1⟩, rfl, we0, we1⟩
theorem open_lc {H : Type} {enc : TypeId × Value → H} {W : World} {r : Reach} {b0 : Nat} {v : Value} {d : DataW H} {p : List MemPlace} {base : Nat} {spare : Nat → Bool} {held : Bool}
    (hv : Value.okWide Tryz.prog W r b0 27 v) (h : DataW.Trod enc Tryz.prog W base spare held 27 v d p) : ∃ t : Lc, v = .agg #[.int .i64 t.n, .int .i64 t.p] ∧ (Lit.int .i64 t.n).wf = true ∧ (Lit.int .i64 t.p).wf = true := by
  obtain ⟨cs, rfl, hsz⟩ := okWide_struct Tryz.underlying27 hv
  obtain ⟨fuel, hf⟩ := h
  obtain ⟨t, ht, hw⟩ := lc_cells hf
  refine ⟨t, ?_, hw⟩
  have : cs.toList = encL t := by simpa [Value.cells] using ht
  obtain ⟨l⟩ := cs
  simp at this
  subst this
  rfl
theorem encL_len (t : Lc) : (encL t).length = 2 := rfl
/-- The cells of a row. -/
def flatL (d : List Lc) : List Value := d.flatMap encL
theorem flatL_nil : flatL [] = [] := rfl
theorem flatL_cons (t : Lc) (d : List Lc) : flatL (t :: d) = encL t ++ flatL d := rfl
theorem flatL_append (d e : List Lc) : flatL (d ++ e) = flatL d ++ flatL e := by simp [flatL]
theorem flatL_len : ∀ d : List Lc, (flatL d).length = d.length * 2
  | [] => rfl
  | t :: d => by rw [flatL_cons, List.length_append, flatL_len d, encL_len, List.length_cons]; omega
theorem flatL_drop : ∀ (d : List Lc) (j : Nat), (flatL d).drop (j * 2) = flatL (d.drop j)
  | [], j => by simp [flatL]
  | t :: d, 0 => by simp
  | t :: d, j + 1 => by
    rw [flatL_cons, show (j + 1) * 2 = (encL t).length + j * 2 by rw [encL_len]; omega, List.drop_append, List.drop_of_length_le (by omega)]
    simpa using flatL_drop d j
theorem flatL_take : ∀ (d : List Lc) (j : Nat), (flatL d).take (j * 2) = flatL (d.take j)
  | [], j => by simp [flatL]
  | t :: d, 0 => by simp [flatL]
  | t :: d, j + 1 => by
    rw [flatL_cons, show (j + 1) * 2 = (encL t).length + j * 2 by rw [encL_len]; omega, List.take_length_add_append, flatL_take d j]
    rfl
theorem flatL_get (d : List Lc) (j i : Nat) (hj : j < d.length) (hi : i < 2) : (flatL d)[j * 2 + i]? = (encL d[j])[i]? := by
  rw [← List.getElem?_drop, flatL_drop, List.drop_eq_getElem_cons hj, flatL_cons, List.getElem?_append_left (by rw [encL_len]; exact hi)]
theorem oneCell_encL (x : Lc) : ∀ v ∈ encL x, v.oneCell' = true := by
  intro v hv
  simp [encL] at hv
  rcases hv with rfl | rfl <;> rfl
theorem oneCell_flatL (d : List Lc) : ∀ v ∈ flatL d, v.oneCell' = true := by
  intro v hv
  obtain ⟨x, _, hx⟩ := List.mem_flatMap.1 hv
  exact oneCell_encL x v hx
/-- A row lies in a block. -/
def RowL (w : World) (b o : Nat) (d : List Lc) : Prop := ∀ (j : Nat) v, (flatL d)[j]? = some v → w.cell? ⟨b, o + j, none⟩ = some v
theorem RowL.later {w w' : World} {b o : Nat} {d : List Lc} (hg : Grow w w') (h : RowL w b o d) : RowL w' b o d := fun j v hj => cell_later hg (h j v hj)
theorem RowL.at {w : World} {b o : Nat} {d : List Lc} (h : RowL w b o d) (j : Nat) (hj : j < d.length) :
    w.cell? ⟨b, o + j * 2, none⟩ = some (.int .i64 d[j].n) ∧ w.cell? ⟨b, o + j * 2 + 1, none⟩ = some (.int .i64 d[j].p) := by
  have k (i : Nat) (hi : i < 2) (v : Value) (hv : (encL d[j])[i]? = some v) : w.cell? ⟨b, o + (j * 2 + i), none⟩ = some v := h _ v (by rw [flatL_get d j i hj hi]; exact hv)
  exact ⟨k 0 (by omega) _ rfl, k 1 (by omega) _ rfl⟩
theorem RowL.take' {w : World} {b o : Nat} {d : List Lc} (h : RowL w b o d) (k : Nat) : RowL w b o (d.take k) := by
  intro j v hj
  rw [← flatL_take] at hj
  refine h j v ?_
  rw [List.getElem?_take] at hj
  split at hj
  · exact hj
  · cases hj
theorem RowL_one (w : World) (t : Lc) : RowL (w.alloc (.cells #[.int .i64 t.n, .int .i64 t.p] 27)) w.heap.size 0 [t] := by
  intro j v hj
  have hj' : j < 2 := by
    have := (List.getElem?_eq_some_iff.1 hj).1
    rw [flatL_len] at this
    simpa using this
  have e : flatL [t] = encL t := by simp [flatL]
  rw [e] at hj
  have : j = 0 ∨ j = 1 := by omega
  rcases this with rfl | rfl <;> simp [encL] at hj <;> subst hj <;> simp [go_sem]
theorem RowL_of {w : World} {b o : Nat} (f : Nat → Lc) (n : Nat) (h : ∀ i, i < n → ∀ j : Nat, j < 2 → w.cell? ⟨b, o + (i * 2 + j), none⟩ = (encL (f i))[j]?) : RowL w b o ((List.range n).map f) := by
  intro k v hk
  have hk' : k < n * 2 := by
    have := (List.getElem?_eq_some_iff.1 hk).1
    rw [flatL_len] at this
    simpa using this
  have e : k = k / 2 * 2 + k % 2 := by omega
  have h1 := flatL_get ((List.range n).map f) (k / 2) (k % 2) (by simp; omega) (by omega)
  rw [← e, hk] at h1
  have h2 := h (k / 2) (by omega) (k % 2) (by omega)
  rw [← e] at h2
  rw [h2, h1]
  simp
/-- A slice that came in. -/
def IsLcs (w : World) (s : Option Addr) (n cap : Nat) (d : List Lc) : Prop :=
  d.length = n ∧ n ≤ cap ∧ (d = [] ∨ ∃ b o, s = some ⟨b, o, none⟩ ∧ RowL w b o d)
theorem IsLcs.later {w w' : World} {s : Option Addr} {n cap : Nat} {d : List Lc} (hg : Grow w w') (h : IsLcs w s n cap d) : IsLcs w' s n cap d :=
  ⟨h.1, h.2.1, h.2.2.imp id fun ⟨b, o, e, r⟩ => ⟨b, o, e, r.later hg⟩⟩
/-- The first k of them. -/
theorem IsLcs.take' {w : World} {s : Option Addr} {n cap : Nat} {d : List Lc} (h : IsLcs w s n cap d) (k : Nat) (hk : k ≤ n) : IsLcs w s k cap (d.take k) :=
  ⟨by rw [List.length_take, h.1]; omega, by have := h.2.1; omega, h.2.2.imp (fun e => by rw [e]; simp) fun ⟨b, o, e, r⟩ => ⟨b, o, e, r.take' k⟩⟩
theorem IsLcs_nil (w : World) : IsLcs w none 0 0 [] := ⟨rfl, Nat.le_refl _, .inl rfl⟩
theorem run_headL (a : Option Addr) (n cap k : Nat) (w : World) (h1 : (k : Int) ≤ (cap : Int)) :
    (Instr.slice 86 (.slice a n cap) none (some (.int .i64 (k : Int))) none).run Tryz.prog w = .ok (.slice a k cap) w := by
  have h0 : (0 : Int) ≤ (k : Int) := by omega
  have z := Tryz.sizeOf27
  cases a with
  | none => simp [go_sem, h1]
  | some a =>
    obtain ⟨b, o, s⟩ := a
    by_cases hc : cap = 0
    · have hk : k = 0 := by omega
      subst hk
      simp [go_sem, hc]
    · simp [go_sem, h1, hc]
theorem rows_lcs {H : Type} {enc : TypeId × Value → H} {W : World} {s : Option Addr} {len cap : Nat} {d : DataW H} {p : List MemPlace} {base : Nat} {spare : Nat → Bool} {held : Bool}
    (h : DataW.Trod enc Tryz.prog W base spare held 86 (.slice s len cap) d p) : ∃ l, IsLcs W s len cap l := by
  have hC : Tryz.prog.cellsOf 27 = 2 := by kernel_rfl
  obtain ⟨fuel, hf⟩ := h
  rcases open_slice Tryz.underlying86 hf with ⟨hcs, _⟩ | ⟨a, l, c, m, n, D, Pl, hcs, _, hl, _, hm, _, hi⟩
  · simp [Value.cells] at hcs
    obtain ⟨rfl, rfl, rfl⟩ := hcs
    exact ⟨[], rfl, Nat.le_refl _, .inl rfl⟩
  · simp [Value.cells] at hcs
    obtain ⟨rfl, rfl, rfl⟩ := hcs
    have hlm : len ≤ m := by rw [hm]; split <;> omega
    by_cases h0 : len = 0
    · subst h0
      exact ⟨[], rfl, hl, .inl rfl⟩
    · rw [hC] at hi
      have key : ∀ i, i < len → ∃ t : Lc, ∀ j : Nat, j < 2 → W.cell? ((a.add (i * 2)).add j) = (encL t)[j]? := by
        intro i hi'
        obtain ⟨cs', h1, h2⟩ := hi i (by omega)
        obtain ⟨t, rfl, hwf⟩ := lc_cells h2
        refine ⟨t, fun j hj => ?_⟩
        exact (World.cells?_some h1).2.2 j (by omega)
      have hch : ∃ f : Nat → Lc, ∀ i, i < len → ∀ j : Nat, j < 2 → W.cell? ((a.add (i * 2)).add j) = (encL (f i))[j]? :=
        ⟨fun i => if h : i < len then (key i h).choose else ⟨0, 0⟩, fun i hi' => by
          have := (key i hi').choose_spec
          simpa [hi'] using this⟩
      obtain ⟨f, hf'⟩ := hch
      have hc := hf' 0 (by omega) 0 (by omega)
      obtain ⟨b, off, spot⟩ := a
      have hspot : spot = none := by
        have h5 : W.cell? (⟨b, off, spot⟩ : Addr) = some (.int .i64 (f 0).n) := by simpa [Addr.add, encL] using hc
        simpa using World.cell?_spot h5
      subst hspot
      refine ⟨(List.range len).map f, by simp, hl, .inr ⟨b, off, rfl, RowL_of f len fun i hi' j hj => ?_⟩⟩
      have := hf' i hi' j hj
      rw [addr_add, addr_add] at this
      rw [← Nat.add_assoc]; exact this
theorem slice_cellL {H : Type} {enc : TypeId × Value → H} {W : World} {base : Nat} {spare : Nat → Bool} {held : Bool} {fuel : Nat} {c : Value} {y : DataW H × List MemPlace}
    (h : DataW.trod enc Tryz.prog W base spare held fuel 86 [c] = some y) : ∃ s n cap l, c = .slice s n cap ∧ IsLcs W s n cap l := by
  have hc : ∃ s n cap, c = .slice s n cap := by
    rcases open_slice Tryz.underlying86 h with ⟨hcs, _⟩ | ⟨a, l, cp, m, n, D, Pl, hcs, _⟩
    · simp at hcs; exact ⟨_, _, _, hcs⟩
    · simp at hcs; exact ⟨_, _, _, hcs⟩
  obtain ⟨s, n, cap, rfl⟩ := hc
  obtain ⟨l, hl⟩ := rows_lcs (enc := enc) (W := W) (s := s) (len := n) (cap := cap) (d := y.1) (p := y.2) (base := base) (spare := spare) (held := held) ⟨fuel, by simpa [Value.cells] using h⟩
  exact ⟨s, n, cap, l, rfl, hl⟩

/-- A graph that came in: two slices. -/
structure GA where
  s : Option Addr
  n : Nat
  c : Nat
  t : Option Addr
  m : Nat
  q : Nat
  N : List Nd
  E : List Ed
/-- Its rows lie where it says. -/
structure IsG (w : World) (g : GA) : Prop where
  nodes : IsNds w g.s g.n g.c g.N
  edges : IsEds w g.t g.m g.q g.E
theorem IsG.later {w w' : World} {g : GA} (hg : Grow w w') (h : IsG w g) : IsG w' g := ⟨h.nodes.later hg, h.edges.later hg⟩
theorem open_gr {H : Type} {enc : TypeId × Value → H} {W : World} {r : Reach} {b0 : Nat} {v : Value} {d : DataW H} {p : List MemPlace} {base : Nat} {spare : Nat → Bool} {held : Bool}
    (hv : Value.okWide Tryz.prog W r b0 25 v) (h : DataW.Trod enc Tryz.prog W base spare held 25 v d p) : ∃ g : GA, v = .agg #[.slice g.s g.n g.c, .slice g.t g.m g.q] ∧ IsG W g := by
  obtain ⟨cs, rfl, hsz⟩ := okWide_struct Tryz.underlying25 hv
  have hC : Tryz.prog.cellsOf 25 = 2 := by kernel_rfl
  have hC1 : Tryz.prog.cellsOf 22 = 1 := by kernel_rfl
  have hC2 : Tryz.prog.cellsOf 23 = 1 := by kernel_rfl
  rw [hC] at hsz
  obtain ⟨l⟩ := cs
  match l, hsz with
  | [c0, c1], _ =>
    obtain ⟨fuel, hf⟩ := h
    obtain ⟨y0, y1, n, _, _, h0, h1⟩ := trod_struct2 Tryz.underlying25 hf
    simp only [Value.cells] at h0 h1
    simp [hC1, hC2] at h0 h1
    obtain ⟨s, n, cap, l, rfl, hl⟩ := slice_cellN h0
    obtain ⟨s', n', cap', l', rfl, hl'⟩ := slice_cellE h1
    exact ⟨⟨s, n, cap, s', n', cap', l, l'⟩, rfl, hl, hl'⟩
/-- A graph lies in a block. -/
def BoxG (w : World) (b : Nat) (g : GA) : Prop := w.cell? ⟨b, 0, none⟩ = some (.slice g.s g.n g.c) ∧ w.cell? ⟨b, 1, none⟩ = some (.slice g.t g.m g.q)
theorem BoxG.later {w w' : World} {b : Nat} {g : GA} (hg : Grow w w') (h : BoxG w b g) : BoxG w' b g := ⟨cell_later hg h.1, cell_later hg h.2⟩
theorem BoxG.new (w : World) (g : GA) : BoxG (w.alloc (.cells #[.slice g.s g.n g.c, .slice g.t g.m g.q] 25)) w.heap.size g := by simp [BoxG, go_sem]
theorem BoxG.lt {w : World} {b : Nat} {g : GA} (h : BoxG w b g) : b < w.heap.size := World.block_lt_of_cell? _ _ h.1


def flatI (d : List Int) : List Value := d.map (Value.int .i64)
theorem flatI_append (d e : List Int) : flatI (d ++ e) = flatI d ++ flatI e := by simp [flatI]
theorem flatI_len (d : List Int) : (flatI d).length = d.length * 1 := by simp [flatI]
theorem oneCell_flatI (d : List Int) : ∀ v ∈ flatI d, v.oneCell' = true := by
  intro v hv
  obtain ⟨x, _, rfl⟩ := List.mem_map.1 hv
  rfl
def RowI (w : World) (b o : Nat) (d : List Int) : Prop := ∀ (j : Nat) v, (flatI d)[j]? = some v → w.cell? ⟨b, o + j, none⟩ = some v
theorem RowI.later {w w' : World} {b o : Nat} {d : List Int} (hg : Grow w w') (h : RowI w b o d) : RowI w' b o d := fun j v hj => cell_later hg (h j v hj)
theorem RowI.at {w : World} {b o : Nat} {d : List Int} (h : RowI w b o d) (j : Nat) (hj : j < d.length) : w.cell? ⟨b, o + j, none⟩ = some (.int .i64 d[j]) := h j _ (by simp [flatI, hj])
theorem RowI_one (w : World) (t : Int) : RowI (w.alloc (.cells #[.int .i64 t] 3)) w.heap.size 0 [t] := by
  intro j v hj
  have hj' : j < 1 := by
    have := (List.getElem?_eq_some_iff.1 hj).1
    simpa [flatI] using this
  have : j = 0 := by omega
  subst this
  simp [flatI] at hj
  subst hj
  simp [go_sem]
/-- A slice of numbers. -/
def IsIns (w : World) (s : Option Addr) (n cap : Nat) (d : List Int) : Prop :=
  d.length = n ∧ n ≤ cap ∧ (d = [] ∨ ∃ b o, s = some ⟨b, o, none⟩ ∧ RowI w b o d)
theorem IsIns.later {w w' : World} {s : Option Addr} {n cap : Nat} {d : List Int} (hg : Grow w w') (h : IsIns w s n cap d) : IsIns w' s n cap d :=
  ⟨h.1, h.2.1, h.2.2.imp id fun ⟨b, o, e, r⟩ => ⟨b, o, e, r.later hg⟩⟩
theorem isIns_one (w : World) (x : Int) : IsIns (w.alloc (.cells #[.int .i64 x] 3)) (some ⟨w.heap.size, 0, none⟩) 1 1 [x] := ⟨rfl, Nat.le_refl _, .inr ⟨_, _, rfl, RowI_one w x⟩⟩
theorem isLcs_one (w : World) (t : Lc) : IsLcs (w.alloc (.cells #[.int .i64 t.n, .int .i64 t.p] 27)) (some ⟨w.heap.size, 0, none⟩) 1 1 [t] := ⟨rfl, Nat.le_refl _, .inr ⟨_, _, rfl, RowL_one w t⟩⟩
/-- The call owns a row, or it is nil. -/
def OwnL (w : World) (base : Nat) (s : Option Addr) (n cap : Nat) (d : List Lc) : Prop :=
  d.length = n ∧ w.ownsRow base 27 2 (.slice s n cap) n (flatL d) ∧ (s = none → cap = 0)
theorem OwnL.nil (w : World) (base : Nat) : OwnL w base none 0 0 [] := ⟨rfl, World.ownsRow_nil w base _ _, fun _ => rfl⟩
theorem OwnL.keep {w w' : World} {base n cap : Nat} {s : Option Addr} {d : List Lc} (h : OwnL w base s n cap d) (hk : ∀ a, s = some a → w'.heap[a.block]? = w.heap[a.block]?) : OwnL w' base s n cap d := by
  obtain ⟨h1, h2, h3⟩ := h
  refine ⟨h1, ⟨h2.1, ?_⟩, h3⟩
  rcases h2.2 with h' | ⟨g, cap', cur, h', hb, hg, r⟩
  · exact .inl h'
  · simp only [Value.slice.injEq] at h'
    obtain ⟨rfl, _, rfl⟩ := h'
    exact .inr ⟨g, cap, cur, rfl, hb, (hk _ rfl).trans hg, r⟩
theorem OwnL.lt {w : World} {base n cap : Nat} {s : Option Addr} {d : List Lc} (h : OwnL w base s n cap d) : ∀ a, s = some a → a.block < w.heap.size ∧ base ≤ a.block := by
  intro a ha
  rcases h.2.1.2 with ⟨h', _⟩ | ⟨g, cap', cur, h', hb, hg, r⟩
  · simp only [Value.slice.injEq] at h'
    rw [ha] at h'; cases h'.1
  · simp only [Value.slice.injEq] at h'
    rw [ha] at h'
    cases h'.1
    exact ⟨(Array.getElem?_eq_some_iff.1 hg).1, hb⟩
theorem OwnL.later {w w' : World} {base n cap : Nat} {s : Option Addr} {d : List Lc} (h : OwnL w base s n cap d) (hg : Grow w w') : OwnL w' base s n cap d :=
  h.keep fun a ha => hg.block _ (h.lt a ha).1
theorem OwnL.is {w : World} {base n cap : Nat} {s : Option Addr} {d : List Lc} (h : OwnL w base s n cap d) : IsLcs w s n cap d := by
  obtain ⟨h1, h2, h3⟩ := h
  rcases h2.2 with ⟨h', h''⟩ | ⟨g, cap', cur, h', hb, hg, k1, k2, k3, k4⟩
  · have hn : n = 0 := h''
    refine ⟨h1, by omega, .inl ?_⟩
    exact List.eq_nil_of_length_eq_zero (by omega)
  · simp only [Value.slice.injEq] at h'
    obtain ⟨rfl, _, rfl⟩ := h'
    refine ⟨h1, k1, .inr ⟨g, 0, rfl, fun j v hj => ?_⟩⟩
    have hj' : j < n * 2 := by rw [← h1, ← flatL_len]; exact (List.getElem?_eq_some_iff.1 hj).1
    have := World.ownsRow.cellAt h2 j hj'
    rw [Nat.zero_add, this]; exact hj
theorem OwnL.rebase {w : World} {base base' n cap : Nat} {s : Option Addr} {d : List Lc} (h : OwnL w base s n cap d) (hb : base' ≤ base) : OwnL w base' s n cap d :=
  ⟨h.1, ⟨h.2.1.1, h.2.1.2.imp id fun ⟨g, cap', cur, e, hg, r⟩ => ⟨g, cap', cur, e, Nat.le_trans hb hg, r⟩⟩, h.2.2⟩
theorem OwnL.lit0 (w : World) (base : Nat) (hb : base ≤ w.heap.size) : OwnL (w.alloc (.cells #[] 27)) base (some ⟨w.heap.size, 0, none⟩) 0 0 [] :=
  ⟨rfl, ⟨rfl, .inr ⟨w.heap.size, 0, #[], rfl, hb, (MapKept.heap_alloc w _).1, Nat.le_refl _, Nat.zero_le _, rfl, rfl⟩⟩, fun h => by cases h⟩
theorem info_lc : ∃ i, Tryz.prog.info? 27 = some i ∧ i.zero = some (.agg #[.int .i64 0, .int .i64 0]) ∧ i.size = 2 ∧ i.bytes = 16 := by
  cases hi : Tryz.prog.info? 27 with
  | none =>
    have : (Tryz.prog.info? 27).isSome = true := by kernel_rfl
    rw [hi] at this; cases this
  | some i =>
    have hz : (Tryz.prog.info? 27).map (·.zero) = some (some (.agg #[.int .i64 0, .int .i64 0])) := by kernel_rfl
    have hs : (Tryz.prog.info? 27).map (·.size) = some 2 := by kernel_rfl
    have hb : (Tryz.prog.info? 27).map (·.bytes) = some 16 := by kernel_rfl
    rw [hi] at hz hs hb
    simp only [Option.map_some, Option.some.injEq] at hz hs hb
    exact ⟨i, rfl, hz, hs, hb⟩
theorem app_none_lc (s : Option Addr) (n cap : Nat) (hn : n ≤ cap) (c : Nat) (rt : TypeId) (w : World) :
    (Builtin.append_ #[86, 86] rt #[.slice s n cap, .slice none 0 c]).run Tryz.prog w = (Builtin.append_ #[86, 86] rt #[.slice s n cap, .slice (some ⟨0, 0, none⟩) 0 c]).run Tryz.prog w := by
  obtain ⟨i, hi, hz, hsz, hby⟩ := info_lc
  have hl : (loadCells ⟨0, 0, none⟩ 0).run Tryz.prog w = .ok #[] w := by simpa using run_loadCells_list (P := Tryz.prog) w ⟨0, 0, none⟩ [] (by simp)
  cases s <;> simp [Builtin.append_, run_underlying Tryz.underlying86, sizeOf, typeInfo, hi, Builtin.lenOf, Builtin.firstCells, hl, hn]
/-- What append does. -/
theorem run_ap_lc (w : World) (rt : TypeId) (base : Nat) (s : Option Addr) (n cap : Nat) (d e : List Lc) (hown : OwnL w base s n cap d) (s' : Option Addr) (m c : Nat) (he : IsLcs w s' m c e) (hlen : n + m ≤ 1000000) (hbase : base ≤ w.heap.size) :
    ∃ s2 c2 w2, (Builtin.append_ #[86, 86] rt #[.slice s n cap, .slice s' m c]).run Tryz.prog w = .ok (.slice s2 (n + m) c2) w2
      ∧ OwnL w2 base s2 (n + m) c2 (d ++ e) ∧ w.grownBy w2 (s.map (·.block)) := by
  obtain ⟨i, hi, hz, hsz, hby⟩ := info_lc
  have hnc := hown.is.2.1
  obtain ⟨hm, _, hs⟩ := he
  obtain ⟨hn, hr, hz0⟩ := hown
  have key : ∀ (x : Addr), (∀ j u, (flatL e)[j]? = some u → w.cell? (x.add j) = some u) → ∃ s2 c2 w2, (Builtin.append_ #[86, 86] rt #[.slice s n cap, .slice (some x) m c]).run Tryz.prog w = .ok (.slice s2 (n + m) c2) w2
      ∧ OwnL w2 base s2 (n + m) c2 (d ++ e) ∧ w.grownBy w2 (s.map (·.block)) := by
    intro x hx
    obtain ⟨v', w', h0, h1, h2, h3, h4⟩ := run_append_own_at (P := Tryz.prog) w base 86 rt 27 i _ 2 16 Tryz.underlying86 hi hz hsz hby rfl (by omega) _ n (flatL d) hr x m c (flatL e) (by rw [flatL_len, hm]) hx (oneCell_flatL e) (by simp [maxLen]; omega) (by omega) hbase
    have hob : (Value.slice s n cap).ownBlock = s.map (·.block) := by cases s <;> rfl
    rw [hob] at h2 h4
    have hl : (d ++ e).length = n + m := by rw [List.length_append, hn, hm]
    have hfl : flatL d ++ flatL e = flatL (d ++ e) := (flatL_append d e).symm
    rw [hfl] at h1
    rcases h1.2 with ⟨h', h''⟩ | ⟨g', cap', cur, h', hb, hg, k⟩
    · subst h'
      have h5 : n + m = 0 := h''
      refine ⟨none, 0, w', by rw [h0, h5], ⟨hl, ?_, fun _ => rfl⟩, h2⟩
      rw [h5] at h1 ⊢
      exact h1
    · subst h'
      exact ⟨some ⟨g', 0, none⟩, cap', w', h0, ⟨hl, h1, fun k => by cases k⟩, h2⟩
  rcases hs with rfl | ⟨b, off, rfl, hrw⟩
  · have hm0 : m = 0 := by rw [← hm]; rfl
    subst hm0
    cases s' with
    | none =>
      rw [app_none_lc _ _ _ hnc]
      exact key _ (fun j v hj => by simp [flatL] at hj)
    | some a => exact key a (fun j v hj => by simp [flatL] at hj)
  · exact key _ (fun j v hj => by rw [addr_add]; exact hrw j v hj)
theorem wpList_apd_lc {w : World} {ops : Array Oper} {rest : List Oper} {o : Oper} {a : Act} {Q : Exit → Act → World → Prop} (hgd : o.guard = none) (s x : Operand)
    (ho : o.op = .call { callee := .builtin .append, args := #[s, x], argTypes := #[86, 86] })
    (base : Nat) (s0 : Option Addr) (n cap : Nat) (d e : List Lc) (hs : a.eval s = .slice s0 n cap) (hown : OwnL w base s0 n cap d)
    (s' : Option Addr) (m c : Nat) (hx : a.eval x = .slice s' m c) (he : IsLcs w s' m c e) (hlen : n + m ≤ 1000000) (hbase : base ≤ w.heap.size)
    (h : ∀ s2 c2 w2, OwnL w2 base s2 (n + m) c2 (d ++ e) → GrewBut w w2 base s0 → wpList Tryz.prog ops Q rest (a.put o.dst (.slice s2 (n + m) c2)) w2) :
    wpList Tryz.prog ops Q (o :: rest) a w := by
  obtain ⟨s2, c2, w2, h0, h1, h2⟩ := run_ap_lc w o.type base s0 n cap d e hown s' m c he hlen hbase
  refine wpList_plain hgd fun K hK => ?_
  unfold Oper.wp execOp
  simp only [ho, resolve, invoke, builtin, Sem.run_bind, Sem.run_pure, Result.andThen_ok, List.map_toArray, List.map_cons, List.map_nil, hs, hx, h0]
  exact hK _ _ (h s2 c2 w2 h1 ⟨h2, fun b hb => (hown.lt b hb).2⟩)
/-- The call owns a row, or it is nil. -/
def OwnI (w : World) (base : Nat) (s : Option Addr) (n cap : Nat) (d : List Int) : Prop :=
  d.length = n ∧ w.ownsRow base 3 1 (.slice s n cap) n (flatI d) ∧ (s = none → cap = 0)
theorem OwnI.nil (w : World) (base : Nat) : OwnI w base none 0 0 [] := ⟨rfl, World.ownsRow_nil w base _ _, fun _ => rfl⟩
theorem OwnI.keep {w w' : World} {base n cap : Nat} {s : Option Addr} {d : List Int} (h : OwnI w base s n cap d) (hk : ∀ a, s = some a → w'.heap[a.block]? = w.heap[a.block]?) : OwnI w' base s n cap d := by
  obtain ⟨h1, h2, h3⟩ := h
  refine ⟨h1, ⟨h2.1, ?_⟩, h3⟩
  rcases h2.2 with h' | ⟨g, cap', cur, h', hb, hg, r⟩
  · exact .inl h'
  · simp only [Value.slice.injEq] at h'
    obtain ⟨rfl, _, rfl⟩ := h'
    exact .inr ⟨g, cap, cur, rfl, hb, (hk _ rfl).trans hg, r⟩
theorem OwnI.lt {w : World} {base n cap : Nat} {s : Option Addr} {d : List Int} (h : OwnI w base s n cap d) : ∀ a, s = some a → a.block < w.heap.size ∧ base ≤ a.block := by
  intro a ha
  rcases h.2.1.2 with ⟨h', _⟩ | ⟨g, cap', cur, h', hb, hg, r⟩
  · simp only [Value.slice.injEq] at h'
    rw [ha] at h'; cases h'.1
  · simp only [Value.slice.injEq] at h'
    rw [ha] at h'
    cases h'.1
    exact ⟨(Array.getElem?_eq_some_iff.1 hg).1, hb⟩
theorem OwnI.later {w w' : World} {base n cap : Nat} {s : Option Addr} {d : List Int} (h : OwnI w base s n cap d) (hg : Grow w w') : OwnI w' base s n cap d :=
  h.keep fun a ha => hg.block _ (h.lt a ha).1
theorem OwnI.is {w : World} {base n cap : Nat} {s : Option Addr} {d : List Int} (h : OwnI w base s n cap d) : IsIns w s n cap d := by
  obtain ⟨h1, h2, h3⟩ := h
  rcases h2.2 with ⟨h', h''⟩ | ⟨g, cap', cur, h', hb, hg, k1, k2, k3, k4⟩
  · have hn : n = 0 := h''
    refine ⟨h1, by omega, .inl ?_⟩
    exact List.eq_nil_of_length_eq_zero (by omega)
  · simp only [Value.slice.injEq] at h'
    obtain ⟨rfl, _, rfl⟩ := h'
    refine ⟨h1, k1, .inr ⟨g, 0, rfl, fun j v hj => ?_⟩⟩
    have hj' : j < n * 1 := by rw [← h1, ← flatI_len]; exact (List.getElem?_eq_some_iff.1 hj).1
    have := World.ownsRow.cellAt h2 j hj'
    rw [Nat.zero_add, this]; exact hj
theorem OwnI.rebase {w : World} {base base' n cap : Nat} {s : Option Addr} {d : List Int} (h : OwnI w base s n cap d) (hb : base' ≤ base) : OwnI w base' s n cap d :=
  ⟨h.1, ⟨h.2.1.1, h.2.1.2.imp id fun ⟨g, cap', cur, e, hg, r⟩ => ⟨g, cap', cur, e, Nat.le_trans hb hg, r⟩⟩, h.2.2⟩
theorem OwnI.lit0 (w : World) (base : Nat) (hb : base ≤ w.heap.size) : OwnI (w.alloc (.cells #[] 3)) base (some ⟨w.heap.size, 0, none⟩) 0 0 [] :=
  ⟨rfl, ⟨rfl, .inr ⟨w.heap.size, 0, #[], rfl, hb, (MapKept.heap_alloc w _).1, Nat.le_refl _, Nat.zero_le _, rfl, rfl⟩⟩, fun h => by cases h⟩
theorem info_int : ∃ i, Tryz.prog.info? 3 = some i ∧ i.zero = some (.int .i64 0) ∧ i.size = 1 ∧ i.bytes = 8 := by
  cases hi : Tryz.prog.info? 3 with
  | none =>
    have : (Tryz.prog.info? 3).isSome = true := by kernel_rfl
    rw [hi] at this; cases this
  | some i =>
    have hz : (Tryz.prog.info? 3).map (·.zero) = some (some (.int .i64 0)) := by kernel_rfl
    have hs : (Tryz.prog.info? 3).map (·.size) = some 1 := by kernel_rfl
    have hb : (Tryz.prog.info? 3).map (·.bytes) = some 8 := by kernel_rfl
    rw [hi] at hz hs hb
    simp only [Option.map_some, Option.some.injEq] at hz hs hb
    exact ⟨i, rfl, hz, hs, hb⟩
theorem app_none_int (s : Option Addr) (n cap : Nat) (hn : n ≤ cap) (c : Nat) (rt : TypeId) (w : World) :
    (Builtin.append_ #[115, 115] rt #[.slice s n cap, .slice none 0 c]).run Tryz.prog w = (Builtin.append_ #[115, 115] rt #[.slice s n cap, .slice (some ⟨0, 0, none⟩) 0 c]).run Tryz.prog w := by
  obtain ⟨i, hi, hz, hsz, hby⟩ := info_int
  have hl : (loadCells ⟨0, 0, none⟩ 0).run Tryz.prog w = .ok #[] w := by simpa using run_loadCells_list (P := Tryz.prog) w ⟨0, 0, none⟩ [] (by simp)
  cases s <;> simp [Builtin.append_, run_underlying Tryz.underlying115, sizeOf, typeInfo, hi, Builtin.lenOf, Builtin.firstCells, hl, hn]
/-- What append does. -/
theorem run_ap_int (w : World) (rt : TypeId) (base : Nat) (s : Option Addr) (n cap : Nat) (d e : List Int) (hown : OwnI w base s n cap d) (s' : Option Addr) (m c : Nat) (he : IsIns w s' m c e) (hlen : n + m ≤ 1000000) (hbase : base ≤ w.heap.size) :
    ∃ s2 c2 w2, (Builtin.append_ #[115, 115] rt #[.slice s n cap, .slice s' m c]).run Tryz.prog w = .ok (.slice s2 (n + m) c2) w2
      ∧ OwnI w2 base s2 (n + m) c2 (d ++ e) ∧ w.grownBy w2 (s.map (·.block)) := by
  obtain ⟨i, hi, hz, hsz, hby⟩ := info_int
  have hnc := hown.is.2.1
  obtain ⟨hm, _, hs⟩ := he
  obtain ⟨hn, hr, hz0⟩ := hown
  have key : ∀ (x : Addr), (∀ j u, (flatI e)[j]? = some u → w.cell? (x.add j) = some u) → ∃ s2 c2 w2, (Builtin.append_ #[115, 115] rt #[.slice s n cap, .slice (some x) m c]).run Tryz.prog w = .ok (.slice s2 (n + m) c2) w2
      ∧ OwnI w2 base s2 (n + m) c2 (d ++ e) ∧ w.grownBy w2 (s.map (·.block)) := by
    intro x hx
    obtain ⟨v', w', h0, h1, h2, h3, h4⟩ := run_append_own_at (P := Tryz.prog) w base 115 rt 3 i _ 1 8 Tryz.underlying115 hi hz hsz hby rfl (by omega) _ n (flatI d) hr x m c (flatI e) (by rw [flatI_len, hm]) hx (oneCell_flatI e) (by simp [maxLen]; omega) (by omega) hbase
    have hob : (Value.slice s n cap).ownBlock = s.map (·.block) := by cases s <;> rfl
    rw [hob] at h2 h4
    have hl : (d ++ e).length = n + m := by rw [List.length_append, hn, hm]
    have hfl : flatI d ++ flatI e = flatI (d ++ e) := (flatI_append d e).symm
    rw [hfl] at h1
    rcases h1.2 with ⟨h', h''⟩ | ⟨g', cap', cur, h', hb, hg, k⟩
    · subst h'
      have h5 : n + m = 0 := h''
      refine ⟨none, 0, w', by rw [h0, h5], ⟨hl, ?_, fun _ => rfl⟩, h2⟩
      rw [h5] at h1 ⊢
      exact h1
    · subst h'
      exact ⟨some ⟨g', 0, none⟩, cap', w', h0, ⟨hl, h1, fun k => by cases k⟩, h2⟩
  rcases hs with rfl | ⟨b, off, rfl, hrw⟩
  · have hm0 : m = 0 := by rw [← hm]; rfl
    subst hm0
    cases s' with
    | none =>
      rw [app_none_int _ _ _ hnc]
      exact key _ (fun j v hj => by simp [flatI] at hj)
    | some a => exact key a (fun j v hj => by simp [flatI] at hj)
  · exact key _ (fun j v hj => by rw [addr_add]; exact hrw j v hj)
theorem wpList_apd_int {w : World} {ops : Array Oper} {rest : List Oper} {o : Oper} {a : Act} {Q : Exit → Act → World → Prop} (hgd : o.guard = none) (s x : Operand)
    (ho : o.op = .call { callee := .builtin .append, args := #[s, x], argTypes := #[115, 115] })
    (base : Nat) (s0 : Option Addr) (n cap : Nat) (d e : List Int) (hs : a.eval s = .slice s0 n cap) (hown : OwnI w base s0 n cap d)
    (s' : Option Addr) (m c : Nat) (hx : a.eval x = .slice s' m c) (he : IsIns w s' m c e) (hlen : n + m ≤ 1000000) (hbase : base ≤ w.heap.size)
    (h : ∀ s2 c2 w2, OwnI w2 base s2 (n + m) c2 (d ++ e) → GrewBut w w2 base s0 → wpList Tryz.prog ops Q rest (a.put o.dst (.slice s2 (n + m) c2)) w2) :
    wpList Tryz.prog ops Q (o :: rest) a w := by
  obtain ⟨s2, c2, w2, h0, h1, h2⟩ := run_ap_int w o.type base s0 n cap d e hown s' m c he hlen hbase
  refine wpList_plain hgd fun K hK => ?_
  unfold Oper.wp execOp
  simp only [ho, resolve, invoke, builtin, Sem.run_bind, Sem.run_pure, Result.andThen_ok, List.map_toArray, List.map_cons, List.map_nil, hs, hx, h0]
  exact hK _ _ (h s2 c2 w2 h1 ⟨h2, fun b hb => (hown.lt b hb).2⟩)

end Go.Proofs.YtehianjfpmbfpaaGreat
end

section
/-
  Maps with places as keys: what a block of the world that is one holds, said by a plain function to values; look-up, entry, store, length, ranging over it.
-/
namespace Go.Proofs.YtehianjfpmbfpaaGreat
set_option maxRecDepth 100000
open Go.RowKit Go.Maps Go.Deep Go.ChangeMaps Go.WideElems Go.WideShapes
set_option linter.unusedVariables false
set_option linter.unusedSimpArgs false

def vL (t : Lc) : Value := .agg #[.int .i64 t.n, .int .i64 t.p]
def LcWf (t : Lc) : Prop := (Lit.int .i64 t.n).wf = true ∧ (Lit.int .i64 t.p).wf = true
theorem rowKL : (27 : TypeId) < Tryz.prog.types.size := of_decide_eq_true (by kernel_rfl)
theorem wideKL : (match Tryz.prog.underlying 27 with | some (.array _ _) | some (.struct _) => true | _ => false) = true := by kernel_rfl
theorem lawL : WideMaps.KeyLaw Tryz.prog 27 := deep_law_laid laidOut (m := 3) (by omega) rowKL (by kernel_rfl) wideKL
theorem lawK : Keyed Tryz.prog 27 := Keyed.of_law lawL
theorem keyTypeKL : Tryz.prog.keyType 27 = true := by kernel_rfl
theorem cellsKL : Tryz.prog.cellsOf 27 = 2 := by kernel_rfl
theorem cellsKI : Tryz.prog.cellsOf 3 = 1 := by kernel_rfl
theorem sizeKL : ∃ m, Tryz.prog.types.size + 1 = m + 4 := ⟨Tryz.prog.types.size - 3, by have : 4 ≤ Tryz.prog.types.size := of_decide_eq_true (by kernel_rfl); omega⟩
theorem keyOf_vL (t : Lc) (h : LcWf t) : ∃ l, keyOf Tryz.prog 27 (vL t) = some l := by
  obtain ⟨m, hm⟩ := sizeKL
  obtain ⟨h1, h2⟩ := h
  have hk := keyTypeKL
  have hf : (vL t).formed Tryz.prog 27 = true := by simp [vL, Value.formed, Tryz.underlying27, cellsKL]
  unfold keyOf
  simp only [Tryz.underlying27, hk, hf, hm]
  simp [Program.keyLits, Tryz.underlying27, Tryz.underlying3, cellsKL, cellsKI, vL, Value.cells, h1, h2, List.range_succ]
theorem kl_int {m : Nat} {c : Value} {ls : List Lit} (h : Tryz.prog.keyLits (m + 1) 3 [c] = some ls) : ∃ n, c = .int .i64 n ∧ (Lit.int .i64 n).wf = true := by
  unfold Program.keyLits at h
  simp only [Tryz.underlying3] at h
  cases c <;> simp at h
  obtain ⟨⟨rfl, hw⟩, _⟩ := h
  exact ⟨_, rfl, hw⟩
theorem keyOf_invL {key : Value} {l : Lit} (h : keyOf Tryz.prog 27 key = some l) : ∃ t, key = vL t ∧ LcWf t := by
  obtain ⟨m, hm⟩ := sizeKL
  unfold keyOf at h
  simp only [Tryz.underlying27, hm] at h
  split at h
  · rename_i hc
    simp only [Bool.and_eq_true] at hc
    obtain ⟨_, hf⟩ := hc
    simp only [Value.formed, Tryz.underlying27, cellsKL] at hf
    cases key <;> simp at hf
    rename_i xs
    obtain ⟨c0, c1, rfl⟩ : ∃ c0 c1, xs = #[c0, c1] := by
      obtain ⟨ys⟩ := xs
      match ys, hf with
      | [c0, c1], _ => exact ⟨c0, c1, rfl⟩
    unfold Program.keyLits at h
    simp only [Tryz.underlying27] at h
    simp [cellsKL, cellsKI, Value.cells, Option.bind_eq_some_iff] at h
    obtain ⟨_, h0, _, ⟨_, h1, _⟩, _⟩ := h
    obtain ⟨e, rfl, w0⟩ := kl_int h0
    obtain ⟨d, rfl, w1⟩ := kl_int h1
    exact ⟨⟨e, d⟩, rfl, w0, w1⟩
  · cases h
/-- What a place reads as, as a key. -/
noncomputable def klL (t : Lc) : Lit := (keyOf Tryz.prog 27 (vL t)).getD (.bool false)
theorem keyL {t : Lc} (h : LcWf t) : keyOf Tryz.prog 27 (vL t) = some (klL t) := by
  obtain ⟨l, hl⟩ := keyOf_vL t h
  simp [klL, hl]
theorem vL_inj {a b : Lc} (h : vL a = vL b) : a = b := by
  simp only [vL, Value.agg.injEq, Array.mk.injEq, List.cons.injEq, Value.int.injEq, true_and, and_true] at h
  exact Lc.ext' h.1 h.2
theorem klL_inj {a b : Lc} (ha : LcWf a) (hb : LcWf b) (h : klL a = klL b) : a = b := by
  have h1 := keyL ha
  rw [h] at h1
  exact vL_inj (lawK.inj h1 (keyL hb))
theorem klL_key {t : Lc} (h : LcWf t) : WideAt.IsKeyLit (klL t) := lawK.key (keyL h)
theorem strikeL_other {left : Lit → Bool} {x y : Lc} (hx : LcWf x) (hy : LcWf y) (h : y ≠ x) : (left (klL y) && !(klL y).sameKey (klL x)) = left (klL y) := by
  rw [Maps.sameKey_ne (fun e => h (klL_inj hy hx e))]; simp
theorem strikeL_same {left : Lit → Bool} {x : Lc} (hx : LcWf x) : (left (klL x) && !(klL x).sameKey (klL x)) = false := by
  rw [WideAt.sameKey_self (klL_key hx)]; simp

/-- What a value reads as: itself. -/
abbrev PV : Value → Option (DataW Value × List MemPlace) := fun v => some (.held v, [])
def cntV (P : List Lc) (f : Lc → Option Value) : Nat := P.countP fun x => (f x).isSome
def putV (f : Lc → Option Value) (t : Lc) (v : Value) (x : Lc) : Option Value := if x = t then some v else f x
theorem putV_same (f : Lc → Option Value) (t : Lc) (v : Value) : putV f t v t = some v := by simp [putV]
theorem putV_other (f : Lc → Option Value) {t x : Lc} (v : Value) (h : x ≠ t) : putV f t v x = f x := by simp [putV, h]
theorem cntV_other {f : Lc → Option Value} {t : Lc} {v : Value} : ∀ {P : List Lc}, t ∉ P → cntV P (putV f t v) = cntV P f
  | [], _ => rfl
  | x :: P, h => by
    have h1 : x ≠ t := fun e => h (by simp [e])
    have h2 : t ∉ P := fun e => h (by simp [e])
    have ih := cntV_other (f := f) (v := v) h2
    unfold cntV at ih ⊢
    rw [List.countP_cons, List.countP_cons, ih, putV_other f v h1]
theorem cntV_put {f : Lc → Option Value} {t : Lc} {v : Value} : ∀ {P : List Lc}, P.Nodup → t ∈ P → cntV P (putV f t v) = if (f t).isSome = true then cntV P f else cntV P f + 1
  | x :: P, hn, h => by
    obtain ⟨n1, n2⟩ := List.nodup_cons.1 hn
    by_cases e : x = t
    · subst e
      have ih := cntV_other (f := f) (v := v) n1
      unfold cntV at ih ⊢
      rw [List.countP_cons, List.countP_cons, ih, putV_same]
      cases hf : (f x).isSome <;> simp
    · have h2 : t ∈ P := by
        rcases List.mem_cons.1 h with h | h
        · exact absurd h.symm e
        · exact h
      have ih := cntV_put (f := f) (v := v) n2 h2
      unfold cntV at ih ⊢
      rw [List.countP_cons, List.countP_cons, ih, putV_other f v e]
      cases hf : (f t).isSome <;> cases hx : (f x).isSome <;> simp <;> omega
/-- Block b is a map whose keys are among P, that holds these values. -/
structure MapD (w : World) (b : Nat) (P : List Lc) (f : Lc → Option Value) (D : DataW Value) : Prop where
  owns : w.ownsMap Tryz.prog 27 PV b (cntV P f) D
  size : Maps.size D = cntV P f
  nodup : P.Nodup
  wf : ∀ x ∈ P, LcWf x
  keys : ∀ x, f x ≠ none → x ∈ P
  at_ : ∀ x, LcWf x → ∀ z, D.atKey (klL x) z = match f x with | some v => .held v | none => z
  has : ∀ x, LcWf x → Maps.has D (klL x) = (f x).isSome
def MapL (w : World) (b : Nat) (P : List Lc) (f : Lc → Option Value) : Prop := ∃ D, MapD w b P f D
theorem ownsL_tight {w : World} {k : TypeId} {R : Value → Option (DataW Value × List MemPlace)} {b n : Nat} {D : DataW Value} (h : w.ownsMap Tryz.prog k R b n D) : w.ownsMap Tryz.prog k R b (Maps.size D) D := by
  obtain ⟨es, clock, hb, F, _, rfl⟩ := h
  refine ⟨es, clock, hb, F, ?_, rfl⟩
  rw [Maps.size_eq, length_sorted]; simp
theorem ownsL_tidy {w : World} {R : Value → Option (DataW Value × List MemPlace)} {b n : Nat} {D : DataW Value} (h : w.ownsMap Tryz.prog 27 R b n D) : Maps.Tidy D := by
  obtain ⟨es, e, hp, _⟩ := h.entries lawK
  exact ⟨es, e, hp⟩
theorem MapD.may {w : World} {b : Nat} {P : List Lc} {f : Lc → Option Value} {D : DataW Value} (h : MapD w b P f D) {x : Lc} (hx : f x ≠ none) : LcWf x := h.wf x (h.keys x hx)
theorem MapL.new (w : World) (P : List Lc) (hn : P.Nodup) (hw : ∀ x ∈ P, LcWf x) : MapL (w.alloc (.map #[] 0)) w.heap.size P fun _ => none := by
  have h0 : cntV P (fun _ => none) = 0 := by simp [cntV]
  exact ⟨.map [], ⟨by rw [h0]; exact World.ownsMap_made w Tryz.prog 27 PV, by rw [h0]; rfl, hn, hw, fun x h => absurd rfl h, fun x _ z => Maps.atKey_of_not_has rfl _, fun x _ => rfl⟩⟩
theorem MapL.lt {w : World} {b : Nat} {P : List Lc} {f : Lc → Option Value} (h : MapL w b P f) : b < w.heap.size := by obtain ⟨D, h⟩ := h; exact h.owns.lt
theorem MapD.keep {w w' : World} {b : Nat} {P : List Lc} {f : Lc → Option Value} {D : DataW Value} (h : MapD w b P f D) (he : w'.heap[b]? = w.heap[b]?) : MapD w' b P f D := by
  obtain ⟨⟨es, clock, hb, r⟩, h1, h2, h3, h4, h5, h6⟩ := h
  exact ⟨⟨es, clock, he.trans hb, r⟩, h1, h2, h3, h4, h5, h6⟩
theorem MapL.keep {w w' : World} {b : Nat} {P : List Lc} {f : Lc → Option Value} (h : MapL w b P f) (he : w'.heap[b]? = w.heap[b]?) : MapL w' b P f := by
  obtain ⟨D, h⟩ := h
  exact ⟨D, h.keep he⟩
theorem MapL.later {w w' : World} {b : Nat} {P : List Lc} {f : Lc → Option Value} (hg : Grow w w') (h : MapL w b P f) : MapL w' b P f := h.keep (hg.block b h.lt)
theorem MapL.isMap {w : World} {b : Nat} {P : List Lc} {f : Lc → Option Value} (h : MapL w b P f) : ∃ es c, w.heap[b]? = some (.map es c) := by
  obtain ⟨D, ⟨es, c, hb, _⟩, _⟩ := h
  exact ⟨es, c, hb⟩
theorem MapL.ext {w : World} {b : Nat} {P : List Lc} {f g : Lc → Option Value} (h : MapL w b P f) (e : ∀ x, f x = g x) : MapL w b P g := by
  have : f = g := funext e
  rwa [← this]
theorem MapL.get {w : World} {b : Nat} {P : List Lc} {f : Lc → Option Value} {t e : TypeId} {z : Value} (h : MapL w b P f) (ht : Tryz.prog.underlying t = some (.map 27 e)) (hz : (zeroValue e).run Tryz.prog w = .ok z w) {x : Lc} (hx : LcWf x) :
    (Instr.lookup t (.map (some b)) (vL x) false).run Tryz.prog w = .ok ((f x).getD z) w := by
  obtain ⟨D, h⟩ := h
  obtain ⟨v, ps, hrun, hv⟩ := h.owns.lookup lawK ht hz (zd := .held z) (zp := []) rfl (keyL hx)
  rw [h.at_ x hx] at hv
  have : v = (f x).getD z := by
    cases hf : f x <;> simp [PV, hf] at hv ⊢ <;> exact hv.1
  rw [← this]; exact hrun
theorem MapL.len {w : World} {b : Nat} {P : List Lc} {f : Lc → Option Value} {t e : TypeId} (h : MapL w b P f) (ht : Tryz.prog.underlying t = some (.map 27 e)) (ty : TypeId) :
    (Builtin.len_ #[t] ty #[.map (some b)]).run Tryz.prog w = .ok (.int .i64 (cntV P f)) w := by
  obtain ⟨D, h⟩ := h
  rw [← h.size]; exact h.owns.len ht ty
theorem cntV_zero {P : List Lc} {f : Lc → Option Value} (hk : ∀ x, f x ≠ none → x ∈ P) : cntV P f = 0 ↔ ∀ x, f x = none := by
  unfold cntV
  rw [List.countP_eq_zero]
  constructor
  · intro h x
    cases hf : f x with
    | none => rfl
    | some v => exact absurd (by rw [hf]; rfl) (h x (hk x (by rw [hf]; simp)))
  · intro h x _
    rw [h x]; simp
theorem MapL.empty {w : World} {b : Nat} {P : List Lc} {f : Lc → Option Value} (h : MapL w b P f) : cntV P f = 0 ↔ ∀ x, f x = none := by
  obtain ⟨D, h⟩ := h
  exact cntV_zero h.keys
theorem MapL.keys {w : World} {b : Nat} {P : List Lc} {f : Lc → Option Value} (h : MapL w b P f) {x : Lc} (hx : f x ≠ none) : x ∈ P := by
  obtain ⟨D, h⟩ := h
  exact h.keys x hx
theorem MapL.set {w : World} {b : Nat} {P : List Lc} {f : Lc → Option Value} {t e : TypeId} (h : MapL w b P f) (ht : Tryz.prog.underlying t = some (.map 27 e)) (hP : P.length < 1000000000) {x : Lc} (hx : x ∈ P) (v : Value) :
    ∃ w', (Instr.mapUpdate t (.map (some b)) (vL x) v).run Tryz.prog w = .ok () w' ∧ MapL w' b P (putV f x v) ∧ w.grownBy w' (some b) := by
  obtain ⟨D, h⟩ := h
  have hw := h.wf x hx
  have hle : cntV P f ≤ P.length := List.countP_le_length
  obtain ⟨w', hrun, ho, hg⟩ := h.owns.update lawK ht (by simp [maxLen]; omega) (keyL hw) (d := .held v) (ps := []) rfl
  have hsz : Maps.size (D.put (klL x) (.held v)) = cntV P (putV f x v) := by
    rw [Maps.size_put (ownsL_tidy h.owns), h.has x hw, h.size, cntV_put h.nodup hx]
  refine ⟨w', hrun, ⟨_, ⟨hsz ▸ ownsL_tight ho, hsz, h.nodup, h.wf, fun y hy => ?_, fun y hy z => ?_, fun y hy => ?_⟩⟩, hg⟩
  · by_cases e : y = x
    · rw [e]; exact hx
    · rw [putV_other f v e] at hy; exact h.keys y hy
  · by_cases e : y = x
    · subst e
      rw [Maps.atKey_put_same (ownsL_tidy h.owns).isMap (klL_key hy), putV_same]
    · rw [Maps.atKey_put_other (fun k => e (klL_inj hy hw k)), h.at_ y hy, putV_other f v e]
  · by_cases e : y = x
    · subst e
      rw [Maps.has_put_same (ownsL_tidy h.owns).isMap (klL_key hy), putV_same]
      rfl
    · rw [Maps.has_put_other (fun k => e (klL_inj hy hw k)), h.has y hy, putV_other f v e]
/-- Block b is a map that has an entry of t, with this stamp. -/
def EntL (w : World) (b : Nat) (t : Lc) (st : Nat) : Prop := ∃ es clock e0, w.heap[b]? = some (.map es clock) ∧ e0 ∈ es.toList ∧ e0.key = vL t ∧ e0.born = st
theorem EntL.keep {w w' : World} {b : Nat} {t : Lc} {st : Nat} (h : EntL w b t st) (he : w'.heap[b]? = w.heap[b]?) : EntL w' b t st := by
  obtain ⟨es, clock, e0, hb, r⟩ := h
  exact ⟨es, clock, e0, he.trans hb, r⟩
theorem EntL.lt {w : World} {b : Nat} {t : Lc} {st : Nat} (h : EntL w b t st) : b < w.heap.size := by
  obtain ⟨es, clock, e0, hb, r⟩ := h
  exact (Array.getElem?_eq_some_iff.1 hb).1
theorem setBlockL_self {w : World} {b : Nat} {o : Obj} (h : w.heap[b]? = some o) : setBlock w b o = w := by
  unfold setBlock
  have : w.heap.setIfInBounds b o = w.heap := by
    apply Array.ext_getElem?
    intro i
    by_cases e : i = b
    · subst e
      have := (Array.getElem?_eq_some_iff.1 h).1
      rw [Array.getElem?_setIfInBounds_self_of_lt this, h]
    · rw [Array.getElem?_setIfInBounds_ne (Ne.symm e)]
  rw [this]
/-- The entry of a key, as 'm[k] = append(m[k], ..)' asks for it: what stands there, or a new one with the zero value. -/
theorem MapL.entry {w : World} {b : Nat} {P : List Lc} {f : Lc → Option Value} {t e : TypeId} {z : Value} (h : MapL w b P f) (ht : Tryz.prog.underlying t = some (.map 27 e)) (hz : ∀ w, (zeroValue e).run Tryz.prog w = .ok z w) (hP : P.length < 1000000000) {x : Lc} (hx : x ∈ P) :
    ∃ (st : Nat) (w' : World), (Instr.mapEntry t (.map (some b)) (vL x)).run Tryz.prog w = .ok (.tuple #[(f x).getD z, goInt st]) w' ∧ MapL w' b P (putV f x ((f x).getD z)) ∧ EntL w' b x st ∧ w.grownBy w' (some b) := by
  obtain ⟨w1, hup, hM, hG⟩ := h.set ht hP hx ((f x).getD z)
  have hget := MapL.get h ht (hz w) (x := x) (by obtain ⟨D, h⟩ := h; exact h.wf x hx)
  obtain ⟨D, h⟩ := h
  have hkey := keyL (h.wf x hx)
  have hfx := h.at_ x (h.wf x hx)
  obtain ⟨es, clock, hb, F, hs, hD⟩ := h.owns
  unfold vL at hkey hup hget ⊢
  rcases lawL.find w hkey es.toList F.keys with ⟨h1, h2⟩ | ⟨j, e0, h1, h2, h4⟩
  · have hf0 : (f x).getD z = z := by
      simp [Instr.lookup, run_underlying ht, MapKept.run_getObj_map hb, lawL.check w _ hkey, h1, hz, Result.andThen] at hget
      exact hget.symm
    rw [hf0] at hup hM ⊢
    simp [Instr.mapUpdate, run_underlying ht, MapKept.run_getObj_map hb, lawL.check w false hkey, h1, MapKept.run_setObj_map _ hb, Result.andThen] at hup
    refine ⟨clock, w1, ?_, hM, ⟨es.push ⟨.agg #[.int .i64 x.n, .int .i64 x.p], z, clock⟩, clock + 1, ⟨.agg #[.int .i64 x.n, .int .i64 x.p], z, clock⟩, ?_, by simp, rfl, rfl⟩, hG⟩
    · rw [← hup]
      simp [Instr.mapEntry, run_underlying ht, MapKept.run_getObj_map hb, lawL.check w false hkey, h1, hz, MapKept.run_setObj_map _ hb, Result.andThen]
    · rw [← hup]
      simp [(Array.getElem?_eq_some_iff.1 hb).1]
  · have hj : es[j]? = some e0 := by simpa using h2
    have hsame : es.modify j (fun e => { e with key := .agg #[.int .i64 x.n, .int .i64 x.p] }) = es := by
      apply Array.ext'
      rw [Array.toList_modify, modify_eq_set _ _ _ _ h2]
      have : ({ e0 with key := .agg #[.int .i64 x.n, .int .i64 x.p] } : MapEntry) = e0 := by rw [← h4]
      rw [this]
      exact set_self _ _ _ h2
    have hsb : ({ w with heap := w.heap.setIfInBounds b (.map es clock) } : World) = w := setBlockL_self hb
    have hv : e0.val = (f x).getD z := by
      simp [Instr.lookup, run_underlying ht, MapKept.run_getObj_map hb, lawL.check w _ hkey, h1, hj, Result.andThen] at hget
      exact hget
    have hfs : ∃ v, f x = some v := by
      cases hfx' : f x with
      | some v => exact ⟨v, rfl⟩
      | none =>
        have hh := h.has x (h.wf x hx)
        rw [hfx', hD] at hh
        exfalso
        have hmem := List.mem_of_getElem? h2
        obtain ⟨y, hy⟩ := F.reads e0 hmem
        have hk0 : (WideElems.rg Tryz.prog 27 PV e0).1 = klL x := by
          have : keyOf Tryz.prog 27 e0.key = some (klL x) := by rw [h4]; exact hkey
          simp [WideElems.rg, WideElems.rd, this, PV]
        have : Maps.has (.map ((es.toList.map (WideElems.rg Tryz.prog 27 PV)).foldr DataW.insert []) : DataW Value) (klL x) = true := by
          rw [Maps.has_eq, List.any_eq_true]
          refine ⟨WideElems.rg Tryz.prog 27 PV e0, ?_, by rw [hk0]; exact WideAt.sameKey_self (klL_key (h.wf x hx))⟩
          exact ((sorted_perm _).mem_iff).2 (List.mem_map.2 ⟨e0, hmem, rfl⟩)
        rw [this] at hh
        cases hh
    obtain ⟨v, hfv⟩ := hfs
    have hsp : ∀ y, putV f x ((f x).getD z) y = f y := fun y => by
      by_cases e : y = x
      · subst e; rw [putV_same, hfv]; rfl
      · rw [putV_other f _ e]
    refine ⟨e0.born, w, ?_, MapL.ext ⟨D, h⟩ fun y => (hsp y).symm, ⟨es, clock, e0, hb, List.mem_of_getElem? h2, h4, rfl⟩, ⟨rfl, rfl, rfl, Nat.le_refl _, fun _ _ _ => rfl⟩⟩
    rw [← hv]
    simp [Instr.mapEntry, run_underlying ht, MapKept.run_getObj_map hb, lawL.check w false hkey, h1, hj, h4, lawL.stays w hkey, hsame, MapKept.run_setObj_map _ hb, Result.andThen, hsb]
theorem nodupL_key_eq {l : List MapEntry} (hn : (l.map (·.key)).Nodup) {a c : MapEntry} (ha : a ∈ l) (hc : c ∈ l) (h : a.key = c.key) : a = c := by
  induction l with
  | nil => simp at ha
  | cons x r ih =>
    simp only [List.map_cons, List.nodup_cons] at hn
    rcases List.mem_cons.1 ha with e1 | e1 <;> rcases List.mem_cons.1 hc with e2 | e2
    · rw [e1, e2]
    · subst e1; exact absurd (List.mem_map.2 ⟨c, e2, h.symm⟩) hn.1
    · subst e2; exact absurd (List.mem_map.2 ⟨a, e1, h⟩) hn.1
    · exact ih hn.2 e1 e2
/-- A store into it. -/
theorem MapL.store {w : World} {b st : Nat} {P : List Lc} {f : Lc → Option Value} {t e : TypeId} (h : MapL w b P f) (ht : Tryz.prog.underlying t = some (.map 27 e)) (hP : P.length < 1000000000) {x : Lc} (hE : EntL w b x st) (hx : x ∈ P) (v : Value) :
    ∃ w', (Instr.entryStore t (.map (some b)) (goInt st) v).run Tryz.prog w = .ok () w' ∧ MapL w' b P (putV f x v) ∧ w.grownBy w' (some b) := by
  obtain ⟨w1, hup, hM, hG⟩ := h.set ht hP hx v
  obtain ⟨D, h⟩ := h
  have hkey := keyL (h.wf x hx)
  obtain ⟨es, clock, hb, F, hs, hD⟩ := h.owns
  obtain ⟨es', clock', e1, hb', hm, hk, rfl⟩ := hE
  rw [hb] at hb'
  obtain ⟨rfl, rfl⟩ : es = es' ∧ clock = clock' := by cases hb'; exact ⟨rfl, rfl⟩
  unfold vL at hkey hup hk
  rcases lawL.find w hkey es.toList F.keys with ⟨h1, h2⟩ | ⟨j, e0, h1, h2, h4⟩
  · exact absurd hk (h2 e1 hm)
  · have hj : es[j]? = some e0 := by simpa using h2
    obtain rfl : e1 = e0 := nodupL_key_eq F.stamped.2.2 hm (List.mem_of_getElem? h2) (hk.trans h4.symm)
    have hidx : es.findIdx? (fun e => ((e.born : Nat) : Int) == ((e1.born : Nat) : Int)) = some j := by
      rw [findIdx_arr]
      exact findIdx_born F.stamped.2.1 h2
    have hmod : es.modify j (fun e => { e with val := v }) = es.modify j (fun e' => { e' with key := .agg #[.int .i64 x.n, .int .i64 x.p], val := v }) := by
      apply Array.ext'
      rw [Array.toList_modify, Array.toList_modify, modify_eq_set _ _ _ _ h2, modify_eq_set _ _ _ _ h2, ← h4]
    refine ⟨w1, ?_, hM, hG⟩
    simp [Instr.mapUpdate, run_underlying ht, MapKept.run_getObj_map hb, lawL.check w false hkey, h1, hj, h4, lawL.stays w hkey, MapKept.run_setObj_map _ hb, Result.andThen] at hup
    rw [← hup]
    simp [Instr.entryStore, MapKept.run_getObj_map hb, asInt, asIntOf, goInt, hidx, hmod, MapKept.run_setObj_map _ hb, Result.andThen]

abbrev RangesL (w : World) (b r n : Nat) (D : DataW Value) (left : Lit → Bool) (cnt : Nat) : Prop := w.ranges Tryz.prog 27 PV b r n D left cnt
section
variable {w : World} {ops : Array Oper} {rest : List Oper} {o : Oper} {a : Act} {Q : Exit → Act → World → Prop}
/-- 'range m'. -/
theorem wpList_range_L (hg : o.guard = none) (m : Operand) (t e : TypeId) (ht : Tryz.prog.underlying t = some (.map 27 e)) (hop : o.op = Op.range t m) (b : Nat) (P : List Lc) (f : Lc → Option Value) (D : DataW Value) (hm : a.eval m = .map (some b)) (h : MapD w b P f D)
    (hK : ∀ w', RangesL w' b w.heap.size (cntV P f) D (Maps.has D) (cntV P f) → Grow w w' → w'.heap.size = w.heap.size + 1 → wpList Tryz.prog ops Q rest (a.put o.dst (.pointer (some ⟨w.heap.size, 0, none⟩))) w') :
    wpList Tryz.prog ops Q (o :: rest) a w :=
  wpList_range_own w hg m t hop 27 e lawK ht PV b (cntV P f) D hm h.owns fun w' h1 h2 h3 => hK w' (h.size ▸ h1) ⟨h2.os, h2.tape, h2.output, h2.size, fun k hk => h2.block k hk (by simp)⟩ h3
/-- The step. -/
theorem wpList_next_L (hg : o.guard = none) (it : Operand) (hop : o.op = Op.next it false) (b r : Nat) (P : List Lc) (f : Lc → Option Value) (D : DataW Value) (w0 : World) (hD : MapD w0 b P f D) (left : Lit → Bool) (cnt : Nat)
    (hit : a.eval it = .pointer (some ⟨r, 0, none⟩)) (h : RangesL w b r (cntV P f) D left cnt)
    (hDone : (∀ kl, left kl = false) → wpList Tryz.prog ops Q rest (a.put o.dst (.tuple #[.bool false])) w)
    (hMore : ∀ (x : Lc) (v : Value) (w' : World) (cnt' : Nat), LcWf x → f x = some v → left (klL x) = true → RangesL w' b r (cntV P f) D (fun z => left z && !z.sameKey (klL x)) cnt' → cnt' < cnt →
      w.grownBy w' (some r) → w'.heap.size = w.heap.size → (Instr.entry (.pointer (some ⟨r, 0, none⟩))).run Tryz.prog w' = .ok (.tuple #[.agg #[.int .i64 x.n, .int .i64 x.p], v]) w' → wpList Tryz.prog ops Q rest (a.put o.dst (.tuple #[.bool true, .agg #[.int .i64 x.n, .int .i64 x.p], v])) w') :
    wpList Tryz.prog ops Q (o :: rest) a w := by
  refine wpList_next_ranges w hg it hop 27 lawK PV vL (fun v : Value => v) (fun key kl hk => ?_) (fun v y hv => ⟨v, rfl⟩) b r (cntV P f) D left cnt hit h (fun _ hl => hDone hl) ?_
  · obtain ⟨t, e, _⟩ := keyOf_invL hk
    exact ⟨t, e⟩
  · intro x c kl y w' cnt' hkey hl hR hat hrg hlt hgr hsz hen
    obtain ⟨t, e, hwf⟩ := keyOf_invL hkey
    have e' := vL_inj e
    subst e'
    have hkl : kl = klL x := by
      have := keyL hwf
      rw [hkey] at this
      exact Option.some.inj this
    subst hkl
    have hy : y = (.held c, []) := by
      have : some (DataW.held c, ([] : List MemPlace)) = some y := hR
      exact (Option.some.inj this).symm
    have h3 := hD.at_ x hwf
    have hf : f x = some c := by
      cases hfx : f x with
      | some v =>
        have h4 := h3 .nil
        rw [hfx, hat, hy] at h4
        simp at h4
        rw [h4]
      | none =>
        have h4 := h3 (.lit (.bool true))
        rw [hfx, hat, hy] at h4
        cases h4
    exact hMore x c w' cnt' hwf hf hl hrg hlt hgr hsz hen
end
theorem rangesL_kept {w w' : World} {b r n : Nat} {D : DataW Value} {left : Lit → Bool} {cnt : Nat} {row : Option Nat} (h : RangesL w b r n D left cnt) (hg : w.grownBy w' row) (h1 : some b ≠ row) (h2 : some r ≠ row) : RangesL w' b r n D left cnt := World.ranges.kept h hg h1 h2
theorem rangesL_later {w w' : World} {b r n : Nat} {D : DataW Value} {left : Lit → Bool} {cnt : Nat} (h : RangesL w b r n D left cnt) (hg : Grow w w') : RangesL w' b r n D left cnt :=
  World.ranges.kept (row := none) h ⟨hg.os, hg.tape, hg.output, hg.size, fun k hk _ => hg.block k hk⟩ (by simp) (by simp)
theorem growL_step {W w w' : World} {r : Nat} (h : Grow W w) (hg : w.grownBy w' (some r)) (hr : W.heap.size ≤ r) : Grow W w' := Below.grown h hg h.size (fun k e => by cases e; exact hr)
/-- A look-up in no map. -/
theorem get_none (w : World) {t e : TypeId} {z : Value} (ht : Tryz.prog.underlying t = some (.map 27 e)) (hz : (zeroValue e).run Tryz.prog w = .ok z w) {x : Lc} (hx : LcWf x) :
    (Instr.lookup t (.map none) (vL x) false).run Tryz.prog w = .ok z w := by
  have hkey := keyL hx
  unfold vL at hkey ⊢
  rcases lawL.find w hkey [] (by simp) with ⟨h1, _⟩ | ⟨j, e0, _, h2, _⟩
  · simp [Instr.lookup, run_underlying ht, lawL.check w _ hkey, h1, hz, Result.andThen]
  · simp at h2

end Go.Proofs.YtehianjfpmbfpaaGreat
end
