/-
  Rows of numbers that are added (a time, a number): how they, and one of them, are opened as arguments: the value written out, and that every number fits.
-/
import Derived.Test.YtpkhmhigoafklaaRowG
import Derived.Test.YtpkhmhigoafklaaMpt
namespace Go.Proofs.Ytpkhmhigoafklaa
set_option maxRecDepth 100000
open Go.ChangeShapes Go.WideShapes Go.ChangeAt Go.RowKit Go.Deep
set_option linter.unusedVariables false

def wfO (o : Opn) : Prop := wfT o.t ∧ (Lit.int .i64 o.n).wf = true
def encO (o : Opn) : List Value := [.int .i64 o.t.e, .int .i64 o.t.d, .int .i64 o.t.x, .int .i64 o.t.y, .int .i64 o.t.z, .int .i64 o.n]
theorem tm_cellsW {H : Type} {enc : TypeId × Value → H} {W : World} {base : Nat} {spare : Nat → Bool} {held : Bool} {fuel : Nat} {cs : List Value} {y : DataW H × List MemPlace}
    (hf : DataW.trod enc Try.prog W base spare held fuel 25 cs = some y) : ∃ t : Tm, cs = encT t ∧ wfT t := by
  obtain ⟨y0, y1, y2, n, hx, hlen, h0, h1, h2⟩ := trod_struct3 Try.underlying25 hf
  rw [cellsK] at hlen
  match cs, hlen with
  | [c0, c1, c2, c3, c4], _ =>
    simp [cellsI, cellsA] at h0 h1 h2
    obtain ⟨e, e0, _, we⟩ := DataW.trod_int Try.underlying3 h0
    obtain ⟨d', e1, _, wd⟩ := DataW.trod_int Try.underlying3 h1
    obtain ⟨xs, m, _, _, _, hlen, hi⟩ := DataW.trod_array Try.underlying23 h2
    match xs, hlen with
    | [z0, z1, z2], _ =>
      have i0 := hi 0 (by omega)
      have i1 := hi 1 (by omega)
      have i2 := hi 2 (by omega)
      simp [cellsI] at i0 i1 i2
      obtain ⟨x, e2, _, wx⟩ := DataW.trod_int Try.underlying3 i0
      obtain ⟨y, e3, _, wy⟩ := DataW.trod_int Try.underlying3 i1
      obtain ⟨z, e4, _, wz⟩ := DataW.trod_int Try.underlying3 i2
      simp at e0 e1 e2 e3 e4
      subst e0 e1 e2 e3 e4
      exact ⟨⟨e, d', x, y, z⟩, rfl, we, wd, wx, wy, wz⟩
theorem opn_cells {H : Type} {enc : TypeId × Value → H} {W : World} {base : Nat} {spare : Nat → Bool} {held : Bool} {fuel : Nat} {cs : List Value} {y : DataW H × List MemPlace}
    (hf : DataW.trod enc Try.prog W base spare held fuel 38 cs = some y) : ∃ o : Opn, cs = encO o ∧ wfO o := by
  have hC : Try.prog.cellsOf 38 = 6 := by kernel_rfl
  obtain ⟨_, _, _, _, hlen0, _⟩ := DataW.trod_struct Try.underlying38 hf
  obtain ⟨y0, y1, n, _, _, h0, h1⟩ := trod_struct2 Try.underlying38 hf
  have hlen : cs.length = 6 := by rw [hC] at hlen0; exact hlen0
  match cs, hlen with
  | [c0, c1, c2, c3, c4, c5], _ =>
    simp [cellsK, cellsI] at h0 h1
    obtain ⟨t, ht, wt⟩ := tm_cellsW h0
    obtain ⟨k, e5, _, wk⟩ := DataW.trod_int Try.underlying3 h1
    simp [encT] at ht
    simp at e5
    obtain ⟨rfl, rfl, rfl, rfl, rfl⟩ := ht
    subst e5
    exact ⟨⟨t, k⟩, rfl, wt, wk⟩

/-- A row of them lies in a block. -/
def RowO (w : World) (b o : Nat) (d : List Opn) : Prop := ∀ j (hj : j < d.length) (i : Nat) v, (encO d[j])[i]? = some v → w.cell? ⟨b, o + j * 6 + i, none⟩ = some v
theorem RowO.later {w w' : World} {b o : Nat} {d : List Opn} (hg : Grow w w') (h : RowO w b o d) : RowO w' b o d := fun j hj i v hv => cell_later hg (h j hj i v hv)
theorem RowO.at {w : World} {b o : Nat} {d : List Opn} (h : RowO w b o d) (j : Nat) (hj : j < d.length) :
    w.cell? ⟨b, o + j * 6, none⟩ = some (.int .i64 d[j].t.e) ∧ w.cell? ⟨b, o + j * 6 + 1, none⟩ = some (.int .i64 d[j].t.d) ∧ w.cell? ⟨b, o + j * 6 + 2, none⟩ = some (.int .i64 d[j].t.x) ∧ w.cell? ⟨b, o + j * 6 + 3, none⟩ = some (.int .i64 d[j].t.y) ∧ w.cell? ⟨b, o + j * 6 + 4, none⟩ = some (.int .i64 d[j].t.z) ∧ w.cell? ⟨b, o + j * 6 + 5, none⟩ = some (.int .i64 d[j].n) :=
  ⟨h j hj 0 _ rfl, h j hj 1 _ rfl, h j hj 2 _ rfl, h j hj 3 _ rfl, h j hj 4 _ rfl, h j hj 5 _ rfl⟩
/-- A slice of them that came in. -/
structure IsOps (w : World) (s : Option Addr) (n cap : Nat) (d : List Opn) : Prop where
  len : d.length = n
  cap : n ≤ cap
  row : d = [] ∨ ∃ b o, s = some ⟨b, o, none⟩ ∧ RowO w b o d
  wf : ∀ o ∈ d, wfO o
theorem IsOps.later {w w' : World} {s : Option Addr} {n cap : Nat} {d : List Opn} (hg : Grow w w') (h : IsOps w s n cap d) : IsOps w' s n cap d :=
  ⟨h.len, h.cap, h.row.imp id fun ⟨b, o, e, r⟩ => ⟨b, o, e, r.later hg⟩, h.wf⟩
/-- The block and the cells of number k. -/
theorem IsOps.see {w : World} {s : Option Addr} {n cap : Nat} {d : List Opn} (h : IsOps w s n cap d) (k : Nat) (hk : k < n) : ∃ b o, s = some ⟨b, o, none⟩ ∧ RowO w b o d ∧ k < d.length := by
  have hkd : k < d.length := by rw [h.len]; exact hk
  obtain ⟨b, o, e, r⟩ := h.row.resolve_left (fun e => by rw [e] at hkd; simp at hkd)
  exact ⟨b, o, e, r, hkd⟩

theorem rows_opr {H : Type} {enc : TypeId × Value → H} {W : World} {s : Option Addr} {len cap : Nat} {d : DataW H} {p : List MemPlace} {base : Nat} {spare : Nat → Bool} {held : Bool}
    (h : DataW.Trod enc Try.prog W base spare held 22 (.slice s len cap) d p) : ∃ l, IsOps W s len cap l := by
  have hC : Try.prog.cellsOf 38 = 6 := by kernel_rfl
  obtain ⟨fuel, hf⟩ := h
  rcases open_slice Try.underlying22 hf with ⟨hcs, _⟩ | ⟨a, l, c, m, n, D, Pl, hcs, _, hl, _, hm, _, hi⟩
  · simp [Value.cells] at hcs
    obtain ⟨rfl, rfl, rfl⟩ := hcs
    exact ⟨[], rfl, Nat.le_refl _, .inl rfl, fun o ho => by cases ho⟩
  · simp [Value.cells] at hcs
    obtain ⟨rfl, rfl, rfl⟩ := hcs
    have hlm : len ≤ m := by rw [hm]; split <;> omega
    by_cases h0 : len = 0
    · subst h0
      exact ⟨[], rfl, hl, .inl rfl, fun o ho => by cases ho⟩
    · rw [hC] at hi
      have key : ∀ i, i < len → ∃ t : Opn, (∀ j : Nat, j < 6 → W.cell? ((a.add (i * 6)).add j) = (encO t)[j]?) ∧ wfO t := by
        intro i hi'
        obtain ⟨cs', h1, h2⟩ := hi i (by omega)
        obtain ⟨t, rfl, ht⟩ := opn_cells h2
        refine ⟨t, fun j hj => ?_, ht⟩
        exact (World.cells?_some h1).2.2 j (by omega)
      have hch : ∃ f : Nat → Opn, ∀ i, i < len → (∀ j : Nat, j < 6 → W.cell? ((a.add (i * 6)).add j) = (encO (f i))[j]?) ∧ wfO (f i) :=
        ⟨fun i => if h : i < len then (key i h).choose else ⟨⟨0, 0, 0, 0, 0⟩, 0⟩, fun i hi' => by
          have := (key i hi').choose_spec
          simpa [hi'] using this⟩
      obtain ⟨f, hf'⟩ := hch
      have hc := (hf' 0 (by omega)).1 0 (by omega)
      obtain ⟨b, off, spot⟩ := a
      have hspot : spot = none := by
        have h5 : W.cell? (⟨b, off, spot⟩ : Addr) = some (.int .i64 (f 0).t.e) := by simpa [Addr.add, encO] using hc
        simpa using World.cell?_spot h5
      subst hspot
      refine ⟨(List.range len).map f, by simp, hl, .inr ⟨b, off, rfl, fun j hj i v hv => ?_⟩, fun o ho => ?_⟩
      · have hj' : j < len := by simpa using hj
        have hi6 : i < 6 := (List.getElem?_eq_some_iff.1 hv).1
        have := (hf' j hj').1 i hi6
        rw [addr_add, addr_add] at this
        rw [this]
        simpa using hv
      · obtain ⟨i, hi', rfl⟩ := List.mem_map.1 ho
        exact (hf' i (by simpa using hi')).2

theorem open_opx {H : Type} {enc : TypeId × Value → H} {W : World} {r : Reach} {b0 : Nat} {v : Value} {d : DataW H} {p : List MemPlace} {base : Nat} {spare : Nat → Bool} {held : Bool}
    (hv : Value.okWide Try.prog W r b0 38 v) (h : DataW.Trod enc Try.prog W base spare held 38 v d p) :
    ∃ o : Opn, v = .agg #[.int .i64 o.t.e, .int .i64 o.t.d, .int .i64 o.t.x, .int .i64 o.t.y, .int .i64 o.t.z, .int .i64 o.n] ∧ wfO o := by
  obtain ⟨cs, rfl, hsz⟩ := okWide_struct Try.underlying38 hv
  obtain ⟨fuel, hf⟩ := h
  obtain ⟨o, ho, hw⟩ := opn_cells hf
  refine ⟨o, ?_, hw⟩
  obtain ⟨l⟩ := cs
  simp [Value.cells, encO] at ho
  rw [ho]

end Go.Proofs.Ytpkhmhigoafklaa
