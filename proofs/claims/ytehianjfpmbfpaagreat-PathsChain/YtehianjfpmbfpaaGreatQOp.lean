/-
  How arrays of places come in as arguments; boxes of them.
-/
import Derived.Test.YtehianjfpmbfpaaGreatQRow
namespace Go.Proofs.YtehianjfpmbfpaaGreat
set_option maxRecDepth 100000
open Go.ChangeShapes Go.WideShapes Go.ChangeAt Go.RowKit Go.Deep
set_option linter.unusedVariables false
set_option linter.unusedSimpArgs false

def WfL (t : Lc) : Prop := (Lit.int .i64 t.n).wf = true ∧ (Lit.int .i64 t.p).wf = true
theorem open_lc2 {H : Type} {enc : TypeId × Value → H} {W : World} {r : Reach} {b0 : Nat} {v : Value} {d : DataW H} {p : List MemPlace} {base : Nat} {spare : Nat → Bool} {held : Bool}
    (hv : Value.okWide Tryz.prog W r b0 54 v) (h : DataW.Trod enc Tryz.prog W base spare held 54 v d p) : ∃ t : Lc × Lc, v = .agg #[.int .i64 t.1.n, .int .i64 t.1.p, .int .i64 t.2.n, .int .i64 t.2.p] ∧ WfL t.1 ∧ WfL t.2 := by
  have hCa : Tryz.prog.cellsOf 54 = 4 := by kernel_rfl
  have hC2 : Tryz.prog.cellsOf 27 = 2 := by kernel_rfl
  have ht := Tryz.underlying54
  simp only [Value.okWide, ht] at hv
  obtain ⟨cs, rfl, hsz, _⟩ := hv
  rw [hCa] at hsz
  obtain ⟨l⟩ := cs
  match l, hsz with
  | [c0, c1, c2, c3], _ =>
    obtain ⟨fuel, hf⟩ := h
    obtain ⟨xs, m, _, _, _, hlen, hi⟩ := DataW.trod_array ht hf
    match xs, hlen with
    | [z0, z1], _ =>
      have i0 := hi 0 (by omega)
      have i1 := hi 1 (by omega)
      simp [hC2, Value.cells] at i0 i1
      obtain ⟨t0, e0, k0, q0⟩ := lc_cells i0
      obtain ⟨t1, e1, k1, q1⟩ := lc_cells i1
      simp [encL] at e0 e1
      obtain ⟨rfl, rfl⟩ := e0
      obtain ⟨rfl, rfl⟩ := e1
      exact ⟨(t0, t1), rfl, ⟨k0, q0⟩, ⟨k1, q1⟩⟩
/-- They lie in a block. -/
def Boxlc2 (w : World) (b : Nat) (t : Lc × Lc) : Prop := w.cell? ⟨b, 0, none⟩ = some (.int .i64 t.1.n) ∧ w.cell? ⟨b, 1, none⟩ = some (.int .i64 t.1.p) ∧ w.cell? ⟨b, 2, none⟩ = some (.int .i64 t.2.n) ∧ w.cell? ⟨b, 3, none⟩ = some (.int .i64 t.2.p)
theorem Boxlc2.later {w w' : World} {b : Nat} {t : Lc × Lc} (hg : Grow w w') (h : Boxlc2 w b t) : Boxlc2 w' b t := by
  obtain ⟨h0, h1, h2, h3⟩ := h
  exact ⟨cell_later hg h0, cell_later hg h1, cell_later hg h2, cell_later hg h3⟩
theorem open_lc3 {H : Type} {enc : TypeId × Value → H} {W : World} {r : Reach} {b0 : Nat} {v : Value} {d : DataW H} {p : List MemPlace} {base : Nat} {spare : Nat → Bool} {held : Bool}
    (hv : Value.okWide Tryz.prog W r b0 50 v) (h : DataW.Trod enc Tryz.prog W base spare held 50 v d p) : ∃ t : Lc × Lc × Lc, v = .agg #[.int .i64 t.1.n, .int .i64 t.1.p, .int .i64 t.2.1.n, .int .i64 t.2.1.p, .int .i64 t.2.2.n, .int .i64 t.2.2.p] ∧ WfL t.1 ∧ WfL t.2.1 ∧ WfL t.2.2 := by
  have hCa : Tryz.prog.cellsOf 50 = 6 := by kernel_rfl
  have hC2 : Tryz.prog.cellsOf 27 = 2 := by kernel_rfl
  have ht := Tryz.underlying50
  simp only [Value.okWide, ht] at hv
  obtain ⟨cs, rfl, hsz, _⟩ := hv
  rw [hCa] at hsz
  obtain ⟨l⟩ := cs
  match l, hsz with
  | [c0, c1, c2, c3, c4, c5], _ =>
    obtain ⟨fuel, hf⟩ := h
    obtain ⟨xs, m, _, _, _, hlen, hi⟩ := DataW.trod_array ht hf
    match xs, hlen with
    | [z0, z1, z2], _ =>
      have i0 := hi 0 (by omega)
      have i1 := hi 1 (by omega)
      have i2 := hi 2 (by omega)
      simp [hC2, Value.cells] at i0 i1 i2
      obtain ⟨t0, e0, k0, q0⟩ := lc_cells i0
      obtain ⟨t1, e1, k1, q1⟩ := lc_cells i1
      obtain ⟨t2, e2, k2, q2⟩ := lc_cells i2
      simp [encL] at e0 e1 e2
      obtain ⟨rfl, rfl⟩ := e0
      obtain ⟨rfl, rfl⟩ := e1
      obtain ⟨rfl, rfl⟩ := e2
      exact ⟨(t0, t1, t2), rfl, ⟨k0, q0⟩, ⟨k1, q1⟩, ⟨k2, q2⟩⟩
/-- They lie in a block. -/
def Boxlc3 (w : World) (b : Nat) (t : Lc × Lc × Lc) : Prop := w.cell? ⟨b, 0, none⟩ = some (.int .i64 t.1.n) ∧ w.cell? ⟨b, 1, none⟩ = some (.int .i64 t.1.p) ∧ w.cell? ⟨b, 2, none⟩ = some (.int .i64 t.2.1.n) ∧ w.cell? ⟨b, 3, none⟩ = some (.int .i64 t.2.1.p) ∧ w.cell? ⟨b, 4, none⟩ = some (.int .i64 t.2.2.n) ∧ w.cell? ⟨b, 5, none⟩ = some (.int .i64 t.2.2.p)
theorem Boxlc3.later {w w' : World} {b : Nat} {t : Lc × Lc × Lc} (hg : Grow w w') (h : Boxlc3 w b t) : Boxlc3 w' b t := by
  obtain ⟨h0, h1, h2, h3, h4, h5⟩ := h
  exact ⟨cell_later hg h0, cell_later hg h1, cell_later hg h2, cell_later hg h3, cell_later hg h4, cell_later hg h5⟩

end Go.Proofs.YtehianjfpmbfpaaGreat
