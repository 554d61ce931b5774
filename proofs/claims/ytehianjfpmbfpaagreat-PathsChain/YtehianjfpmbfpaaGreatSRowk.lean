/-
  How summaries, and an array of two times, that come in as arguments are opened: the value written out.
-/
import Derived.Test.YtehianjfpmbfpaaGreatRowk
import Derived.Test.YtehianjfpmbfpaaGreatSBase
namespace Go.Proofs.YtehianjfpmbfpaaGreat
set_option maxRecDepth 100000
open Go.ChangeShapes Go.WideShapes Go.ChangeAt Go.RowKit Go.Deep

section
variable {H : Type} {enc : TypeId × Value → H} {P : Program} {w : World} {base : Nat} {spare : Nat → Bool} {held : Bool}
theorem trod_struct5 {t : TypeId} {f0 f1 f2 f3 f4 : Field} {fuel : Nat} {cs : List Value} {x : DataW H × List MemPlace} (ht : P.underlying t = some (.struct #[f0, f1, f2, f3, f4])) (h : DataW.trod enc P w base spare held fuel t cs = some x) :
    ∃ y0 y1 y2 y3 y4 n, DataW.trod enc P w base spare held n f0.type ((cs.drop f0.offset).take (P.cellsOf f0.type)) = some y0 ∧
      DataW.trod enc P w base spare held n f1.type ((cs.drop f1.offset).take (P.cellsOf f1.type)) = some y1 ∧ DataW.trod enc P w base spare held n f2.type ((cs.drop f2.offset).take (P.cellsOf f2.type)) = some y2 ∧
      DataW.trod enc P w base spare held n f3.type ((cs.drop f3.offset).take (P.cellsOf f3.type)) = some y3 ∧ DataW.trod enc P w base spare held n f4.type ((cs.drop f4.offset).take (P.cellsOf f4.type)) = some y4 := by
  obtain ⟨xs, n, _, rfl, hl, hlen, hf⟩ := DataW.trod_struct ht h
  match xs, hlen with
  | [y0, y1, y2, y3, y4], _ => exact ⟨y0, y1, y2, y3, y4, n, by simpa using hf 0 f0 rfl, by simpa using hf 1 f1 rfl, by simpa using hf 2 f2 rfl, by simpa using hf 3 f3 rfl, by simpa using hf 4 f4 rfl⟩
end

/-- Every number of a summary fits an int. -/
def SmWf (s : Sm) : Prop := (Lit.int .i64 s.f).wf = true ∧ (Lit.int .i64 s.t).wf = true ∧ (Lit.int .i64 s.k).wf = true ∧ (Lit.int .i64 s.ep).wf = true ∧ (Lit.int .i64 s.x).wf = true ∧ (Lit.int .i64 s.y).wf = true ∧ (Lit.int .i64 s.z).wf = true

theorem open_sm {H : Type} {enc : TypeId × Value → H} {W : World} {r : Reach} {b0 : Nat} {v : Value} {d : DataW H} {p : List MemPlace} {base : Nat} {spare : Nat → Bool} {held : Bool}
    (hv : Value.okWide Tryz.prog W r b0 68 v) (h : DataW.Trod enc Tryz.prog W base spare held 68 v d p) : ∃ s : Sm, v = .agg #[.int .i64 s.f, .int .i64 s.t, .int .i64 s.k, .int .i64 s.ep, .int .i64 s.x, .int .i64 s.y, .int .i64 s.z] ∧ SmWf s := by
  obtain ⟨cs, rfl, hsz⟩ := okWide_struct Tryz.underlying68 hv
  have hC : Tryz.prog.cellsOf 68 = 7 := by kernel_rfl
  have hC3 : Tryz.prog.cellsOf 3 = 1 := by kernel_rfl
  have hCa : Tryz.prog.cellsOf 41 = 3 := by kernel_rfl
  rw [hC] at hsz
  obtain ⟨l⟩ := cs
  match l, hsz with
  | [c0, c1, c2, c3, c4, c5, c6], _ =>
    obtain ⟨fuel, hf⟩ := h
    obtain ⟨y0, y1, y2, y3, y4, n, h0, h1, h2, h3, h4⟩ := trod_struct5 Tryz.underlying68 hf
    simp only [Value.cells] at h0 h1 h2 h3 h4
    simp [hC3, hCa] at h0 h1 h2 h3 h4
    obtain ⟨e, e0, _, we⟩ := DataW.trod_int Tryz.underlying3 h0
    obtain ⟨d', e1, _, wd⟩ := DataW.trod_int Tryz.underlying3 h1
    obtain ⟨k', e5, _, wk⟩ := DataW.trod_int Tryz.underlying3 h2
    obtain ⟨p', e6, _, wp⟩ := DataW.trod_int Tryz.underlying3 h3
    obtain ⟨xs, m, _, _, _, hlen, hi⟩ := DataW.trod_array Tryz.underlying41 h4
    match xs, hlen with
    | [z0, z1, z2], _ =>
      have i0 := hi 0 (by omega)
      have i1 := hi 1 (by omega)
      have i2 := hi 2 (by omega)
      simp [hC3] at i0 i1 i2
      obtain ⟨x, e2, _, wx⟩ := DataW.trod_int Tryz.underlying3 i0
      obtain ⟨y, e3, _, wy⟩ := DataW.trod_int Tryz.underlying3 i1
      obtain ⟨z, e4, _, wz⟩ := DataW.trod_int Tryz.underlying3 i2
      simp at e0 e1 e2 e3 e4 e5 e6
      subst e0 e1 e2 e3 e4 e5 e6
      exact ⟨⟨e, d', k', p', x, y, z⟩, rfl, we, wd, wk, wp, wx, wy, wz⟩


end Go.Proofs.YtehianjfpmbfpaaGreat
