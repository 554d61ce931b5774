/-
  How times, arrays of three numbers and rows of numbers that come in as arguments are opened: the value written out.
-/
import Derived.Test.YtehianjfpmbfpaaGreatBase
import Derived.ProofKit
import Derived.OpenShut
import Derived.ShutString
import Derived.ChangeOld
import Derived.Below
import Derived.Deep.Strs
namespace Go.Proofs.YtehianjfpmbfpaaGreat
set_option maxRecDepth 100000
open Go.ChangeShapes Go.WideShapes Go.ChangeAt Go.RowKit Go.Deep

theorem own : ownKnob Tryz.prog.godebug = none := by kernel_rfl
theorem laidOut : laidOutB Tryz.prog = true := by kernel_rfl

/-- Every number of a time fits an int. -/
def TmWf (t : Tm) : Prop := (Lit.int .i64 t.e).wf = true ∧ (Lit.int .i64 t.d).wf = true ∧ (Lit.int .i64 t.x).wf = true ∧ (Lit.int .i64 t.y).wf = true ∧ (Lit.int .i64 t.z).wf = true

theorem open_tm {H : Type} {enc : TypeId × Value → H} {W : World} {r : Reach} {b0 : Nat} {v : Value} {d : DataW H} {p : List MemPlace} {base : Nat} {spare : Nat → Bool} {held : Bool}
    (hv : Value.okWide Tryz.prog W r b0 43 v) (h : DataW.Trod enc Tryz.prog W base spare held 43 v d p) : ∃ t : Tm, v = .agg #[.int .i64 t.e, .int .i64 t.d, .int .i64 t.x, .int .i64 t.y, .int .i64 t.z] ∧ TmWf t := by
  obtain ⟨cs, rfl, hsz⟩ := okWide_struct Tryz.underlying43 hv
  have hC : Tryz.prog.cellsOf 43 = 5 := by kernel_rfl
  have hC3 : Tryz.prog.cellsOf 3 = 1 := by kernel_rfl
  have hCa : Tryz.prog.cellsOf 41 = 3 := by kernel_rfl
  rw [hC] at hsz
  obtain ⟨l⟩ := cs
  match l, hsz with
  | [c0, c1, c2, c3, c4], _ =>
    obtain ⟨fuel, hf⟩ := h
    obtain ⟨y0, y1, y2, n, hx, _, h0, h1, h2⟩ := trod_struct3 Tryz.underlying43 hf
    simp only [Value.cells] at h0 h1 h2
    simp [hC3, hCa] at h0 h1 h2
    obtain ⟨e, e0, _, we⟩ := DataW.trod_int Tryz.underlying3 h0
    obtain ⟨d', e1, _, wd⟩ := DataW.trod_int Tryz.underlying3 h1
    obtain ⟨xs, m, _, _, _, hlen, hi⟩ := DataW.trod_array Tryz.underlying41 h2
    match xs, hlen with
    | [z0, z1, z2], _ =>
      have i0 := hi 0 (by omega)
      have i1 := hi 1 (by omega)
      have i2 := hi 2 (by omega)
      simp [hC3] at i0 i1 i2
      obtain ⟨x, e2, _, wx⟩ := DataW.trod_int Tryz.underlying3 i0
      obtain ⟨y, e3, _, wy⟩ := DataW.trod_int Tryz.underlying3 i1
      obtain ⟨z, e4, _, wz⟩ := DataW.trod_int Tryz.underlying3 i2
      simp at e0 e1 e2 e3 e4
      subst e0 e1 e2 e3 e4
      exact ⟨⟨e, d', x, y, z⟩, rfl, we, wd, wx, wy, wz⟩

end Go.Proofs.YtehianjfpmbfpaaGreat
