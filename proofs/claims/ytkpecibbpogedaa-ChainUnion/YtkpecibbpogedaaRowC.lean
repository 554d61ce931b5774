/-
  How structs with a row of summaries in them, that come in as arguments, are opened: the value written out.
-/
import Derived.Test.YtkpecibbpogedaaRowG
namespace Go.Proofs.Ytkpecibbpogedaa
set_option maxRecDepth 100000
open Go.ChangeShapes Go.WideShapes Go.ChangeAt Go.RowKit Go.Deep
set_option linter.unusedVariables false

/-- A row that came in, and one more. -/
structure SumsA where
  s : Option Addr
  n : Nat
  cap : Nat
  l : List Sm
  m : Sm
/-- A row that came in, and a number. -/
structure CutA where
  s : Option Addr
  n : Nat
  cap : Nat
  l : List Sm
  k : Int

theorem slice_cell {H : Type} {enc : TypeId × Value → H} {W : World} {base : Nat} {spare : Nat → Bool} {held : Bool} {fuel : Nat} {c : Value} {y : DataW H × List MemPlace}
    (h : DataW.trod enc Try.prog W base spare held fuel 32 [c] = some y) : ∃ s n cap l, c = .slice s n cap ∧ IsSms W s n cap l := by
  have hc : ∃ s n cap, c = .slice s n cap := by
    rcases open_slice Try.underlying32 h with ⟨hcs, _⟩ | ⟨a, l, cp, m, n, D, Pl, hcs, _⟩
    · simp at hcs; exact ⟨_, _, _, hcs⟩
    · simp at hcs; exact ⟨_, _, _, hcs⟩
  obtain ⟨s, n, cap, rfl⟩ := hc
  obtain ⟨l, hl⟩ := rows_sms (enc := enc) (W := W) (s := s) (len := n) (cap := cap) (d := y.1) (p := y.2) (base := base) (spare := spare) (held := held) ⟨fuel, by simpa [Value.cells] using h⟩
  exact ⟨s, n, cap, l, rfl, hl⟩

theorem open_sumsx {H : Type} {enc : TypeId × Value → H} {W : World} {r : Reach} {b0 : Nat} {v : Value} {d : DataW H} {p : List MemPlace} {base : Nat} {spare : Nat → Bool} {held : Bool}
    (hv : Value.okWide Try.prog W r b0 43 v) (h : DataW.Trod enc Try.prog W base spare held 43 v d p) :
    ∃ t : SumsA, v = .agg #[.slice t.s t.n t.cap, .int .i64 t.m.f, .int .i64 t.m.t, .int .i64 t.m.k, .int .i64 t.m.ep, .int .i64 t.m.x, .int .i64 t.m.y, .int .i64 t.m.z] ∧ IsSms W t.s t.n t.cap t.l := by
  obtain ⟨cs, rfl, hsz⟩ := okWide_struct Try.underlying43 hv
  have hC : Try.prog.cellsOf 43 = 8 := by kernel_rfl
  have hC1 : Try.prog.cellsOf 32 = 1 := by kernel_rfl
  have hC2 : Try.prog.cellsOf 34 = 7 := by kernel_rfl
  rw [hC] at hsz
  obtain ⟨l⟩ := cs
  match l, hsz with
  | [c0, c1, c2, c3, c4, c5, c6, c7], _ =>
    obtain ⟨fuel, hf⟩ := h
    obtain ⟨y0, y1, n, _, _, h0, h1⟩ := trod_struct2 Try.underlying43 hf
    simp only [Value.cells] at h0 h1
    simp [hC1, hC2] at h0 h1
    obtain ⟨s, n, cap, l, rfl, hl⟩ := slice_cell h0
    obtain ⟨m, hm⟩ := sm_cells h1
    simp [encM] at hm
    obtain ⟨rfl, rfl, rfl, rfl, rfl, rfl, rfl⟩ := hm
    exact ⟨⟨s, n, cap, l, m⟩, rfl, hl⟩
theorem open_cutx {H : Type} {enc : TypeId × Value → H} {W : World} {r : Reach} {b0 : Nat} {v : Value} {d : DataW H} {p : List MemPlace} {base : Nat} {spare : Nat → Bool} {held : Bool}
    (hv : Value.okWide Try.prog W r b0 49 v) (h : DataW.Trod enc Try.prog W base spare held 49 v d p) :
    ∃ t : CutA, v = .agg #[.slice t.s t.n t.cap, .int .i64 t.k] ∧ IsSms W t.s t.n t.cap t.l := by
  obtain ⟨cs, rfl, hsz⟩ := okWide_struct Try.underlying49 hv
  have hC : Try.prog.cellsOf 49 = 2 := by kernel_rfl
  have hC1 : Try.prog.cellsOf 32 = 1 := by kernel_rfl
  have hC2 : Try.prog.cellsOf 3 = 1 := by kernel_rfl
  rw [hC] at hsz
  obtain ⟨l⟩ := cs
  match l, hsz with
  | [c0, c1], _ =>
    obtain ⟨fuel, hf⟩ := h
    obtain ⟨y0, y1, n, _, _, h0, h1⟩ := trod_struct2 Try.underlying49 hf
    simp only [Value.cells] at h0 h1
    simp [hC1, hC2] at h0 h1
    obtain ⟨s, n, cap, l, rfl, hl⟩ := slice_cell h0
    obtain ⟨k, e1, _, _⟩ := DataW.trod_int Try.underlying3 h1
    simp at e1
    subst e1
    exact ⟨⟨s, n, cap, l, k⟩, rfl, hl⟩

end Go.Proofs.Ytkpecibbpogedaa
