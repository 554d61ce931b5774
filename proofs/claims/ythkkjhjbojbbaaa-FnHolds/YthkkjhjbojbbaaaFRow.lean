/-
  How two numbers in an array, a row of records with a number, and a row of numbers, that come in as arguments, are opened: the value written out.
-/
import Derived.Test.YthkkjhjbojbbaaaGRow
namespace Go.Proofs.Ythkkjhjbojbbaaa
set_option maxRecDepth 100000
open Go.ChangeShapes Go.WideShapes Go.ChangeAt Go.RowKit Go.Deep
set_option linter.unusedVariables false

theorem open_arr2 {H : Type} {enc : TypeId × Value → H} {W : World} {r : Reach} {b0 : Nat} {v : Value} {d : DataW H} {p : List MemPlace} {base : Nat} {spare : Nat → Bool} {held : Bool}
    (hv : Value.okWide Try.prog W r b0 31 v) (h : DataW.Trod enc Try.prog W base spare held 31 v d p) : ∃ t : Int × Int, v = .agg #[.int .i64 t.1, .int .i64 t.2] ∧ (Lit.int .i64 t.1).wf = true ∧ (Lit.int .i64 t.2).wf = true := by
  have hCa : Try.prog.cellsOf 31 = 2 := by kernel_rfl
  have hC3 : Try.prog.cellsOf 3 = 1 := by kernel_rfl
  have ht := Try.underlying31
  simp only [Value.okWide, ht] at hv
  obtain ⟨cs, rfl, hsz, _⟩ := hv
  rw [hCa] at hsz
  obtain ⟨l⟩ := cs
  match l, hsz with
  | [c0, c1], _ =>
    obtain ⟨fuel, hf⟩ := h
    obtain ⟨xs, m, _, _, _, hlen, hi⟩ := DataW.trod_array ht hf
    match xs, hlen with
    | [z0, z1], _ =>
      have i0 := hi 0 (by omega)
      have i1 := hi 1 (by omega)
      simp [hC3, Value.cells] at i0 i1
      obtain ⟨x, e2, _, wx⟩ := DataW.trod_int Try.underlying3 i0
      obtain ⟨y, e3, _, wy⟩ := DataW.trod_int Try.underlying3 i1
      simp at e2 e3
      subst e2 e3
      exact ⟨(x, y), rfl, wx, wy⟩
/-- A row of records that came in, and a number. -/
structure WaysA where
  s : Option Addr
  n : Nat
  cap : Nat
  l : List Rc
  k : Int
theorem slice_cellR {H : Type} {enc : TypeId × Value → H} {W : World} {base : Nat} {spare : Nat → Bool} {held : Bool} {fuel : Nat} {c : Value} {y : DataW H × List MemPlace}
    (h : DataW.trod enc Try.prog W base spare held fuel 30 [c] = some y) : ∃ s n cap l, c = .slice s n cap ∧ IsRcs W s n cap l := by
  have hc : ∃ s n cap, c = .slice s n cap := by
    rcases open_slice Try.underlying30 h with ⟨hcs, _⟩ | ⟨a, l, cp, m, n, D, Pl, hcs, _⟩
    · simp at hcs; exact ⟨_, _, _, hcs⟩
    · simp at hcs; exact ⟨_, _, _, hcs⟩
  obtain ⟨s, n, cap, rfl⟩ := hc
  obtain ⟨l, hl⟩ := rows_rcs (enc := enc) (W := W) (s := s) (len := n) (cap := cap) (d := y.1) (p := y.2) (base := base) (spare := spare) (held := held) ⟨fuel, by simpa [Value.cells] using h⟩
  exact ⟨s, n, cap, l, rfl, hl.1⟩
theorem open_ways {H : Type} {enc : TypeId × Value → H} {W : World} {r : Reach} {b0 : Nat} {v : Value} {d : DataW H} {p : List MemPlace} {base : Nat} {spare : Nat → Bool} {held : Bool}
    (hv : Value.okWide Try.prog W r b0 38 v) (h : DataW.Trod enc Try.prog W base spare held 38 v d p) :
    ∃ t : WaysA, v = .agg #[.slice t.s t.n t.cap, .int .i64 t.k] ∧ IsRcs W t.s t.n t.cap t.l ∧ (Lit.int .i64 t.k).wf = true := by
  obtain ⟨cs, rfl, hsz⟩ := okWide_struct Try.underlying38 hv
  have hC : Try.prog.cellsOf 38 = 2 := by kernel_rfl
  have hC1 : Try.prog.cellsOf 30 = 1 := by kernel_rfl
  have hC2 : Try.prog.cellsOf 3 = 1 := by kernel_rfl
  rw [hC] at hsz
  obtain ⟨l⟩ := cs
  match l, hsz with
  | [c0, c1], _ =>
    obtain ⟨fuel, hf⟩ := h
    obtain ⟨y0, y1, n, _, _, h0, h1⟩ := trod_struct2 Try.underlying38 hf
    simp only [Value.cells] at h0 h1
    simp [hC1, hC2] at h0 h1
    obtain ⟨s, n, cap, l, rfl, hl⟩ := slice_cellR h0
    obtain ⟨k, e1, _, wk⟩ := DataW.trod_int Try.underlying3 h1
    simp at e1
    subst e1
    exact ⟨⟨s, n, cap, l, k⟩, rfl, hl, wk⟩
/-- A slice of ints that came in: it has no element; or it leads to a row of cells, of which the first n are known. -/
def IsInts (w : World) (s : Option Addr) (n cap : Nat) (l : Nat → Int) : Prop :=
  n ≤ cap ∧ (n = 0 ∨ ∃ b o, s = some ⟨b, o, none⟩ ∧ ∀ j, j < n → w.cell? ⟨b, o + j, none⟩ = some (.int .i64 (l j)))

theorem rows_ints {H : Type} {enc : TypeId × Value → H} {W : World} {s : Option Addr} {len cap : Nat} {d : DataW H} {p : List MemPlace} {base : Nat} {spare : Nat → Bool} {held : Bool}
    (h : DataW.Trod enc Try.prog W base spare held 39 (.slice s len cap) d p) : ∃ l, IsInts W s len cap l := by
  obtain ⟨fuel, hf⟩ := h
  rcases open_ints Try.underlying39 Try.underlying3 (by kernel_rfl) hf with ⟨hcs, _⟩ | ⟨x, l, c, zs, hcs, _, hl, hm, hz, _, hcell, hwz⟩
  · simp [Value.cells] at hcs
    obtain ⟨rfl, rfl, rfl⟩ := hcs
    exact ⟨fun _ => 0, Nat.le_refl _, .inl rfl⟩
  · simp [Value.cells] at hcs
    obtain ⟨rfl, rfl, rfl⟩ := hcs
    refine ⟨fun j => zs.getD j 0, hl, ?_⟩
    by_cases h0 : len = 0
    · exact .inl h0
    · right
      have hz' : len ≤ zs.length := by rw [hz]; split <;> omega
      have hc := hcell 0 (by omega)
      obtain ⟨b, off, spot⟩ := x
      have hspot : spot = none := by simpa [Addr.add] using World.cell?_spot hc
      subst hspot
      refine ⟨b, off, rfl, fun j hj => ?_⟩
      have := hcell j (by omega)
      have e : (Addr.mk b off none).add j = ⟨b, off + j, none⟩ := by cases j <;> rfl
      rwa [e] at this

end Go.Proofs.Ythkkjhjbojbbaaa
