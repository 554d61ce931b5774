/-
  How a row of times that comes in as an argument is opened.
-/
import Derived.Test.YtbohgfcndclbjabRowk
import Derived.Test.YtbohgfcndclbjabSrt
import Derived.Deep.Slices
namespace Go.Proofs.Ytbohgfcndclbjab
open Go.ChangeShapes Go.WideShapes Go.ChangeAt Go.RowKit Go.Deep
set_option linter.unusedVariables false

theorem tm_cells {H : Type} {enc : TypeId × Value → H} {W : World} {base : Nat} {spare : Nat → Bool} {held : Bool} {fuel : Nat} {cs : List Value} {y : DataW H × List MemPlace}
    (hf : DataW.trod enc Try.prog W base spare held fuel 24 cs = some y) : ∃ t : Tm, cs = encT t := by
  have hC : Try.prog.cellsOf 24 = 5 := by kernel_rfl
  have hC3 : Try.prog.cellsOf 3 = 1 := by kernel_rfl
  have hCa : Try.prog.cellsOf 22 = 3 := by kernel_rfl
  obtain ⟨y0, y1, y2, n, hx, hlen, h0, h1, h2⟩ := trod_struct3 Try.underlying24 hf
  rw [hC] at hlen
  match cs, hlen with
  | [c0, c1, c2, c3, c4], _ =>
    simp [hC3, hCa] at h0 h1 h2
    obtain ⟨e, e0, _, we⟩ := DataW.trod_int Try.underlying3 h0
    obtain ⟨d', e1, _, wd⟩ := DataW.trod_int Try.underlying3 h1
    obtain ⟨xs, m, _, _, _, hlen, hi⟩ := DataW.trod_array Try.underlying22 h2
    match xs, hlen with
    | [z0, z1, z2], _ =>
      have i0 := hi 0 (by omega)
      have i1 := hi 1 (by omega)
      have i2 := hi 2 (by omega)
      simp [hC3] at i0 i1 i2
      obtain ⟨x, e2, _, wx⟩ := DataW.trod_int Try.underlying3 i0
      obtain ⟨y, e3, _, wy⟩ := DataW.trod_int Try.underlying3 i1
      obtain ⟨z, e4, _, wz⟩ := DataW.trod_int Try.underlying3 i2
      simp at e0 e1 e2 e3 e4
      subst e0 e1 e2 e3 e4
      exact ⟨⟨e, d', x, y, z⟩, rfl⟩

/-- A slice of times that came in. -/
def IsTms (w : World) (s : Option Addr) (n cap : Nat) (d : List Tm) : Prop :=
  d.length = n ∧ n ≤ cap ∧ (d = [] ∨ ∃ b o, s = some ⟨b, o, none⟩ ∧ RowT w b o d)

theorem row_of_at {w : World} {b o : Nat} (f : Nat → Tm) (n : Nat) (h : ∀ i, i < n → ∀ j, j < 5 → w.cell? ⟨b, o + (i * 5 + j), none⟩ = (encT (f i))[j]?) : RowT w b o ((List.range n).map f) := by
  intro k v hk
  have hk' : k < n * 5 := by
    have := (List.getElem?_eq_some_iff.1 hk).1
    rw [flatT_len] at this
    simpa using this
  have e : k = k / 5 * 5 + k % 5 := by omega
  have h1 := flatT_get ((List.range n).map f) (k / 5) (k % 5) (by simp; omega) (by omega)
  rw [← e, hk] at h1
  have h2 := h (k / 5) (by omega) (k % 5) (by omega)
  rw [← e] at h2
  rw [h2, h1]
  simp

theorem rows_tms {H : Type} {enc : TypeId × Value → H} {W : World} {s : Option Addr} {len cap : Nat} {d : DataW H} {p : List MemPlace} {base : Nat} {spare : Nat → Bool} {held : Bool}
    (h : DataW.Trod enc Try.prog W base spare held 31 (.slice s len cap) d p) : ∃ l, IsTms W s len cap l := by
  have hC : Try.prog.cellsOf 24 = 5 := by kernel_rfl
  obtain ⟨fuel, hf⟩ := h
  rcases open_slice Try.underlying31 hf with ⟨hcs, _⟩ | ⟨a, l, c, m, n, D, Pl, hcs, _, hl, _, hm, _, hi⟩
  · simp [Value.cells] at hcs
    obtain ⟨rfl, rfl, rfl⟩ := hcs
    exact ⟨[], rfl, Nat.le_refl _, .inl rfl⟩
  · simp [Value.cells] at hcs
    obtain ⟨rfl, rfl, rfl⟩ := hcs
    have hlm : len ≤ m := by rw [hm]; split <;> omega
    by_cases h0 : len = 0
    · subst h0
      exact ⟨[], rfl, hl, .inl rfl⟩
    · rw [hC] at hi
      have key : ∀ i, i < len → ∃ t : Tm, ∀ j, j < 5 → W.cell? ((a.add (i * 5)).add j) = (encT t)[j]? := by
        intro i hi'
        obtain ⟨cs', h1, h2⟩ := hi i (by omega)
        obtain ⟨t, rfl⟩ := tm_cells h2
        refine ⟨t, fun j hj => ?_⟩
        exact (World.cells?_some h1).2.2 j (by omega)
      have hch : ∃ f : Nat → Tm, ∀ i, i < len → ∀ j, j < 5 → W.cell? ((a.add (i * 5)).add j) = (encT (f i))[j]? :=
        ⟨fun i => if h : i < len then (key i h).choose else ⟨0, 0, 0, 0, 0⟩, fun i hi' => by
          have := (key i hi').choose_spec
          simpa [hi'] using this⟩
      obtain ⟨f, hf'⟩ := hch
      have hc := hf' 0 (by omega) 0 (by omega)
      obtain ⟨b, off, spot⟩ := a
      have hspot : spot = none := by
        have h5 : W.cell? (⟨b, off, spot⟩ : Addr) = some (.int .i64 (f 0).e) := by simpa [Addr.add, encT] using hc
        simpa using World.cell?_spot h5
      subst hspot
      refine ⟨(List.range len).map f, by simp, hl, .inr ⟨b, off, rfl, row_of_at f len fun i hi' j hj => ?_⟩⟩
      have := hf' i hi' j hj
      rw [addr_add, addr_add] at this
      rw [← Nat.add_assoc]; exact this

end Go.Proofs.Ytbohgfcndclbjab
