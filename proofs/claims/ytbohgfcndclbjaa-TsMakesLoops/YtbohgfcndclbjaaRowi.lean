/-
  How a row of numbers, and an array of three, that come in as arguments are opened.
-/
import Derived.Test.YtbohgfcndclbjaaRowk
namespace Go.Proofs.Ytbohgfcndclbjaa
open Go.ChangeShapes Go.WideShapes Go.ChangeAt Go.RowKit Go.Deep

/-- A slice of ints that came in: it has no element; or it leads to a row of cells, of which the first n are known. -/
def IsInts (w : World) (s : Option Addr) (n cap : Nat) (l : Nat → Int) : Prop :=
  n ≤ cap ∧ (n = 0 ∨ ∃ b o, s = some ⟨b, o, none⟩ ∧ ∀ j, j < n → w.cell? ⟨b, o + j, none⟩ = some (.int .i64 (l j)))

theorem rows_ints {H : Type} {enc : TypeId × Value → H} {W : World} {s : Option Addr} {len cap : Nat} {d : DataW H} {p : List MemPlace} {base : Nat} {spare : Nat → Bool} {held : Bool}
    (h : DataW.Trod enc Try.prog W base spare held 22 (.slice s len cap) d p) : ∃ l, IsInts W s len cap l := by
  obtain ⟨fuel, hf⟩ := h
  rcases open_ints Try.underlying22 Try.underlying3 (by kernel_rfl) hf with ⟨hcs, _⟩ | ⟨x, l, c, zs, hcs, _, hl, hm, hz, _, hcell, hwz⟩
  · simp [Value.cells] at hcs
    obtain ⟨rfl, rfl, rfl⟩ := hcs
    exact ⟨fun _ => 0, Nat.le_refl _, .inl rfl⟩
  · simp [Value.cells] at hcs
    obtain ⟨rfl, rfl, rfl⟩ := hcs
    refine ⟨fun j => zs.getD j 0, hl, ?_⟩
    by_cases h0 : len = 0
    · exact .inl h0
    · right
      have hz' : len ≤ zs.length := by rw [hz]; split <;> omega
      have hc := hcell 0 (by omega)
      obtain ⟨b, off, spot⟩ := x
      have hspot : spot = none := by simpa [Addr.add] using World.cell?_spot hc
      subst hspot
      refine ⟨b, off, rfl, fun j hj => ?_⟩
      have := hcell j (by omega)
      have e : (Addr.mk b off none).add j = ⟨b, off + j, none⟩ := by cases j <;> rfl
      rwa [e] at this

theorem open_arr3 {H : Type} {enc : TypeId × Value → H} {W : World} {r : Reach} {b0 : Nat} {v : Value} {d : DataW H} {p : List MemPlace} {base : Nat} {spare : Nat → Bool} {held : Bool}
    (hv : Value.okWide Try.prog W r b0 23 v) (h : DataW.Trod enc Try.prog W base spare held 23 v d p) : ∃ t : Int × Int × Int, v = .agg #[.int .i64 t.1, .int .i64 t.2.1, .int .i64 t.2.2] ∧ True := by
  have hCa : Try.prog.cellsOf 23 = 3 := by kernel_rfl
  have hC3 : Try.prog.cellsOf 3 = 1 := by kernel_rfl
  have ht := Try.underlying23
  simp only [Value.okWide, ht] at hv
  obtain ⟨cs, rfl, hsz, _⟩ := hv
  rw [hCa] at hsz
  obtain ⟨l⟩ := cs
  match l, hsz with
  | [c0, c1, c2], _ =>
    obtain ⟨fuel, hf⟩ := h
    obtain ⟨xs, m, _, _, _, hlen, hi⟩ := DataW.trod_array ht hf
    match xs, hlen with
    | [z0, z1, z2], _ =>
      have i0 := hi 0 (by omega)
      have i1 := hi 1 (by omega)
      have i2 := hi 2 (by omega)
      simp [hC3, Value.cells] at i0 i1 i2
      obtain ⟨x, e2, _, wx⟩ := DataW.trod_int Try.underlying3 i0
      obtain ⟨y, e3, _, wy⟩ := DataW.trod_int Try.underlying3 i1
      obtain ⟨z, e4, _, wz⟩ := DataW.trod_int Try.underlying3 i2
      simp at e2 e3 e4
      subst e2 e3 e4
      exact ⟨(x, y, z), rfl, trivial⟩

end Go.Proofs.Ytbohgfcndclbjaa
