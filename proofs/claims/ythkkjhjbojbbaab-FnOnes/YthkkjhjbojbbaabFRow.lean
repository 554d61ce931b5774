/-
  How two numbers in an array, a row of records with a number, and a row of numbers, that come in as arguments, are opened: the value written out.
-/
import Derived.Test.YthkkjhjbojbbaabGRow
namespace Go.Proofs.Ythkkjhjbojbbaab
set_option maxRecDepth 100000
open Go.ChangeShapes Go.WideShapes Go.ChangeAt Go.RowKit Go.Deep
set_option linter.unusedVariables false

/-- A slice of ints that came in: it has no element; or it leads to a row of cells, of which the first n are known. -/
def IsInts (w : World) (s : Option Addr) (n cap : Nat) (l : Nat → Int) : Prop :=
  n ≤ cap ∧ (n = 0 ∨ ∃ b o, s = some ⟨b, o, none⟩ ∧ ∀ j, j < n → w.cell? ⟨b, o + j, none⟩ = some (.int .i64 (l j)))

theorem rows_ints {H : Type} {enc : TypeId × Value → H} {W : World} {s : Option Addr} {len cap : Nat} {d : DataW H} {p : List MemPlace} {base : Nat} {spare : Nat → Bool} {held : Bool}
    (h : DataW.Trod enc Try.prog W base spare held 22 (.slice s len cap) d p) : ∃ l, IsInts W s len cap l := by
  obtain ⟨fuel, hf⟩ := h
  rcases open_ints Try.underlying22 Try.underlying3 (by kernel_rfl) hf with ⟨hcs, _⟩ | ⟨x, l, c, zs, hcs, _, hl, hm, hz, _, hcell, hwz⟩
  · simp [Value.cells] at hcs
    obtain ⟨rfl, rfl, rfl⟩ := hcs
    exact ⟨fun _ => 0, Nat.le_refl _, .inl rfl⟩
  · simp [Value.cells] at hcs
    obtain ⟨rfl, rfl, rfl⟩ := hcs
    refine ⟨fun j => zs.getD j 0, hl, ?_⟩
    by_cases h0 : len = 0
    · exact .inl h0
    · right
      have hz' : len ≤ zs.length := by rw [hz]; split <;> omega
      have hc := hcell 0 (by omega)
      obtain ⟨b, off, spot⟩ := x
      have hspot : spot = none := by simpa [Addr.add] using World.cell?_spot hc
      subst hspot
      refine ⟨b, off, rfl, fun j hj => ?_⟩
      have := hcell j (by omega)
      have e : (Addr.mk b off none).add j = ⟨b, off + j, none⟩ := by cases j <;> rfl
      rwa [e] at this

end Go.Proofs.Ythkkjhjbojbbaab
