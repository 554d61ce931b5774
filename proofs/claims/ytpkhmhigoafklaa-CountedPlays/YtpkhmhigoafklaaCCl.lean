/-
  What counted's Clone does to the world: the same numbers, in a map of its own behind a pointer of its own; what was there stays as it was.
-/
import Derived.Test.YtpkhmhigoafklaaCSet
import Derived.Shelf.SlMaps.Clone
namespace Go.Proofs.Ytpkhmhigoafklaa
set_option maxRecDepth 100000
open Go.RowKit
set_option linter.unusedVariables false
set_option linter.unusedSimpArgs false

set_option maxHeartbeats 2000000 in
theorem mapsClone_any (b : Nat) (es : Array MapEntry) (clock : Nat) (w : World) (hb : w.heap[b]? = some (.map es clock)) :
    Calls Try.prog 23 #[.map (some b)] w fun e w' => e = .returned (.map (some w.heap.size)) ∧ w' = w.alloc (.map es clock) := by
  have hq := mapNil b
  go_enter Try.func23, Try.ntmps23
  go_wp2
  rw [run_callFunc_extern Try.func35 (by kernel_rfl) (by kernel_rfl) (by kernel_rfl) (e := Extern.MapsClone.clone) (by kernel_rfl), run_maps_clone_sl w 49 hb]
  simp only [Result.andThen]
  rw [Oper.upon_value]
  go_wp2
  rw [run_typeAssert_map_sl _ 49 _ _ _ _ Try.underlying49]
  simp only [Result.andThen]
  rw [Oper.upon_value]
  go_wp2
  go_ret
  exact ⟨rfl, rfl⟩

theorem MapR.twin {w : World} {b : Nat} {s : Cs} {es : Array MapEntry} {clock : Nat} (h : MapR w b s) (hb : w.heap[b]? = some (.map es clock)) : MapR (w.alloc (.map es clock)) w.heap.size s := by
  obtain ⟨D, ⟨es', clock', hb', r⟩, h2⟩ := h
  rw [hb] at hb'
  cases hb'
  exact ⟨D, ⟨es, clock, (MapKept.heap_alloc w _).1, r⟩, h2⟩

set_option maxHeartbeats 2000000 in
theorem clone_any (p b : Nat) (s : Cs) (w : World) (hR : RepC w p b s) :
    Calls Try.prog 11 #[.pointer (some ⟨p, 0, none⟩)] w fun e w' => ∃ p' b', e = .returned (.pointer (some ⟨p', 0, none⟩)) ∧ Grow w w' ∧ RepC w' p' b' s ∧ w.heap.size ≤ p' ∧ w.heap.size ≤ b' := by
  have hc := hR.cell
  have hpl := hR.lt
  obtain ⟨es, clock, hb⟩ : ∃ es clock, w.heap[b]? = some (.map es clock) := by
    obtain ⟨D, ⟨es, clock, hb, _⟩, _⟩ := hR.map
    exact ⟨es, clock, hb⟩
  have HM := hide (hR.map.twin hb)
  have HB := hide hb
  clear hR hb
  go_enter Try.func11, Try.ntmps11
  go_wp2_with fail
  refine (mapsClone_any b es clock w HB.out).mono ?_
  rintro e w1 ⟨rfl, rfl⟩
  have G1 := hide (Grow.alloc' w (.map es clock))
  go_wp2
  go_ret
  refine ⟨_, w.heap.size, rfl, Grow.trans' G1.out (Grow.alloc' _ _), ⟨by simp [go_sem], HM.out.later (Grow.alloc' _ _)⟩, by simp; try omega, Nat.le_refl _⟩

end Go.Proofs.Ytpkhmhigoafklaa
