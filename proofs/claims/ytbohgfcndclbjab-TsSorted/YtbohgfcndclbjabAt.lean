/-
  What ts.At and the document's own At do to the world: for every epoch and every row of counters each returns its plain answer, and what was there stays as it was.
-/
import Derived.Test.YtbohgfcndclbjabBase
import Derived.Laws.IdiomCopy
namespace Go.Proofs.Ytbohgfcndclbjab
open Go.RowKit

/-- The time of an epoch with n counters, of which l tells. -/
def atT (ep : Int) (n : Nat) (l : Nat → Int) : Tm := ⟨ep, if n < 3 then n else 3, if 0 < n then l 0 else 0, if 1 < n then l 1 else 0, if 2 < n then l 2 else 0⟩

theorem copy1 (w : World) (ep : Int) (b o : Nat) (n cap : Nat) (l : Nat → Int) (hn : n = 1) (hc : ∀ j, j < n → w.cell? ⟨b, o + j, none⟩ = some (.int .i64 (l j))) (ty : TypeId) :
    (Builtin.copy_ #[40, 40] ty #[.slice (some ⟨w.heap.size + 1, 2, none⟩) 3 3, .slice (some ⟨b, o, none⟩) n cap]).run Try.prog
      ((w.alloc (.cells #[.int .i64 0, .int .i64 0, .int .i64 0, .int .i64 0, .int .i64 0] 24)).alloc (.cells #[.int .i64 ep, .int .i64 0, .int .i64 0, .int .i64 0, .int .i64 0] 24))
      = .ok (.int .i64 1) ((w.alloc (.cells #[.int .i64 0, .int .i64 0, .int .i64 0, .int .i64 0, .int .i64 0] 24)).alloc (.cells #[.int .i64 ep, .int .i64 0, .int .i64 (l 0), .int .i64 0, .int .i64 0] 24)) := by
  have hb : Below w.heap.size w ((w.alloc (.cells #[.int .i64 0, .int .i64 0, .int .i64 0, .int .i64 0, .int .i64 0] 24)).alloc (.cells #[.int .i64 ep, .int .i64 0, .int .i64 0, .int .i64 0, .int .i64 0] 24)) :=
    ((Below.refl _ _).alloc (Nat.le_refl _) _).alloc (by simp) _
  have h := run_copy_cells (P := Try.prog) ((w.alloc (.cells #[.int .i64 0, .int .i64 0, .int .i64 0, .int .i64 0, .int .i64 0] 24)).alloc (.cells #[.int .i64 ep, .int .i64 0, .int .i64 0, .int .i64 0, .int .i64 0] 24))
    40 40 ty 3 (w.heap.size + 1) 2 3 3 ⟨b, o, none⟩ n cap [.int .i64 (l 0)] Try.underlying40 (by kernel_rfl) (by simp only [Nat.min_def, List.length_cons, List.length_nil]; split <;> omega)
    (fun j v hj => by
      have hj' : j < 1 := by
        by_cases h : j < 1
        · exact h
        · rw [List.getElem?_eq_none (by simp; omega)] at hj; cases hj
      refine cell_later hb ?_
      have e : (Addr.mk b o none).add j = ⟨b, o + j, none⟩ := by
        cases j <;> rfl
      rw [e, hc j (by omega)]
      have : j = 0 ∨ j = 1 ∨ j = 2 := by omega
      rcases this with rfl | rfl | rfl <;> simp at hj hj' ⊢ <;> exact hj)
    (fun j hj => by
      have : j = 0 ∨ j = 1 ∨ j = 2 := by simp at hj; omega
      rcases this with rfl | rfl | rfl <;> simp [go_sem])
    (fun j hj => by
      have : j = 0 ∨ j = 1 ∨ j = 2 := by simp at hj; omega
      rcases this with rfl | rfl | rfl <;> simp [go_sem])
    (by simp [Value.oneCell'])
  rw [h]
  simp [World.setCells, go_sem, goInt]
theorem copy2 (w : World) (ep : Int) (b o : Nat) (n cap : Nat) (l : Nat → Int) (hn : n = 2) (hc : ∀ j, j < n → w.cell? ⟨b, o + j, none⟩ = some (.int .i64 (l j))) (ty : TypeId) :
    (Builtin.copy_ #[40, 40] ty #[.slice (some ⟨w.heap.size + 1, 2, none⟩) 3 3, .slice (some ⟨b, o, none⟩) n cap]).run Try.prog
      ((w.alloc (.cells #[.int .i64 0, .int .i64 0, .int .i64 0, .int .i64 0, .int .i64 0] 24)).alloc (.cells #[.int .i64 ep, .int .i64 0, .int .i64 0, .int .i64 0, .int .i64 0] 24))
      = .ok (.int .i64 2) ((w.alloc (.cells #[.int .i64 0, .int .i64 0, .int .i64 0, .int .i64 0, .int .i64 0] 24)).alloc (.cells #[.int .i64 ep, .int .i64 0, .int .i64 (l 0), .int .i64 (l 1), .int .i64 0] 24)) := by
  have hb : Below w.heap.size w ((w.alloc (.cells #[.int .i64 0, .int .i64 0, .int .i64 0, .int .i64 0, .int .i64 0] 24)).alloc (.cells #[.int .i64 ep, .int .i64 0, .int .i64 0, .int .i64 0, .int .i64 0] 24)) :=
    ((Below.refl _ _).alloc (Nat.le_refl _) _).alloc (by simp) _
  have h := run_copy_cells (P := Try.prog) ((w.alloc (.cells #[.int .i64 0, .int .i64 0, .int .i64 0, .int .i64 0, .int .i64 0] 24)).alloc (.cells #[.int .i64 ep, .int .i64 0, .int .i64 0, .int .i64 0, .int .i64 0] 24))
    40 40 ty 3 (w.heap.size + 1) 2 3 3 ⟨b, o, none⟩ n cap [.int .i64 (l 0), .int .i64 (l 1)] Try.underlying40 (by kernel_rfl) (by simp only [Nat.min_def, List.length_cons, List.length_nil]; split <;> omega)
    (fun j v hj => by
      have hj' : j < 2 := by
        by_cases h : j < 2
        · exact h
        · rw [List.getElem?_eq_none (by simp; omega)] at hj; cases hj
      refine cell_later hb ?_
      have e : (Addr.mk b o none).add j = ⟨b, o + j, none⟩ := by
        cases j <;> rfl
      rw [e, hc j (by omega)]
      have : j = 0 ∨ j = 1 ∨ j = 2 := by omega
      rcases this with rfl | rfl | rfl <;> simp at hj hj' ⊢ <;> exact hj)
    (fun j hj => by
      have : j = 0 ∨ j = 1 ∨ j = 2 := by simp at hj; omega
      rcases this with rfl | rfl | rfl <;> simp [go_sem])
    (fun j hj => by
      have : j = 0 ∨ j = 1 ∨ j = 2 := by simp at hj; omega
      rcases this with rfl | rfl | rfl <;> simp [go_sem])
    (by simp [Value.oneCell'])
  rw [h]
  simp [World.setCells, go_sem, goInt]
theorem copy3 (w : World) (ep : Int) (b o : Nat) (n cap : Nat) (l : Nat → Int) (hn : 3 ≤ n) (hc : ∀ j, j < n → w.cell? ⟨b, o + j, none⟩ = some (.int .i64 (l j))) (ty : TypeId) :
    (Builtin.copy_ #[40, 40] ty #[.slice (some ⟨w.heap.size + 1, 2, none⟩) 3 3, .slice (some ⟨b, o, none⟩) n cap]).run Try.prog
      ((w.alloc (.cells #[.int .i64 0, .int .i64 0, .int .i64 0, .int .i64 0, .int .i64 0] 24)).alloc (.cells #[.int .i64 ep, .int .i64 0, .int .i64 0, .int .i64 0, .int .i64 0] 24))
      = .ok (.int .i64 3) ((w.alloc (.cells #[.int .i64 0, .int .i64 0, .int .i64 0, .int .i64 0, .int .i64 0] 24)).alloc (.cells #[.int .i64 ep, .int .i64 0, .int .i64 (l 0), .int .i64 (l 1), .int .i64 (l 2)] 24)) := by
  have hb : Below w.heap.size w ((w.alloc (.cells #[.int .i64 0, .int .i64 0, .int .i64 0, .int .i64 0, .int .i64 0] 24)).alloc (.cells #[.int .i64 ep, .int .i64 0, .int .i64 0, .int .i64 0, .int .i64 0] 24)) :=
    ((Below.refl _ _).alloc (Nat.le_refl _) _).alloc (by simp) _
  have h := run_copy_cells (P := Try.prog) ((w.alloc (.cells #[.int .i64 0, .int .i64 0, .int .i64 0, .int .i64 0, .int .i64 0] 24)).alloc (.cells #[.int .i64 ep, .int .i64 0, .int .i64 0, .int .i64 0, .int .i64 0] 24))
    40 40 ty 3 (w.heap.size + 1) 2 3 3 ⟨b, o, none⟩ n cap [.int .i64 (l 0), .int .i64 (l 1), .int .i64 (l 2)] Try.underlying40 (by kernel_rfl) (by simp only [Nat.min_def, List.length_cons, List.length_nil]; split <;> omega)
    (fun j v hj => by
      have hj' : j < 3 := by
        by_cases h : j < 3
        · exact h
        · rw [List.getElem?_eq_none (by simp; omega)] at hj; cases hj
      refine cell_later hb ?_
      have e : (Addr.mk b o none).add j = ⟨b, o + j, none⟩ := by
        cases j <;> rfl
      rw [e, hc j (by omega)]
      have : j = 0 ∨ j = 1 ∨ j = 2 := by omega
      rcases this with rfl | rfl | rfl <;> simp at hj hj' ⊢ <;> exact hj)
    (fun j hj => by
      have : j = 0 ∨ j = 1 ∨ j = 2 := by simp at hj; omega
      rcases this with rfl | rfl | rfl <;> simp [go_sem])
    (fun j hj => by
      have : j = 0 ∨ j = 1 ∨ j = 2 := by simp at hj; omega
      rcases this with rfl | rfl | rfl <;> simp [go_sem])
    (by simp [Value.oneCell'])
  rw [h]
  simp [World.setCells, go_sem, goInt]

/-- The three counters of a row: which number of them is told. -/
theorem copy0 (w : World) (ad : Option Addr) (b : Nat) (cap : Nat) (ty : TypeId) :
    (Builtin.copy_ #[40, 40] ty #[.slice (some ⟨b, 2, none⟩) 3 3, .slice ad 0 cap]).run Try.prog w = .ok (.int .i64 0) w :=
  run_copy_none (P := Try.prog) w 40 40 ty 3 _ _ 3 3 0 cap Try.underlying40 (by kernel_rfl) (by simp)

set_option maxHeartbeats 400000 in
theorem at_none (ep : Int) (ad : Option Addr) (cap : Nat) (l : Nat → Int) (w : World) :
    Calls Try.prog 12 #[.int .i64 ep, .slice ad 0 cap] w fun e w' => e = .returned (.agg #[.int .i64 (atT ep 0 l).e, .int .i64 (atT ep 0 l).d, .int .i64 (atT ep 0 l).x, .int .i64 (atT ep 0 l).y, .int .i64 (atT ep 0 l).z]) ∧ Below w.heap.size w w' := by
  have hr := fun w b ty => copy0 w ad b cap ty
  go_enter Try.func12, Try.ntmps12
  go_wp2
  clear hr
  refine bodyPost_ret (v := .agg #[.int .i64 (atT ep 0 l).e, .int .i64 (atT ep 0 l).d, .int .i64 (atT ep 0 l).x, .int .i64 (atT ep 0 l).y, .int .i64 (atT ep 0 l).z]) (by simp [results, Try.results12, go_sem, atT]) rfl ⟨rfl, ?_⟩
  repeat (first | exact Below.refl _ _ | apply below_drewN | apply Below.drew | refine Below.alloc ?_ (by simp; try omega) _)

set_option maxHeartbeats 400000 in
theorem at_1 (ep : Int) (b o : Nat) (n cap : Nat) (l : Nat → Int) (w : World) (hn : n = 1) (hc : ∀ j, j < n → w.cell? ⟨b, o + j, none⟩ = some (.int .i64 (l j))) :
    Calls Try.prog 12 #[.int .i64 ep, .slice (some ⟨b, o, none⟩) n cap] w fun e w' => e = .returned (.agg #[.int .i64 (atT ep n l).e, .int .i64 (atT ep n l).d, .int .i64 (atT ep n l).x, .int .i64 (atT ep n l).y, .int .i64 (atT ep n l).z]) ∧ Below w.heap.size w w' := by
  have hr := fun ty => copy1 w ep b o n cap l hn hc ty
  have hn' := hide hn
  clear hc hn
  go_enter Try.func12, Try.ntmps12
  go_wp2
  clear hr
  have hn := hn'.out
  refine bodyPost_ret (v := .agg #[.int .i64 (atT ep n l).e, .int .i64 (atT ep n l).d, .int .i64 (atT ep n l).x, .int .i64 (atT ep n l).y, .int .i64 (atT ep n l).z]) ?_ rfl ⟨rfl, ?_⟩
  · simp [results, Try.results12, go_sem, atT, hn]
    try omega
  repeat (first | exact Below.refl _ _ | apply below_drewN | apply Below.drew | refine Below.alloc ?_ (by simp; try omega) _)
set_option maxHeartbeats 400000 in
theorem at_2 (ep : Int) (b o : Nat) (n cap : Nat) (l : Nat → Int) (w : World) (hn : n = 2) (hc : ∀ j, j < n → w.cell? ⟨b, o + j, none⟩ = some (.int .i64 (l j))) :
    Calls Try.prog 12 #[.int .i64 ep, .slice (some ⟨b, o, none⟩) n cap] w fun e w' => e = .returned (.agg #[.int .i64 (atT ep n l).e, .int .i64 (atT ep n l).d, .int .i64 (atT ep n l).x, .int .i64 (atT ep n l).y, .int .i64 (atT ep n l).z]) ∧ Below w.heap.size w w' := by
  have hr := fun ty => copy2 w ep b o n cap l hn hc ty
  have hn' := hide hn
  clear hc hn
  go_enter Try.func12, Try.ntmps12
  go_wp2
  clear hr
  have hn := hn'.out
  refine bodyPost_ret (v := .agg #[.int .i64 (atT ep n l).e, .int .i64 (atT ep n l).d, .int .i64 (atT ep n l).x, .int .i64 (atT ep n l).y, .int .i64 (atT ep n l).z]) ?_ rfl ⟨rfl, ?_⟩
  · simp [results, Try.results12, go_sem, atT, hn]
    try omega
  repeat (first | exact Below.refl _ _ | apply below_drewN | apply Below.drew | refine Below.alloc ?_ (by simp; try omega) _)
set_option maxHeartbeats 400000 in
theorem at_3 (ep : Int) (b o : Nat) (n cap : Nat) (l : Nat → Int) (w : World) (hn : 3 ≤ n) (hc : ∀ j, j < n → w.cell? ⟨b, o + j, none⟩ = some (.int .i64 (l j))) :
    Calls Try.prog 12 #[.int .i64 ep, .slice (some ⟨b, o, none⟩) n cap] w fun e w' => e = .returned (.agg #[.int .i64 (atT ep n l).e, .int .i64 (atT ep n l).d, .int .i64 (atT ep n l).x, .int .i64 (atT ep n l).y, .int .i64 (atT ep n l).z]) ∧ Below w.heap.size w w' := by
  have hr := fun ty => copy3 w ep b o n cap l hn hc ty
  have hn' := hide hn
  clear hc hn
  go_enter Try.func12, Try.ntmps12
  go_wp2
  clear hr
  have hn := hn'.out
  refine bodyPost_ret (v := .agg #[.int .i64 (atT ep n l).e, .int .i64 (atT ep n l).d, .int .i64 (atT ep n l).x, .int .i64 (atT ep n l).y, .int .i64 (atT ep n l).z]) ?_ rfl ⟨rfl, ?_⟩
  · simp [results, Try.results12, go_sem, atT]
    try omega
  repeat (first | exact Below.refl _ _ | apply below_drewN | apply Below.drew | refine Below.alloc ?_ (by simp; try omega) _)

theorem at_some (ep : Int) (b o : Nat) (n cap : Nat) (l : Nat → Int) (w : World) (hn : 0 < n) (hc : ∀ j, j < n → w.cell? ⟨b, o + j, none⟩ = some (.int .i64 (l j))) :
    Calls Try.prog 12 #[.int .i64 ep, .slice (some ⟨b, o, none⟩) n cap] w fun e w' => e = .returned (.agg #[.int .i64 (atT ep n l).e, .int .i64 (atT ep n l).d, .int .i64 (atT ep n l).x, .int .i64 (atT ep n l).y, .int .i64 (atT ep n l).z]) ∧ Below w.heap.size w w' := by
  by_cases h1 : n = 1
  · exact at_1 ep b o n cap l w h1 hc
  · by_cases h2 : n = 2
    · exact at_2 ep b o n cap l w h2 hc
    · exact at_3 ep b o n cap l w (by omega) hc


end Go.Proofs.Ytbohgfcndclbjab
