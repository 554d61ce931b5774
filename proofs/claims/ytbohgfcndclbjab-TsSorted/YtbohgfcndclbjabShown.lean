/-
  What the law's own head does to the world: the document's examples hold, and what was there stays as it was.
-/
import Derived.Test.YtbohgfcndclbjabAt
import Derived.Test.YtbohgfcndclbjabLe
import Derived.Test.YtbohgfcndclbjabJn
import Derived.Test.YtbohgfcndclbjabInv
import Derived.Test.YtbohgfcndclbjabEq
namespace Go.Proofs.Ytbohgfcndclbjab
open Go.RowKit
attribute [local go_sem ↓] eqArr

theorem at2 (ep x y : Int) (b cap : Nat) (w : World) (h0 : w.cell? ⟨b, 0, none⟩ = some (.int .i64 x)) (h1 : w.cell? ⟨b, 1, none⟩ = some (.int .i64 y)) :
    Calls Try.prog 12 #[.int .i64 ep, .slice (some ⟨b, 0, none⟩) 2 cap] w fun e w' => e = .returned (.agg #[.int .i64 ep, .int .i64 2, .int .i64 x, .int .i64 y, .int .i64 0]) ∧ Below w.heap.size w w' := by
  have h := at_some ep b 0 2 cap (fun j => if j = 0 then x else y) w (by omega) (fun j hj => by
    have : j = 0 ∨ j = 1 := by omega
    rcases this with rfl | rfl
    · simpa using h0
    · simpa using h1)
  simpa [atT] using h

theorem le4 (e d x y e' d' x' y' : Int) (r : Bool) (hr : leB ⟨e, d, x, y, 0⟩ ⟨e', d', x', y', 0⟩ = r) (w : World) :
    Calls Try.prog 13 #[.agg #[.int .i64 e, .int .i64 d, .int .i64 x, .int .i64 y, .int .i64 0], .agg #[.int .i64 e', .int .i64 d', .int .i64 x', .int .i64 y', .int .i64 0]] w fun e w' => e = .returned (.bool r) ∧ Below w.heap.size w w' := by
  have h := lessEq_any ⟨e, d, x, y, 0⟩ ⟨e', d', x', y', 0⟩ w
  rw [hr] at h
  exact h

theorem jn0 (w : World) :
    Calls Try.prog 7 #[.agg #[.int .i64 3, .int .i64 2, .int .i64 1, .int .i64 5, .int .i64 0], .agg #[.int .i64 4, .int .i64 2, .int .i64 0, .int .i64 2, .int .i64 0]] w fun e w' => e = .returned (.tuple #[.agg #[.int .i64 4, .int .i64 2, .int .i64 1, .int .i64 5, .int .i64 0], .int .i64 0]) ∧ Below w.heap.size w w' :=
  join_yes ⟨3, 2, 1, 5, 0⟩ ⟨4, 2, 0, 2, 0⟩ w (by decide)


/-- A new slice of two numbers. -/
def IsSl (x y : Int) (v : Value) (w : World) : Prop := ∃ b, v = .slice (some ⟨b, 0, none⟩) 2 2 ∧ w.cell? ⟨b, 0, none⟩ = some (.int .i64 x) ∧ w.cell? ⟨b, 1, none⟩ = some (.int .i64 y)

theorem IsSl.later {x y : Int} {v : Value} {w w' : World} (hg : Grow w w') (h : IsSl x y v w) : IsSl x y v w' := by
  obtain ⟨b, e, c, d⟩ := h
  exact ⟨b, e, cell_later hg c, cell_later hg d⟩

set_option maxHeartbeats 4000000 in
theorem shown_any (w : World) :
    Calls Try.prog 5 #[] w fun e w' => e = .returned (.bool true) ∧ Below w.heap.size w w' := by
  go_enter Try.func5, Try.ntmps5
  go_wp2_with fail
  refine (at2 _ 1 5 _ _ _ (by simp [go_sem]) (by simp [go_sem])).mono ?_
  rintro e w1 ⟨rfl, hb1⟩
  go_wp2_with fail
  refine (at2 _ 0 2 _ _ _ (by simp [go_sem]) (by simp [go_sem])).mono ?_
  rintro e w2 ⟨rfl, hb2⟩
  go_wp2_with fail
  refine (jn0 _).mono ?_
  rintro e w3 ⟨rfl, hb3⟩
  go_wp2_with fail
  have hx : w3.heap.size < (w3.alloc (.cells #[.int .i64 4, .int .i64 2, .int .i64 1, .int .i64 5, .int .i64 0] 24)).heap.size := by simp
  refine wp_region_inv (fun i v w => match i with | 0 => IsSl 1 2 v w | 1 => v = .agg #[.int .i64 3, .int .i64 2, .int .i64 1, .int .i64 2, .int .i64 0] | 2 => IsSl 1 4 v w | 3 => v = .agg #[.int .i64 3, .int .i64 2, .int .i64 1, .int .i64 4, .int .i64 0] | 4 => v = .bool true | 5 => v = .bool true | 6 => IsSl 1 2 v w | 7 => v = .agg #[.int .i64 3, .int .i64 2, .int .i64 1, .int .i64 2, .int .i64 0] | 8 => IsSl 0 2 v w | 9 => v = .agg #[.int .i64 4, .int .i64 2, .int .i64 0, .int .i64 2, .int .i64 0] | 10 => v = .bool false | 11 => v = .bool true | 12 => v = .bool true | 13 => v = .bool true | 14 => v = .agg #[.int .i64 4, .int .i64 2, .int .i64 1, .int .i64 5, .int .i64 0] | 15 => IsSl 1 5 v w | 16 => v = .agg #[.int .i64 4, .int .i64 2, .int .i64 1, .int .i64 5, .int .i64 0] | 17 => v = .bool true | 18 => v = .bool true | 19 => v = .bool true | 20 => v = .pointer (some ⟨w3.heap.size, 1, none⟩) | 21 => v = .int .i64 2 | 22 => v = .bool true | 23 => v = .bool true | 24 => v = .bool true | 25 => v = .int .i64 0 | 26 => v = .bool true | 27 => v = .bool true | 28 => v = .bool true | _ => True) (by kernel_rfl) (by kernel_rfl) ?_ ?_ ?_
  · intro k v w1 w2 hg h
    match k with
    | 0 => exact IsSl.later hg h
    | 1 => exact h
    | 2 => exact IsSl.later hg h
    | 3 => exact h
    | 4 => exact h
    | 5 => exact h
    | 6 => exact IsSl.later hg h
    | 7 => exact h
    | 8 => exact IsSl.later hg h
    | 9 => exact h
    | 10 => exact h
    | 11 => exact h
    | 12 => exact h
    | 13 => exact h
    | 14 => exact h
    | 15 => exact IsSl.later hg h
    | 16 => exact h
    | 17 => exact h
    | 18 => exact h
    | 19 => exact h
    | 20 => exact h
    | 21 => exact h
    | 22 => exact h
    | 23 => exact h
    | 24 => exact h
    | 25 => exact h
    | 26 => exact h
    | 27 => exact h
    | 28 => exact h
    | k + 29 => exact trivial
  · refine ⟨?_, ?_, ?_, ?_, ?_, ?_, ?_, ?_, ?_, ?_, ?_, ?_, ?_, ?_, ?_, ?_, ?_, ?_, ?_, ?_, ?_, ?_, ?_, ?_, ?_, ?_, ?_, ?_, ?_, trivial⟩
    · refine stepOne_run trivial ?_
      intro a' w' hg hs hd
      have ec : ∀ v, a'.eval (.const v) = v := fun _ => rfl
      have ef : ∀ g, a'.eval (.func g) = .func (.func g) #[] #[] := fun _ => rfl
      clear hd hs
      refine wpv (v := .slice (some ⟨w'.heap.size, 0, none⟩) 2 2) (w' := w'.alloc (.cells #[.int .i64 1, .int .i64 2] 3)) ?_ ⟨_, rfl, ?_, ⟨w'.heap.size, rfl, ?_, ?_⟩⟩
      rotate_left
      · exact (Below.refl _ _).alloc (Nat.le_refl _) (.cells #[.int .i64 1, .int .i64 2] 3)
      · simp [go_sem]
      · simp [go_sem]
      · (generalize a'.eval = ev at ec ef ⊢; simp [execOp, go_sem, *])
    · refine stepOne_run trivial ?_
      intro a' w' hg hs hd
      obtain ⟨b11, e11, c11, d11⟩ : IsSl 1 2 (a'.eval (.tmp 11)) w' := hd ⟨0, Ground.data⟩ (by simp) rfl
      have ec : ∀ v, a'.eval (.const v) = v := fun _ => rfl
      have ef : ∀ g, a'.eval (.func g) = .func (.func g) #[] #[] := fun _ => rfl
      clear hd hs
      refine wpc ?_ (Calls.mono (at2 3 1 2 b11 2 w' c11 d11) fun e w2 ⟨he, hb⟩ => ⟨_, he, _, rfl, hb, rfl⟩)
      (generalize a'.eval = ev at ec ef e11 ⊢; simp [execOp, go_sem, *])
    · refine stepOne_run trivial ?_
      intro a' w' hg hs hd
      have ec : ∀ v, a'.eval (.const v) = v := fun _ => rfl
      have ef : ∀ g, a'.eval (.func g) = .func (.func g) #[] #[] := fun _ => rfl
      clear hd hs
      refine wpv (v := .slice (some ⟨w'.heap.size, 0, none⟩) 2 2) (w' := w'.alloc (.cells #[.int .i64 1, .int .i64 4] 3)) ?_ ⟨_, rfl, ?_, ⟨w'.heap.size, rfl, ?_, ?_⟩⟩
      rotate_left
      · exact (Below.refl _ _).alloc (Nat.le_refl _) (.cells #[.int .i64 1, .int .i64 4] 3)
      · simp [go_sem]
      · simp [go_sem]
      · (generalize a'.eval = ev at ec ef ⊢; simp [execOp, go_sem, *])
    · refine stepOne_run trivial ?_
      intro a' w' hg hs hd
      obtain ⟨b13, e13, c13, d13⟩ : IsSl 1 4 (a'.eval (.tmp 13)) w' := hd ⟨2, Ground.data⟩ (by simp) rfl
      have ec : ∀ v, a'.eval (.const v) = v := fun _ => rfl
      have ef : ∀ g, a'.eval (.func g) = .func (.func g) #[] #[] := fun _ => rfl
      clear hd hs
      refine wpc ?_ (Calls.mono (at2 3 1 4 b13 2 w' c13 d13) fun e w2 ⟨he, hb⟩ => ⟨_, he, _, rfl, hb, rfl⟩)
      (generalize a'.eval = ev at ec ef e13 ⊢; simp [execOp, go_sem, *])
    · refine stepOne_run trivial ?_
      intro a' w' hg hs hd
      have e12 : a'.eval (.tmp 12) = .agg #[.int .i64 3, .int .i64 2, .int .i64 1, .int .i64 2, .int .i64 0] := hd ⟨1, Ground.data⟩ (by simp) rfl
      have e14 : a'.eval (.tmp 14) = .agg #[.int .i64 3, .int .i64 2, .int .i64 1, .int .i64 4, .int .i64 0] := hd ⟨3, Ground.data⟩ (by simp) rfl
      have ec : ∀ v, a'.eval (.const v) = v := fun _ => rfl
      have ef : ∀ g, a'.eval (.func g) = .func (.func g) #[] #[] := fun _ => rfl
      clear hd hs
      refine wpc ?_ (Calls.mono (le4 3 2 1 2 3 2 1 4 true (by decide) w') fun e w2 ⟨he, hb⟩ => ⟨_, he, _, rfl, hb, rfl⟩)
      (generalize a'.eval = ev at ec ef e12 e14 ⊢; simp [execOp, go_sem, *])
    · refine stepOne_run trivial ?_
      intro a' w' hg hs hd
      have e15 : a'.eval (.tmp 15) = .bool true := hd ⟨4, Ground.data⟩ (by simp) rfl
      have ec : ∀ v, a'.eval (.const v) = v := fun _ => rfl
      have ef : ∀ g, a'.eval (.func g) = .func (.func g) #[] #[] := fun _ => rfl
      clear hd hs
      refine wpv (v := .bool true) ?_ ⟨_, rfl, Grow.rfl' _, rfl⟩
      (generalize a'.eval = ev at ec ef e15 ⊢; simp [execOp, go_sem, *])
    · refine stepOne_run ⟨⟨⟨5, Ground.guard⟩, by simp, rfl, rfl⟩, fun _ _ h => h⟩ ?_
      intro a' w' hg hs hd
      have ec : ∀ v, a'.eval (.const v) = v := fun _ => rfl
      have ef : ∀ g, a'.eval (.func g) = .func (.func g) #[] #[] := fun _ => rfl
      clear hd hs
      refine wpv (v := .slice (some ⟨w'.heap.size, 0, none⟩) 2 2) (w' := w'.alloc (.cells #[.int .i64 1, .int .i64 2] 3)) ?_ ⟨_, rfl, ?_, ⟨w'.heap.size, rfl, ?_, ?_⟩⟩
      rotate_left
      · exact (Below.refl _ _).alloc (Nat.le_refl _) (.cells #[.int .i64 1, .int .i64 2] 3)
      · simp [go_sem]
      · simp [go_sem]
      · (generalize a'.eval = ev at ec ef ⊢; simp [execOp, go_sem, *])
    · refine stepOne_run ⟨⟨⟨5, Ground.chain⟩, by simp, rfl, rfl⟩, fun _ _ h => h⟩ ?_
      intro a' w' hg hs hd
      obtain ⟨b17, e17, c17, d17⟩ : IsSl 1 2 (a'.eval (.tmp 17)) w' := hd ⟨6, Ground.data⟩ (by simp) rfl
      have ec : ∀ v, a'.eval (.const v) = v := fun _ => rfl
      have ef : ∀ g, a'.eval (.func g) = .func (.func g) #[] #[] := fun _ => rfl
      clear hd hs
      refine wpc ?_ (Calls.mono (at2 3 1 2 b17 2 w' c17 d17) fun e w2 ⟨he, hb⟩ => ⟨_, he, _, rfl, hb, rfl⟩)
      (generalize a'.eval = ev at ec ef e17 ⊢; simp [execOp, go_sem, *])
    · refine stepOne_run ⟨⟨⟨5, Ground.guard⟩, by simp, rfl, rfl⟩, fun _ _ h => h⟩ ?_
      intro a' w' hg hs hd
      have ec : ∀ v, a'.eval (.const v) = v := fun _ => rfl
      have ef : ∀ g, a'.eval (.func g) = .func (.func g) #[] #[] := fun _ => rfl
      clear hd hs
      refine wpv (v := .slice (some ⟨w'.heap.size, 0, none⟩) 2 2) (w' := w'.alloc (.cells #[.int .i64 0, .int .i64 2] 3)) ?_ ⟨_, rfl, ?_, ⟨w'.heap.size, rfl, ?_, ?_⟩⟩
      rotate_left
      · exact (Below.refl _ _).alloc (Nat.le_refl _) (.cells #[.int .i64 0, .int .i64 2] 3)
      · simp [go_sem]
      · simp [go_sem]
      · (generalize a'.eval = ev at ec ef ⊢; simp [execOp, go_sem, *])
    · refine stepOne_run ⟨⟨⟨5, Ground.guard⟩, by simp, rfl, rfl⟩, fun _ _ h => h⟩ ?_
      intro a' w' hg hs hd
      obtain ⟨b19, e19, c19, d19⟩ : IsSl 0 2 (a'.eval (.tmp 19)) w' := hd ⟨8, Ground.data⟩ (by simp) rfl
      have ec : ∀ v, a'.eval (.const v) = v := fun _ => rfl
      have ef : ∀ g, a'.eval (.func g) = .func (.func g) #[] #[] := fun _ => rfl
      clear hd hs
      refine wpc ?_ (Calls.mono (at2 4 0 2 b19 2 w' c19 d19) fun e w2 ⟨he, hb⟩ => ⟨_, he, _, rfl, hb, rfl⟩)
      (generalize a'.eval = ev at ec ef e19 ⊢; simp [execOp, go_sem, *])
    · refine stepOne_run ⟨⟨⟨5, Ground.guard⟩, by simp, rfl, rfl⟩, fun _ _ h => h⟩ ?_
      intro a' w' hg hs hd
      have e18 : a'.eval (.tmp 18) = .agg #[.int .i64 3, .int .i64 2, .int .i64 1, .int .i64 2, .int .i64 0] := hd ⟨7, Ground.data⟩ (by simp) rfl
      have e20 : a'.eval (.tmp 20) = .agg #[.int .i64 4, .int .i64 2, .int .i64 0, .int .i64 2, .int .i64 0] := hd ⟨9, Ground.data⟩ (by simp) rfl
      have ec : ∀ v, a'.eval (.const v) = v := fun _ => rfl
      have ef : ∀ g, a'.eval (.func g) = .func (.func g) #[] #[] := fun _ => rfl
      clear hd hs
      refine wpc ?_ (Calls.mono (le4 3 2 1 2 4 2 0 2 false (by decide) w') fun e w2 ⟨he, hb⟩ => ⟨_, he, _, rfl, hb, rfl⟩)
      (generalize a'.eval = ev at ec ef e18 e20 ⊢; simp [execOp, go_sem, *])
    · refine stepOne_run ⟨⟨⟨5, Ground.guard⟩, by simp, rfl, rfl⟩, fun _ _ h => h⟩ ?_
      intro a' w' hg hs hd
      have e21 : a'.eval (.tmp 21) = .bool false := hd ⟨10, Ground.data⟩ (by simp) rfl
      have ec : ∀ v, a'.eval (.const v) = v := fun _ => rfl
      have ef : ∀ g, a'.eval (.func g) = .func (.func g) #[] #[] := fun _ => rfl
      clear hd hs
      refine wpv (v := .bool true) ?_ ⟨_, rfl, Grow.rfl' _, rfl⟩
      (generalize a'.eval = ev at ec ef e21 ⊢; simp [execOp, go_sem, *])
    · refine stepOne_run trivial ?_
      intro a' w' hg hs hd
      have e16 : a'.eval (.tmp 16) = .bool true := hd ⟨5, Ground.data⟩ (by simp) rfl
      have e22 : a'.eval (.tmp 22) = .bool true := hd ⟨11, Ground.data⟩ (by simp) rfl
      have ec : ∀ v, a'.eval (.const v) = v := fun _ => rfl
      have ef : ∀ g, a'.eval (.func g) = .func (.func g) #[] #[] := fun _ => rfl
      clear hd hs
      refine wpv (v := .bool true) ?_ ⟨_, rfl, Grow.rfl' _, rfl⟩
      (generalize a'.eval = ev at ec ef e16 e22 ⊢; simp [execOp, go_sem, *])
    · refine stepOne_run trivial ?_
      intro a' w' hg hs hd
      have e23 : a'.eval (.tmp 23) = .bool true := hd ⟨12, Ground.data⟩ (by simp) rfl
      have ec : ∀ v, a'.eval (.const v) = v := fun _ => rfl
      have ef : ∀ g, a'.eval (.func g) = .func (.func g) #[] #[] := fun _ => rfl
      clear hd hs
      refine wpv (v := .bool true) ?_ ⟨_, rfl, Grow.rfl' _, rfl⟩
      (generalize a'.eval = ev at ec ef e23 ⊢; simp [execOp, go_sem, *])
    · refine stepOne_run ⟨⟨⟨13, Ground.guard⟩, by simp, rfl, rfl⟩, fun _ _ h => h⟩ ?_
      intro a' w' hg hs hd
      have e1 : a'.eval (.tmp 1) = .pointer (some ⟨w3.heap.size, 0, none⟩) := hs.rest 1 rfl
      have ec : ∀ v, a'.eval (.const v) = v := fun _ => rfl
      have ef : ∀ g, a'.eval (.func g) = .func (.func g) #[] #[] := fun _ => rfl
      clear hd hs
      have k := bcell hg
      refine wpv (v := .agg #[.int .i64 4, .int .i64 2, .int .i64 1, .int .i64 5, .int .i64 0]) ?_ ⟨_, rfl, Grow.rfl' _, rfl⟩
      (generalize a'.eval = ev at ec ef e1 ⊢; simp [execOp, go_sem, *])
    · refine stepOne_run ⟨⟨⟨13, Ground.guard⟩, by simp, rfl, rfl⟩, fun _ _ h => h⟩ ?_
      intro a' w' hg hs hd
      have ec : ∀ v, a'.eval (.const v) = v := fun _ => rfl
      have ef : ∀ g, a'.eval (.func g) = .func (.func g) #[] #[] := fun _ => rfl
      clear hd hs
      refine wpv (v := .slice (some ⟨w'.heap.size, 0, none⟩) 2 2) (w' := w'.alloc (.cells #[.int .i64 1, .int .i64 5] 3)) ?_ ⟨_, rfl, ?_, ⟨w'.heap.size, rfl, ?_, ?_⟩⟩
      rotate_left
      · exact (Below.refl _ _).alloc (Nat.le_refl _) (.cells #[.int .i64 1, .int .i64 5] 3)
      · simp [go_sem]
      · simp [go_sem]
      · (generalize a'.eval = ev at ec ef ⊢; simp [execOp, go_sem, *])
    · refine stepOne_run ⟨⟨⟨13, Ground.chain⟩, by simp, rfl, rfl⟩, fun _ _ h => h⟩ ?_
      intro a' w' hg hs hd
      obtain ⟨b26, e26, c26, d26⟩ : IsSl 1 5 (a'.eval (.tmp 26)) w' := hd ⟨15, Ground.data⟩ (by simp) rfl
      have ec : ∀ v, a'.eval (.const v) = v := fun _ => rfl
      have ef : ∀ g, a'.eval (.func g) = .func (.func g) #[] #[] := fun _ => rfl
      clear hd hs
      refine wpc ?_ (Calls.mono (at2 4 1 5 b26 2 w' c26 d26) fun e w2 ⟨he, hb⟩ => ⟨_, he, _, rfl, hb, rfl⟩)
      (generalize a'.eval = ev at ec ef e26 ⊢; simp [execOp, go_sem, *])
    · refine stepOne_run ⟨⟨⟨13, Ground.guard⟩, by simp, rfl, rfl⟩, fun _ _ h => h⟩ ?_
      intro a' w' hg hs hd
      have e25 : a'.eval (.tmp 25) = .agg #[.int .i64 4, .int .i64 2, .int .i64 1, .int .i64 5, .int .i64 0] := hd ⟨14, Ground.data⟩ (by simp) rfl
      have e27 : a'.eval (.tmp 27) = .agg #[.int .i64 4, .int .i64 2, .int .i64 1, .int .i64 5, .int .i64 0] := hd ⟨16, Ground.data⟩ (by simp) rfl
      have ec : ∀ v, a'.eval (.const v) = v := fun _ => rfl
      have ef : ∀ g, a'.eval (.func g) = .func (.func g) #[] #[] := fun _ => rfl
      clear hd hs
      refine wpv (v := .bool true) ?_ ⟨_, rfl, Grow.rfl' _, rfl⟩
      (generalize a'.eval = ev at ec ef e25 e27 ⊢; simp [execOp, go_sem, *])
    · refine stepOne_run trivial ?_
      intro a' w' hg hs hd
      have e24 : a'.eval (.tmp 24) = .bool true := hd ⟨13, Ground.data⟩ (by simp) rfl
      have e28 : a'.eval (.tmp 28) = .bool true := hd ⟨17, Ground.data⟩ (by simp) rfl
      have ec : ∀ v, a'.eval (.const v) = v := fun _ => rfl
      have ef : ∀ g, a'.eval (.func g) = .func (.func g) #[] #[] := fun _ => rfl
      clear hd hs
      refine wpv (v := .bool true) ?_ ⟨_, rfl, Grow.rfl' _, rfl⟩
      (generalize a'.eval = ev at ec ef e24 e28 ⊢; simp [execOp, go_sem, *])
    · refine stepOne_run trivial ?_
      intro a' w' hg hs hd
      have e29 : a'.eval (.tmp 29) = .bool true := hd ⟨18, Ground.data⟩ (by simp) rfl
      have ec : ∀ v, a'.eval (.const v) = v := fun _ => rfl
      have ef : ∀ g, a'.eval (.func g) = .func (.func g) #[] #[] := fun _ => rfl
      clear hd hs
      refine wpv (v := .bool true) ?_ ⟨_, rfl, Grow.rfl' _, rfl⟩
      (generalize a'.eval = ev at ec ef e29 ⊢; simp [execOp, go_sem, *])
    · refine stepOne_run ⟨⟨⟨19, Ground.guard⟩, by simp, rfl, rfl⟩, fun _ _ h => h⟩ ?_
      intro a' w' hg hs hd
      have e1 : a'.eval (.tmp 1) = .pointer (some ⟨w3.heap.size, 0, none⟩) := hs.rest 1 rfl
      have ec : ∀ v, a'.eval (.const v) = v := fun _ => rfl
      have ef : ∀ g, a'.eval (.func g) = .func (.func g) #[] #[] := fun _ => rfl
      clear hd hs
      refine wpv (v := .pointer (some ⟨w3.heap.size, 1, none⟩)) ?_ ⟨_, rfl, Grow.rfl' _, rfl⟩
      (generalize a'.eval = ev at ec ef e1 ⊢; simp [execOp, go_sem, *])
    · refine stepOne_run ⟨⟨⟨19, Ground.guard⟩, by simp, rfl, rfl⟩, fun _ _ h => h⟩ ?_
      intro a' w' hg hs hd
      have e31 : a'.eval (.tmp 31) = .pointer (some ⟨w3.heap.size, 1, none⟩) := hd ⟨20, Ground.data⟩ (by simp) rfl
      have ec : ∀ v, a'.eval (.const v) = v := fun _ => rfl
      have ef : ∀ g, a'.eval (.func g) = .func (.func g) #[] #[] := fun _ => rfl
      clear hd hs
      have k := bcell hg
      refine wpv (v := .int .i64 2) ?_ ⟨_, rfl, Grow.rfl' _, rfl⟩
      (generalize a'.eval = ev at ec ef e31 ⊢; simp [execOp, go_sem, *])
    · refine stepOne_run ⟨⟨⟨19, Ground.guard⟩, by simp, rfl, rfl⟩, fun _ _ h => h⟩ ?_
      intro a' w' hg hs hd
      have e32 : a'.eval (.tmp 32) = .int .i64 2 := hd ⟨21, Ground.data⟩ (by simp) rfl
      have ec : ∀ v, a'.eval (.const v) = v := fun _ => rfl
      have ef : ∀ g, a'.eval (.func g) = .func (.func g) #[] #[] := fun _ => rfl
      clear hd hs
      refine wpv (v := .bool true) ?_ ⟨_, rfl, Grow.rfl' _, rfl⟩
      (generalize a'.eval = ev at ec ef e32 ⊢; simp [execOp, go_sem, *])
    · refine stepOne_run trivial ?_
      intro a' w' hg hs hd
      have e30 : a'.eval (.tmp 30) = .bool true := hd ⟨19, Ground.data⟩ (by simp) rfl
      have e33 : a'.eval (.tmp 33) = .bool true := hd ⟨22, Ground.data⟩ (by simp) rfl
      have ec : ∀ v, a'.eval (.const v) = v := fun _ => rfl
      have ef : ∀ g, a'.eval (.func g) = .func (.func g) #[] #[] := fun _ => rfl
      clear hd hs
      refine wpv (v := .bool true) ?_ ⟨_, rfl, Grow.rfl' _, rfl⟩
      (generalize a'.eval = ev at ec ef e30 e33 ⊢; simp [execOp, go_sem, *])
    · refine stepOne_run trivial ?_
      intro a' w' hg hs hd
      have e34 : a'.eval (.tmp 34) = .bool true := hd ⟨23, Ground.data⟩ (by simp) rfl
      have ec : ∀ v, a'.eval (.const v) = v := fun _ => rfl
      have ef : ∀ g, a'.eval (.func g) = .func (.func g) #[] #[] := fun _ => rfl
      clear hd hs
      refine wpv (v := .bool true) ?_ ⟨_, rfl, Grow.rfl' _, rfl⟩
      (generalize a'.eval = ev at ec ef e34 ⊢; simp [execOp, go_sem, *])
    · refine stepOne_run ⟨⟨⟨24, Ground.guard⟩, by simp, rfl, rfl⟩, fun _ _ h => h⟩ ?_
      intro a' w' hg hs hd
      have e2 : a'.eval (.tmp 2) = .int .i64 0 := hs.rest 2 rfl
      have ec : ∀ v, a'.eval (.const v) = v := fun _ => rfl
      have ef : ∀ g, a'.eval (.func g) = .func (.func g) #[] #[] := fun _ => rfl
      clear hd hs
      refine wpv (v := .int .i64 0) ?_ ⟨_, rfl, Grow.rfl' _, rfl⟩
      (generalize a'.eval = ev at ec ef e2 ⊢; simp [execOp, go_sem, *])
    · refine stepOne_run ⟨⟨⟨24, Ground.guard⟩, by simp, rfl, rfl⟩, fun _ _ h => h⟩ ?_
      intro a' w' hg hs hd
      have e36 : a'.eval (.tmp 36) = .int .i64 0 := hd ⟨25, Ground.data⟩ (by simp) rfl
      have ec : ∀ v, a'.eval (.const v) = v := fun _ => rfl
      have ef : ∀ g, a'.eval (.func g) = .func (.func g) #[] #[] := fun _ => rfl
      clear hd hs
      refine wpv (v := .bool true) ?_ ⟨_, rfl, Grow.rfl' _, rfl⟩
      (generalize a'.eval = ev at ec ef e36 ⊢; simp [execOp, go_sem, *])
    · refine stepOne_run trivial ?_
      intro a' w' hg hs hd
      have e35 : a'.eval (.tmp 35) = .bool true := hd ⟨24, Ground.data⟩ (by simp) rfl
      have e37 : a'.eval (.tmp 37) = .bool true := hd ⟨26, Ground.data⟩ (by simp) rfl
      have ec : ∀ v, a'.eval (.const v) = v := fun _ => rfl
      have ef : ∀ g, a'.eval (.func g) = .func (.func g) #[] #[] := fun _ => rfl
      clear hd hs
      refine wpv (v := .bool true) ?_ ⟨_, rfl, Grow.rfl' _, rfl⟩
      (generalize a'.eval = ev at ec ef e35 e37 ⊢; simp [execOp, go_sem, *])
    · refine stepOne_run trivial ?_
      intro a' w' hg hs hd
      have e38 : a'.eval (.tmp 38) = .bool true := hd ⟨27, Ground.data⟩ (by simp) rfl
      have ec : ∀ v, a'.eval (.const v) = v := fun _ => rfl
      have ef : ∀ g, a'.eval (.func g) = .func (.func g) #[] #[] := fun _ => rfl
      clear hd hs
      refine wpv (v := .bool true) ?_ ⟨_, rfl, Grow.rfl' _, rfl⟩
      (generalize a'.eval = ev at ec ef e38 ⊢; simp [execOp, go_sem, *])
  · intro a' w' hg hs hd
    have h0 : a'.eval (.tmp 0) = .bool true := hd 28 (by simp)
    go_wp2
    refine bodyPost_ret (v := .bool true) ?_ (by rw [hs.defers]) ⟨rfl, ?_⟩
    · clear hd hs
      simpa [results, Try.results5, Act.eval] using h0
    · have g (w : World) (o : Obj) : Grow w (w.alloc o) := (Below.refl _ _).alloc (Nat.le_refl _) _
      exact (((((g w _).trans' hb1).trans' ((g w1 _).trans' hb2)).trans' hb3).trans' (g w3 _)).trans' hg

end Go.Proofs.Ytbohgfcndclbjab
