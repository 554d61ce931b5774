/-
  What the law TsMakes does: for every epoch, every row of counters and every time it returns true, and what was there stays as it was.
-/
import Derived.Test.YtbohgfcndclbjaaJm
import Derived.Test.YtbohgfcndclbjaaShown
import Derived.Test.YtbohgfcndclbjaaMy
import Derived.Test.YtbohgfcndclbjaaRowi
namespace Go.Proofs.Ytbohgfcndclbjaa
open Go.RowKit
attribute [local go_sem ↓] eqTm
set_option linter.unusedVariables false

theorem eqB_same (a : Tm) : eqB a a = true := by simp [eqB]

set_option maxHeartbeats 4000000 in
theorem TsMakes_none (ep : Int) (s : Option Addr) (cap : Nat) (l : Nat → Int) (t : Tm) (w : World) :
    Calls Try.prog 3 #[.int .i64 ep, .slice s 0 cap, .agg #[.int .i64 t.e, .int .i64 t.d, .int .i64 t.x, .int .i64 t.y, .int .i64 t.z]] w fun e w' => e = .returned (.bool true) ∧ Below w.heap.size w w' := by
  go_enter Try.func3, Try.ntmps3
  go_wp2_with fail
  refine (shown_any _).mono ?_
  rintro e w1 ⟨rfl, hb1⟩
  have KT : Box w1 w.heap.size t := (Box.new w t).later hb1
  have hg0 := hide (show Grow w w1 from (Grow.alloc' _ _).trans' hb1)
  go_wp2_with fail
  refine wp_region_inv (fun i v w => match i with | 0 => v = .bool true | 1 => v = .bool true | 2 => v = .int .i64 ep | 3 => v = .slice s 0 cap | 4 => v = .agg #[.int .i64 (atT ep 0 l).e, .int .i64 (atT ep 0 l).d, .int .i64 (atT ep 0 l).x, .int .i64 (atT ep 0 l).y, .int .i64 (atT ep 0 l).z] | 5 => v = .int .i64 ep | 6 => v = .slice s 0 cap | 7 => v = .agg #[.int .i64 (atT ep 0 l).e, .int .i64 (atT ep 0 l).d, .int .i64 (atT ep 0 l).x, .int .i64 (atT ep 0 l).y, .int .i64 (atT ep 0 l).z] | 8 => v = .bool true | 9 => v = .bool true | 10 => v = .bool true | 11 => v = .agg #[.int .i64 (t).e, .int .i64 (t).d, .int .i64 (t).x, .int .i64 (t).y, .int .i64 (t).z] | 12 => v = .bool (mayB t) | 13 => v = .agg #[.int .i64 (t).e, .int .i64 (t).d, .int .i64 (t).x, .int .i64 (t).y, .int .i64 (t).z] | 14 => v = .bool (mayB t) | 15 => v = .bool true | 16 => v = .bool true | 17 => v = .bool true | _ => True) (by kernel_rfl) (by kernel_rfl) ?_ ?_ ?_
  · intro k v w1 w2 hg h
    match k with
    | 0 => exact h
    | 1 => exact h
    | 2 => exact h
    | 3 => exact h
    | 4 => exact h
    | 5 => exact h
    | 6 => exact h
    | 7 => exact h
    | 8 => exact h
    | 9 => exact h
    | 10 => exact h
    | 11 => exact h
    | 12 => exact h
    | 13 => exact h
    | 14 => exact h
    | 15 => exact h
    | 16 => exact h
    | 17 => exact h
    | k + 18 => exact trivial
  · refine ⟨?_, ?_, ?_, ?_, ?_, ?_, ?_, ?_, ?_, ?_, ?_, ?_, ?_, ?_, ?_, ?_, ?_, ?_, trivial⟩
    · refine stepOne_run trivial ?_
      intro a' w' hg hs hd
      have e7 : a'.eval (.tmp 7) = .bool true := hs.rest 7 rfl
      have ec : ∀ v, a'.eval (.const v) = v := fun _ => rfl
      have ef : ∀ g, a'.eval (.func g) = .func (.func g) #[] #[] := fun _ => rfl
      clear hd hs
      refine wpv (v := .bool true) ?_ ⟨_, rfl, Grow.rfl' _, rfl⟩
      (generalize a'.eval = ev at ec ef e7 ⊢; simp [execOp, go_sem, *])
    · refine stepOne_run trivial ?_
      intro a' w' hg hs hd
      have e14 : a'.eval (.tmp 14) = .bool true := hd ⟨0, Ground.data⟩ (by simp) rfl
      have ec : ∀ v, a'.eval (.const v) = v := fun _ => rfl
      have ef : ∀ g, a'.eval (.func g) = .func (.func g) #[] #[] := fun _ => rfl
      clear hd hs
      refine wpv (v := .bool true) ?_ ⟨_, rfl, Grow.rfl' _, rfl⟩
      (generalize a'.eval = ev at ec ef e14 ⊢; simp [execOp, go_sem, *])
    · refine stepOne_run ⟨⟨⟨1, Ground.guard⟩, by simp, rfl, rfl⟩, fun _ _ h => h⟩ ?_
      intro a' w' hg hs hd
      have e0 : a'.eval (.tmp 0) = .int .i64 ep := hs.rest 0 rfl
      have ec : ∀ v, a'.eval (.const v) = v := fun _ => rfl
      have ef : ∀ g, a'.eval (.func g) = .func (.func g) #[] #[] := fun _ => rfl
      clear hd hs
      refine wpv (v := .int .i64 ep) ?_ ⟨_, rfl, Grow.rfl' _, rfl⟩
      (generalize a'.eval = ev at ec ef e0 ⊢; simp [execOp, go_sem, *])
    · refine stepOne_run ⟨⟨⟨1, Ground.guard⟩, by simp, rfl, rfl⟩, fun _ _ h => h⟩ ?_
      intro a' w' hg hs hd
      have e1 : a'.eval (.tmp 1) = .slice s 0 cap := hs.rest 1 rfl
      have ec : ∀ v, a'.eval (.const v) = v := fun _ => rfl
      have ef : ∀ g, a'.eval (.func g) = .func (.func g) #[] #[] := fun _ => rfl
      clear hd hs
      refine wpv (v := .slice s 0 cap) ?_ ⟨_, rfl, Grow.rfl' _, rfl⟩
      (generalize a'.eval = ev at ec ef e1 ⊢; simp [execOp, go_sem, *])
    · refine stepOne_run ⟨⟨⟨1, Ground.chain⟩, by simp, rfl, rfl⟩, fun _ _ h => h⟩ ?_
      intro a' w' hg hs hd
      have e16 : a'.eval (.tmp 16) = .int .i64 ep := hd ⟨2, Ground.data⟩ (by simp) rfl
      have e17 : a'.eval (.tmp 17) = .slice s 0 cap := hd ⟨3, Ground.data⟩ (by simp) rfl
      have ec : ∀ v, a'.eval (.const v) = v := fun _ => rfl
      have ef : ∀ g, a'.eval (.func g) = .func (.func g) #[] #[] := fun _ => rfl
      clear hd hs
      refine wpc ?_ (Calls.mono (at_none ep s cap l w') fun e w2 ⟨he, hb⟩ => ⟨_, he, _, rfl, hb, rfl⟩)
      (generalize a'.eval = ev at ec ef e16 e17 ⊢; simp [execOp, go_sem, *])
    · refine stepOne_run ⟨⟨⟨1, Ground.guard⟩, by simp, rfl, rfl⟩, fun _ _ h => h⟩ ?_
      intro a' w' hg hs hd
      have e0 : a'.eval (.tmp 0) = .int .i64 ep := hs.rest 0 rfl
      have ec : ∀ v, a'.eval (.const v) = v := fun _ => rfl
      have ef : ∀ g, a'.eval (.func g) = .func (.func g) #[] #[] := fun _ => rfl
      clear hd hs
      refine wpv (v := .int .i64 ep) ?_ ⟨_, rfl, Grow.rfl' _, rfl⟩
      (generalize a'.eval = ev at ec ef e0 ⊢; simp [execOp, go_sem, *])
    · refine stepOne_run ⟨⟨⟨1, Ground.guard⟩, by simp, rfl, rfl⟩, fun _ _ h => h⟩ ?_
      intro a' w' hg hs hd
      have e1 : a'.eval (.tmp 1) = .slice s 0 cap := hs.rest 1 rfl
      have ec : ∀ v, a'.eval (.const v) = v := fun _ => rfl
      have ef : ∀ g, a'.eval (.func g) = .func (.func g) #[] #[] := fun _ => rfl
      clear hd hs
      refine wpv (v := .slice s 0 cap) ?_ ⟨_, rfl, Grow.rfl' _, rfl⟩
      (generalize a'.eval = ev at ec ef e1 ⊢; simp [execOp, go_sem, *])
    · refine stepOne_run ⟨⟨⟨1, Ground.guard⟩, by simp, rfl, rfl⟩, fun _ _ h => h⟩ ?_
      intro a' w' hg hs hd
      have e19 : a'.eval (.tmp 19) = .int .i64 ep := hd ⟨5, Ground.data⟩ (by simp) rfl
      have e20 : a'.eval (.tmp 20) = .slice s 0 cap := hd ⟨6, Ground.data⟩ (by simp) rfl
      have ec : ∀ v, a'.eval (.const v) = v := fun _ => rfl
      have ef : ∀ g, a'.eval (.func g) = .func (.func g) #[] #[] := fun _ => rfl
      clear hd hs
      refine wpc ?_ (Calls.mono (refAt_none ep s cap l w') fun e w2 ⟨he, hb⟩ => ⟨_, he, _, rfl, hb, rfl⟩)
      (generalize a'.eval = ev at ec ef e19 e20 ⊢; simp [execOp, go_sem, *])
    · refine stepOne_run ⟨⟨⟨1, Ground.guard⟩, by simp, rfl, rfl⟩, fun _ _ h => h⟩ ?_
      intro a' w' hg hs hd
      have e18 : a'.eval (.tmp 18) = .agg #[.int .i64 (atT ep 0 l).e, .int .i64 (atT ep 0 l).d, .int .i64 (atT ep 0 l).x, .int .i64 (atT ep 0 l).y, .int .i64 (atT ep 0 l).z] := hd ⟨4, Ground.data⟩ (by simp) rfl
      have e21 : a'.eval (.tmp 21) = .agg #[.int .i64 (atT ep 0 l).e, .int .i64 (atT ep 0 l).d, .int .i64 (atT ep 0 l).x, .int .i64 (atT ep 0 l).y, .int .i64 (atT ep 0 l).z] := hd ⟨7, Ground.data⟩ (by simp) rfl
      have ec : ∀ v, a'.eval (.const v) = v := fun _ => rfl
      have ef : ∀ g, a'.eval (.func g) = .func (.func g) #[] #[] := fun _ => rfl
      clear hd hs
      have es := eqB_same (atT ep 0 l)
      refine wpv (v := .bool true) ?_ ⟨_, rfl, Grow.rfl' _, rfl⟩
      (generalize a'.eval = ev at ec ef e18 e21 ⊢; simp [execOp, go_sem, *])
    · refine stepOne_run trivial ?_
      intro a' w' hg hs hd
      have e15 : a'.eval (.tmp 15) = .bool true := hd ⟨1, Ground.data⟩ (by simp) rfl
      have e22 : a'.eval (.tmp 22) = .bool true := hd ⟨8, Ground.data⟩ (by simp) rfl
      have ec : ∀ v, a'.eval (.const v) = v := fun _ => rfl
      have ef : ∀ g, a'.eval (.func g) = .func (.func g) #[] #[] := fun _ => rfl
      clear hd hs
      refine wpv (v := .bool true) ?_ ⟨_, rfl, Grow.rfl' _, rfl⟩
      (generalize a'.eval = ev at ec ef e15 e22 ⊢; simp [execOp, go_sem, *])
    · refine stepOne_run trivial ?_
      intro a' w' hg hs hd
      have e23 : a'.eval (.tmp 23) = .bool true := hd ⟨9, Ground.data⟩ (by simp) rfl
      have ec : ∀ v, a'.eval (.const v) = v := fun _ => rfl
      have ef : ∀ g, a'.eval (.func g) = .func (.func g) #[] #[] := fun _ => rfl
      clear hd hs
      refine wpv (v := .bool true) ?_ ⟨_, rfl, Grow.rfl' _, rfl⟩
      (generalize a'.eval = ev at ec ef e23 ⊢; simp [execOp, go_sem, *])
    · refine stepOne_run ⟨⟨⟨10, Ground.guard⟩, by simp, rfl, rfl⟩, fun _ _ h => h⟩ ?_
      intro a' w' hg hs hd
      have e5 : a'.eval (.tmp 5) = .pointer (some ⟨w.heap.size, 0, none⟩) := hs.rest 5 rfl
      have ec : ∀ v, a'.eval (.const v) = v := fun _ => rfl
      have ef : ∀ g, a'.eval (.func g) = .func (.func g) #[] #[] := fun _ => rfl
      clear hd hs
      obtain ⟨l0, l1, l2, l3, l4⟩ := KT.later hg
      refine wpv (v := .agg #[.int .i64 (t).e, .int .i64 (t).d, .int .i64 (t).x, .int .i64 (t).y, .int .i64 (t).z]) ?_ ⟨_, rfl, Grow.rfl' _, rfl⟩
      (generalize a'.eval = ev at ec ef e5 ⊢; simp [execOp, go_sem, *])
    · refine stepOne_run ⟨⟨⟨10, Ground.chain⟩, by simp, rfl, rfl⟩, fun _ _ h => h⟩ ?_
      intro a' w' hg hs hd
      have e25 : a'.eval (.tmp 25) = .agg #[.int .i64 (t).e, .int .i64 (t).d, .int .i64 (t).x, .int .i64 (t).y, .int .i64 (t).z] := hd ⟨11, Ground.data⟩ (by simp) rfl
      have ec : ∀ v, a'.eval (.const v) = v := fun _ => rfl
      have ef : ∀ g, a'.eval (.func g) = .func (.func g) #[] #[] := fun _ => rfl
      clear hd hs
      refine wpc ?_ (Calls.mono (may_any t w') fun e w2 ⟨he, hb⟩ => ⟨_, he, _, rfl, hb, rfl⟩)
      (generalize a'.eval = ev at ec ef e25 ⊢; simp [execOp, go_sem, *])
    · refine stepOne_run ⟨⟨⟨10, Ground.guard⟩, by simp, rfl, rfl⟩, fun _ _ h => h⟩ ?_
      intro a' w' hg hs hd
      have e5 : a'.eval (.tmp 5) = .pointer (some ⟨w.heap.size, 0, none⟩) := hs.rest 5 rfl
      have ec : ∀ v, a'.eval (.const v) = v := fun _ => rfl
      have ef : ∀ g, a'.eval (.func g) = .func (.func g) #[] #[] := fun _ => rfl
      clear hd hs
      obtain ⟨l0, l1, l2, l3, l4⟩ := KT.later hg
      refine wpv (v := .agg #[.int .i64 (t).e, .int .i64 (t).d, .int .i64 (t).x, .int .i64 (t).y, .int .i64 (t).z]) ?_ ⟨_, rfl, Grow.rfl' _, rfl⟩
      (generalize a'.eval = ev at ec ef e5 ⊢; simp [execOp, go_sem, *])
    · refine stepOne_run ⟨⟨⟨10, Ground.guard⟩, by simp, rfl, rfl⟩, fun _ _ h => h⟩ ?_
      intro a' w' hg hs hd
      have e27 : a'.eval (.tmp 27) = .agg #[.int .i64 (t).e, .int .i64 (t).d, .int .i64 (t).x, .int .i64 (t).y, .int .i64 (t).z] := hd ⟨13, Ground.data⟩ (by simp) rfl
      have ec : ∀ v, a'.eval (.const v) = v := fun _ => rfl
      have ef : ∀ g, a'.eval (.func g) = .func (.func g) #[] #[] := fun _ => rfl
      clear hd hs
      refine wpc ?_ (Calls.mono (refMay_any t w') fun e w2 ⟨he, hb⟩ => ⟨_, he, _, rfl, hb, rfl⟩)
      (generalize a'.eval = ev at ec ef e27 ⊢; simp [execOp, go_sem, *])
    · refine stepOne_run ⟨⟨⟨10, Ground.guard⟩, by simp, rfl, rfl⟩, fun _ _ h => h⟩ ?_
      intro a' w' hg hs hd
      have e26 : a'.eval (.tmp 26) = .bool (mayB t) := hd ⟨12, Ground.data⟩ (by simp) rfl
      have e28 : a'.eval (.tmp 28) = .bool (mayB t) := hd ⟨14, Ground.data⟩ (by simp) rfl
      have ec : ∀ v, a'.eval (.const v) = v := fun _ => rfl
      have ef : ∀ g, a'.eval (.func g) = .func (.func g) #[] #[] := fun _ => rfl
      clear hd hs
      refine wpv (v := .bool true) ?_ ⟨_, rfl, Grow.rfl' _, rfl⟩
      (generalize a'.eval = ev at ec ef e26 e28 ⊢; simp [execOp, go_sem, *])
    · refine stepOne_run trivial ?_
      intro a' w' hg hs hd
      have e24 : a'.eval (.tmp 24) = .bool true := hd ⟨10, Ground.data⟩ (by simp) rfl
      have e29 : a'.eval (.tmp 29) = .bool true := hd ⟨15, Ground.data⟩ (by simp) rfl
      have ec : ∀ v, a'.eval (.const v) = v := fun _ => rfl
      have ef : ∀ g, a'.eval (.func g) = .func (.func g) #[] #[] := fun _ => rfl
      clear hd hs
      refine wpv (v := .bool true) ?_ ⟨_, rfl, Grow.rfl' _, rfl⟩
      (generalize a'.eval = ev at ec ef e24 e29 ⊢; simp [execOp, go_sem, *])
    · refine stepOne_run trivial ?_
      intro a' w' hg hs hd
      have e30 : a'.eval (.tmp 30) = .bool true := hd ⟨16, Ground.data⟩ (by simp) rfl
      have ec : ∀ v, a'.eval (.const v) = v := fun _ => rfl
      have ef : ∀ g, a'.eval (.func g) = .func (.func g) #[] #[] := fun _ => rfl
      clear hd hs
      refine wpv (v := .bool true) ?_ ⟨_, rfl, Grow.rfl' _, rfl⟩
      (generalize a'.eval = ev at ec ef e30 ⊢; simp [execOp, go_sem, *])
  · intro a' w' hg hs hd
    have h0 : a'.eval (.tmp 6) = .bool true := hd 17 (by simp)
    go_wp2
    refine bodyPost_ret (v := .bool true) ?_ (by rw [hs.defers]) ⟨rfl, ((Grow.alloc' _ _).trans' hb1).trans' hg⟩
    clear hd hs
    simpa [results, Try.results3, Act.eval] using h0

set_option maxHeartbeats 4000000 in
theorem TsMakes_some (ep : Int) (b o n : Nat) (cap : Nat) (l : Nat → Int) (t : Tm) (w : World) (h1 : 0 < n) (h2 : n ≤ 10) (hc : ∀ j, j < n → w.cell? ⟨b, o + j, none⟩ = some (.int .i64 (l j))) :
    Calls Try.prog 3 #[.int .i64 ep, .slice (some ⟨b, o, none⟩) n cap, .agg #[.int .i64 t.e, .int .i64 t.d, .int .i64 t.x, .int .i64 t.y, .int .i64 t.z]] w fun e w' => e = .returned (.bool true) ∧ Below w.heap.size w w' := by
  have H1 := hide h1
  have HC := hide hc
  have h3 : ¬ (10 : Int) < n := by omega
  clear hc h1
  go_enter Try.func3, Try.ntmps3
  go_wp2_with fail
  refine (shown_any _).mono ?_
  rintro e w1 ⟨rfl, hb1⟩
  have KT : Box w1 w.heap.size t := (Box.new w t).later hb1
  have hg0 := hide (show Grow w w1 from (Grow.alloc' _ _).trans' hb1)
  go_wp2_with fail
  refine wp_region_inv (fun i v w => match i with | 0 => v = .bool true | 1 => v = .bool true | 2 => v = .int .i64 ep | 3 => v = .slice (some ⟨b, o, none⟩) n cap | 4 => v = .agg #[.int .i64 (atT ep n l).e, .int .i64 (atT ep n l).d, .int .i64 (atT ep n l).x, .int .i64 (atT ep n l).y, .int .i64 (atT ep n l).z] | 5 => v = .int .i64 ep | 6 => v = .slice (some ⟨b, o, none⟩) n cap | 7 => v = .agg #[.int .i64 (atT ep n l).e, .int .i64 (atT ep n l).d, .int .i64 (atT ep n l).x, .int .i64 (atT ep n l).y, .int .i64 (atT ep n l).z] | 8 => v = .bool true | 9 => v = .bool true | 10 => v = .bool true | 11 => v = .agg #[.int .i64 (t).e, .int .i64 (t).d, .int .i64 (t).x, .int .i64 (t).y, .int .i64 (t).z] | 12 => v = .bool (mayB t) | 13 => v = .agg #[.int .i64 (t).e, .int .i64 (t).d, .int .i64 (t).x, .int .i64 (t).y, .int .i64 (t).z] | 14 => v = .bool (mayB t) | 15 => v = .bool true | 16 => v = .bool true | 17 => v = .bool true | _ => True) (by kernel_rfl) (by kernel_rfl) ?_ ?_ ?_
  · intro k v w1 w2 hg h
    match k with
    | 0 => exact h
    | 1 => exact h
    | 2 => exact h
    | 3 => exact h
    | 4 => exact h
    | 5 => exact h
    | 6 => exact h
    | 7 => exact h
    | 8 => exact h
    | 9 => exact h
    | 10 => exact h
    | 11 => exact h
    | 12 => exact h
    | 13 => exact h
    | 14 => exact h
    | 15 => exact h
    | 16 => exact h
    | 17 => exact h
    | k + 18 => exact trivial
  · refine ⟨?_, ?_, ?_, ?_, ?_, ?_, ?_, ?_, ?_, ?_, ?_, ?_, ?_, ?_, ?_, ?_, ?_, ?_, trivial⟩
    · refine stepOne_run trivial ?_
      intro a' w' hg hs hd
      have e7 : a'.eval (.tmp 7) = .bool true := hs.rest 7 rfl
      have ec : ∀ v, a'.eval (.const v) = v := fun _ => rfl
      have ef : ∀ g, a'.eval (.func g) = .func (.func g) #[] #[] := fun _ => rfl
      clear hd hs
      refine wpv (v := .bool true) ?_ ⟨_, rfl, Grow.rfl' _, rfl⟩
      (generalize a'.eval = ev at ec ef e7 ⊢; simp [execOp, go_sem, *])
    · refine stepOne_run trivial ?_
      intro a' w' hg hs hd
      have e14 : a'.eval (.tmp 14) = .bool true := hd ⟨0, Ground.data⟩ (by simp) rfl
      have ec : ∀ v, a'.eval (.const v) = v := fun _ => rfl
      have ef : ∀ g, a'.eval (.func g) = .func (.func g) #[] #[] := fun _ => rfl
      clear hd hs
      refine wpv (v := .bool true) ?_ ⟨_, rfl, Grow.rfl' _, rfl⟩
      (generalize a'.eval = ev at ec ef e14 ⊢; simp [execOp, go_sem, *])
    · refine stepOne_run ⟨⟨⟨1, Ground.guard⟩, by simp, rfl, rfl⟩, fun _ _ h => h⟩ ?_
      intro a' w' hg hs hd
      have e0 : a'.eval (.tmp 0) = .int .i64 ep := hs.rest 0 rfl
      have ec : ∀ v, a'.eval (.const v) = v := fun _ => rfl
      have ef : ∀ g, a'.eval (.func g) = .func (.func g) #[] #[] := fun _ => rfl
      clear hd hs
      refine wpv (v := .int .i64 ep) ?_ ⟨_, rfl, Grow.rfl' _, rfl⟩
      (generalize a'.eval = ev at ec ef e0 ⊢; simp [execOp, go_sem, *])
    · refine stepOne_run ⟨⟨⟨1, Ground.guard⟩, by simp, rfl, rfl⟩, fun _ _ h => h⟩ ?_
      intro a' w' hg hs hd
      have e1 : a'.eval (.tmp 1) = .slice (some ⟨b, o, none⟩) n cap := hs.rest 1 rfl
      have ec : ∀ v, a'.eval (.const v) = v := fun _ => rfl
      have ef : ∀ g, a'.eval (.func g) = .func (.func g) #[] #[] := fun _ => rfl
      clear hd hs
      refine wpv (v := .slice (some ⟨b, o, none⟩) n cap) ?_ ⟨_, rfl, Grow.rfl' _, rfl⟩
      (generalize a'.eval = ev at ec ef e1 ⊢; simp [execOp, go_sem, *])
    · refine stepOne_run ⟨⟨⟨1, Ground.chain⟩, by simp, rfl, rfl⟩, fun _ _ h => h⟩ ?_
      intro a' w' hg hs hd
      have e16 : a'.eval (.tmp 16) = .int .i64 ep := hd ⟨2, Ground.data⟩ (by simp) rfl
      have e17 : a'.eval (.tmp 17) = .slice (some ⟨b, o, none⟩) n cap := hd ⟨3, Ground.data⟩ (by simp) rfl
      have ec : ∀ v, a'.eval (.const v) = v := fun _ => rfl
      have ef : ∀ g, a'.eval (.func g) = .func (.func g) #[] #[] := fun _ => rfl
      clear hd hs
      refine wpc ?_ (Calls.mono (at_some ep b o n cap l w' H1.out (fun j hj => cell_later (hg0.out.trans' hg) (HC.out j hj))) fun e w2 ⟨he, hb⟩ => ⟨_, he, _, rfl, hb, rfl⟩)
      (generalize a'.eval = ev at ec ef e16 e17 ⊢; simp [execOp, go_sem, *])
    · refine stepOne_run ⟨⟨⟨1, Ground.guard⟩, by simp, rfl, rfl⟩, fun _ _ h => h⟩ ?_
      intro a' w' hg hs hd
      have e0 : a'.eval (.tmp 0) = .int .i64 ep := hs.rest 0 rfl
      have ec : ∀ v, a'.eval (.const v) = v := fun _ => rfl
      have ef : ∀ g, a'.eval (.func g) = .func (.func g) #[] #[] := fun _ => rfl
      clear hd hs
      refine wpv (v := .int .i64 ep) ?_ ⟨_, rfl, Grow.rfl' _, rfl⟩
      (generalize a'.eval = ev at ec ef e0 ⊢; simp [execOp, go_sem, *])
    · refine stepOne_run ⟨⟨⟨1, Ground.guard⟩, by simp, rfl, rfl⟩, fun _ _ h => h⟩ ?_
      intro a' w' hg hs hd
      have e1 : a'.eval (.tmp 1) = .slice (some ⟨b, o, none⟩) n cap := hs.rest 1 rfl
      have ec : ∀ v, a'.eval (.const v) = v := fun _ => rfl
      have ef : ∀ g, a'.eval (.func g) = .func (.func g) #[] #[] := fun _ => rfl
      clear hd hs
      refine wpv (v := .slice (some ⟨b, o, none⟩) n cap) ?_ ⟨_, rfl, Grow.rfl' _, rfl⟩
      (generalize a'.eval = ev at ec ef e1 ⊢; simp [execOp, go_sem, *])
    · refine stepOne_run ⟨⟨⟨1, Ground.guard⟩, by simp, rfl, rfl⟩, fun _ _ h => h⟩ ?_
      intro a' w' hg hs hd
      have e19 : a'.eval (.tmp 19) = .int .i64 ep := hd ⟨5, Ground.data⟩ (by simp) rfl
      have e20 : a'.eval (.tmp 20) = .slice (some ⟨b, o, none⟩) n cap := hd ⟨6, Ground.data⟩ (by simp) rfl
      have ec : ∀ v, a'.eval (.const v) = v := fun _ => rfl
      have ef : ∀ g, a'.eval (.func g) = .func (.func g) #[] #[] := fun _ => rfl
      clear hd hs
      refine wpc ?_ (Calls.mono (refAt_some ep b o n cap l w' H1.out (fun j hj => cell_later (hg0.out.trans' hg) (HC.out j hj))) fun e w2 ⟨he, hb⟩ => ⟨_, he, _, rfl, hb, rfl⟩)
      (generalize a'.eval = ev at ec ef e19 e20 ⊢; simp [execOp, go_sem, *])
    · refine stepOne_run ⟨⟨⟨1, Ground.guard⟩, by simp, rfl, rfl⟩, fun _ _ h => h⟩ ?_
      intro a' w' hg hs hd
      have e18 : a'.eval (.tmp 18) = .agg #[.int .i64 (atT ep n l).e, .int .i64 (atT ep n l).d, .int .i64 (atT ep n l).x, .int .i64 (atT ep n l).y, .int .i64 (atT ep n l).z] := hd ⟨4, Ground.data⟩ (by simp) rfl
      have e21 : a'.eval (.tmp 21) = .agg #[.int .i64 (atT ep n l).e, .int .i64 (atT ep n l).d, .int .i64 (atT ep n l).x, .int .i64 (atT ep n l).y, .int .i64 (atT ep n l).z] := hd ⟨7, Ground.data⟩ (by simp) rfl
      have ec : ∀ v, a'.eval (.const v) = v := fun _ => rfl
      have ef : ∀ g, a'.eval (.func g) = .func (.func g) #[] #[] := fun _ => rfl
      clear hd hs
      have es := eqB_same (atT ep n l)
      refine wpv (v := .bool true) ?_ ⟨_, rfl, Grow.rfl' _, rfl⟩
      (generalize a'.eval = ev at ec ef e18 e21 ⊢; simp [execOp, go_sem, *])
    · refine stepOne_run trivial ?_
      intro a' w' hg hs hd
      have e15 : a'.eval (.tmp 15) = .bool true := hd ⟨1, Ground.data⟩ (by simp) rfl
      have e22 : a'.eval (.tmp 22) = .bool true := hd ⟨8, Ground.data⟩ (by simp) rfl
      have ec : ∀ v, a'.eval (.const v) = v := fun _ => rfl
      have ef : ∀ g, a'.eval (.func g) = .func (.func g) #[] #[] := fun _ => rfl
      clear hd hs
      refine wpv (v := .bool true) ?_ ⟨_, rfl, Grow.rfl' _, rfl⟩
      (generalize a'.eval = ev at ec ef e15 e22 ⊢; simp [execOp, go_sem, *])
    · refine stepOne_run trivial ?_
      intro a' w' hg hs hd
      have e23 : a'.eval (.tmp 23) = .bool true := hd ⟨9, Ground.data⟩ (by simp) rfl
      have ec : ∀ v, a'.eval (.const v) = v := fun _ => rfl
      have ef : ∀ g, a'.eval (.func g) = .func (.func g) #[] #[] := fun _ => rfl
      clear hd hs
      refine wpv (v := .bool true) ?_ ⟨_, rfl, Grow.rfl' _, rfl⟩
      (generalize a'.eval = ev at ec ef e23 ⊢; simp [execOp, go_sem, *])
    · refine stepOne_run ⟨⟨⟨10, Ground.guard⟩, by simp, rfl, rfl⟩, fun _ _ h => h⟩ ?_
      intro a' w' hg hs hd
      have e5 : a'.eval (.tmp 5) = .pointer (some ⟨w.heap.size, 0, none⟩) := hs.rest 5 rfl
      have ec : ∀ v, a'.eval (.const v) = v := fun _ => rfl
      have ef : ∀ g, a'.eval (.func g) = .func (.func g) #[] #[] := fun _ => rfl
      clear hd hs
      obtain ⟨l0, l1, l2, l3, l4⟩ := KT.later hg
      refine wpv (v := .agg #[.int .i64 (t).e, .int .i64 (t).d, .int .i64 (t).x, .int .i64 (t).y, .int .i64 (t).z]) ?_ ⟨_, rfl, Grow.rfl' _, rfl⟩
      (generalize a'.eval = ev at ec ef e5 ⊢; simp [execOp, go_sem, *])
    · refine stepOne_run ⟨⟨⟨10, Ground.chain⟩, by simp, rfl, rfl⟩, fun _ _ h => h⟩ ?_
      intro a' w' hg hs hd
      have e25 : a'.eval (.tmp 25) = .agg #[.int .i64 (t).e, .int .i64 (t).d, .int .i64 (t).x, .int .i64 (t).y, .int .i64 (t).z] := hd ⟨11, Ground.data⟩ (by simp) rfl
      have ec : ∀ v, a'.eval (.const v) = v := fun _ => rfl
      have ef : ∀ g, a'.eval (.func g) = .func (.func g) #[] #[] := fun _ => rfl
      clear hd hs
      refine wpc ?_ (Calls.mono (may_any t w') fun e w2 ⟨he, hb⟩ => ⟨_, he, _, rfl, hb, rfl⟩)
      (generalize a'.eval = ev at ec ef e25 ⊢; simp [execOp, go_sem, *])
    · refine stepOne_run ⟨⟨⟨10, Ground.guard⟩, by simp, rfl, rfl⟩, fun _ _ h => h⟩ ?_
      intro a' w' hg hs hd
      have e5 : a'.eval (.tmp 5) = .pointer (some ⟨w.heap.size, 0, none⟩) := hs.rest 5 rfl
      have ec : ∀ v, a'.eval (.const v) = v := fun _ => rfl
      have ef : ∀ g, a'.eval (.func g) = .func (.func g) #[] #[] := fun _ => rfl
      clear hd hs
      obtain ⟨l0, l1, l2, l3, l4⟩ := KT.later hg
      refine wpv (v := .agg #[.int .i64 (t).e, .int .i64 (t).d, .int .i64 (t).x, .int .i64 (t).y, .int .i64 (t).z]) ?_ ⟨_, rfl, Grow.rfl' _, rfl⟩
      (generalize a'.eval = ev at ec ef e5 ⊢; simp [execOp, go_sem, *])
    · refine stepOne_run ⟨⟨⟨10, Ground.guard⟩, by simp, rfl, rfl⟩, fun _ _ h => h⟩ ?_
      intro a' w' hg hs hd
      have e27 : a'.eval (.tmp 27) = .agg #[.int .i64 (t).e, .int .i64 (t).d, .int .i64 (t).x, .int .i64 (t).y, .int .i64 (t).z] := hd ⟨13, Ground.data⟩ (by simp) rfl
      have ec : ∀ v, a'.eval (.const v) = v := fun _ => rfl
      have ef : ∀ g, a'.eval (.func g) = .func (.func g) #[] #[] := fun _ => rfl
      clear hd hs
      refine wpc ?_ (Calls.mono (refMay_any t w') fun e w2 ⟨he, hb⟩ => ⟨_, he, _, rfl, hb, rfl⟩)
      (generalize a'.eval = ev at ec ef e27 ⊢; simp [execOp, go_sem, *])
    · refine stepOne_run ⟨⟨⟨10, Ground.guard⟩, by simp, rfl, rfl⟩, fun _ _ h => h⟩ ?_
      intro a' w' hg hs hd
      have e26 : a'.eval (.tmp 26) = .bool (mayB t) := hd ⟨12, Ground.data⟩ (by simp) rfl
      have e28 : a'.eval (.tmp 28) = .bool (mayB t) := hd ⟨14, Ground.data⟩ (by simp) rfl
      have ec : ∀ v, a'.eval (.const v) = v := fun _ => rfl
      have ef : ∀ g, a'.eval (.func g) = .func (.func g) #[] #[] := fun _ => rfl
      clear hd hs
      refine wpv (v := .bool true) ?_ ⟨_, rfl, Grow.rfl' _, rfl⟩
      (generalize a'.eval = ev at ec ef e26 e28 ⊢; simp [execOp, go_sem, *])
    · refine stepOne_run trivial ?_
      intro a' w' hg hs hd
      have e24 : a'.eval (.tmp 24) = .bool true := hd ⟨10, Ground.data⟩ (by simp) rfl
      have e29 : a'.eval (.tmp 29) = .bool true := hd ⟨15, Ground.data⟩ (by simp) rfl
      have ec : ∀ v, a'.eval (.const v) = v := fun _ => rfl
      have ef : ∀ g, a'.eval (.func g) = .func (.func g) #[] #[] := fun _ => rfl
      clear hd hs
      refine wpv (v := .bool true) ?_ ⟨_, rfl, Grow.rfl' _, rfl⟩
      (generalize a'.eval = ev at ec ef e24 e29 ⊢; simp [execOp, go_sem, *])
    · refine stepOne_run trivial ?_
      intro a' w' hg hs hd
      have e30 : a'.eval (.tmp 30) = .bool true := hd ⟨16, Ground.data⟩ (by simp) rfl
      have ec : ∀ v, a'.eval (.const v) = v := fun _ => rfl
      have ef : ∀ g, a'.eval (.func g) = .func (.func g) #[] #[] := fun _ => rfl
      clear hd hs
      refine wpv (v := .bool true) ?_ ⟨_, rfl, Grow.rfl' _, rfl⟩
      (generalize a'.eval = ev at ec ef e30 ⊢; simp [execOp, go_sem, *])
  · intro a' w' hg hs hd
    have h0 : a'.eval (.tmp 6) = .bool true := hd 17 (by simp)
    go_wp2
    refine bodyPost_ret (v := .bool true) ?_ (by rw [hs.defers]) ⟨rfl, ((Grow.alloc' _ _).trans' hb1).trans' hg⟩
    clear hd hs
    simpa [results, Try.results3, Act.eval] using h0

set_option maxHeartbeats 4000000 in
theorem TsMakes_many (ep : Int) (b o n : Nat) (cap : Nat) (l : Nat → Int) (t : Tm) (w : World) (h1 : 10 < n) (h2 : n ≤ cap) (hc : ∀ j, j < n → w.cell? ⟨b, o + j, none⟩ = some (.int .i64 (l j))) :
    Calls Try.prog 3 #[.int .i64 ep, .slice (some ⟨b, o, none⟩) n cap, .agg #[.int .i64 t.e, .int .i64 t.d, .int .i64 t.x, .int .i64 t.y, .int .i64 t.z]] w fun e w' => e = .returned (.bool true) ∧ Below w.heap.size w w' := by
  have HC := hide (fun j (hj : j < 10) => hc j (by omega))
  have h3 : (10 : Int) < n := by omega
  have h4 : (10 : Int) ≤ cap := by omega
  clear hc
  go_enter Try.func3, Try.ntmps3
  go_wp2_with fail
  refine (shown_any _).mono ?_
  rintro e w1 ⟨rfl, hb1⟩
  have KT : Box w1 w.heap.size t := (Box.new w t).later hb1
  have hg0 := hide (show Grow w w1 from (Grow.alloc' _ _).trans' hb1)
  go_wp2_with fail
  refine wp_region_inv (fun i v w => match i with | 0 => v = .bool true | 1 => v = .bool true | 2 => v = .int .i64 ep | 3 => v = .slice (some ⟨b, o, none⟩) 10 cap | 4 => v = .agg #[.int .i64 (atT ep 10 l).e, .int .i64 (atT ep 10 l).d, .int .i64 (atT ep 10 l).x, .int .i64 (atT ep 10 l).y, .int .i64 (atT ep 10 l).z] | 5 => v = .int .i64 ep | 6 => v = .slice (some ⟨b, o, none⟩) 10 cap | 7 => v = .agg #[.int .i64 (atT ep 10 l).e, .int .i64 (atT ep 10 l).d, .int .i64 (atT ep 10 l).x, .int .i64 (atT ep 10 l).y, .int .i64 (atT ep 10 l).z] | 8 => v = .bool true | 9 => v = .bool true | 10 => v = .bool true | 11 => v = .agg #[.int .i64 (t).e, .int .i64 (t).d, .int .i64 (t).x, .int .i64 (t).y, .int .i64 (t).z] | 12 => v = .bool (mayB t) | 13 => v = .agg #[.int .i64 (t).e, .int .i64 (t).d, .int .i64 (t).x, .int .i64 (t).y, .int .i64 (t).z] | 14 => v = .bool (mayB t) | 15 => v = .bool true | 16 => v = .bool true | 17 => v = .bool true | _ => True) (by kernel_rfl) (by kernel_rfl) ?_ ?_ ?_
  · intro k v w1 w2 hg h
    match k with
    | 0 => exact h
    | 1 => exact h
    | 2 => exact h
    | 3 => exact h
    | 4 => exact h
    | 5 => exact h
    | 6 => exact h
    | 7 => exact h
    | 8 => exact h
    | 9 => exact h
    | 10 => exact h
    | 11 => exact h
    | 12 => exact h
    | 13 => exact h
    | 14 => exact h
    | 15 => exact h
    | 16 => exact h
    | 17 => exact h
    | k + 18 => exact trivial
  · refine ⟨?_, ?_, ?_, ?_, ?_, ?_, ?_, ?_, ?_, ?_, ?_, ?_, ?_, ?_, ?_, ?_, ?_, ?_, trivial⟩
    · refine stepOne_run trivial ?_
      intro a' w' hg hs hd
      have e7 : a'.eval (.tmp 7) = .bool true := hs.rest 7 rfl
      have ec : ∀ v, a'.eval (.const v) = v := fun _ => rfl
      have ef : ∀ g, a'.eval (.func g) = .func (.func g) #[] #[] := fun _ => rfl
      clear hd hs
      refine wpv (v := .bool true) ?_ ⟨_, rfl, Grow.rfl' _, rfl⟩
      (generalize a'.eval = ev at ec ef e7 ⊢; simp [execOp, go_sem, *])
    · refine stepOne_run trivial ?_
      intro a' w' hg hs hd
      have e14 : a'.eval (.tmp 14) = .bool true := hd ⟨0, Ground.data⟩ (by simp) rfl
      have ec : ∀ v, a'.eval (.const v) = v := fun _ => rfl
      have ef : ∀ g, a'.eval (.func g) = .func (.func g) #[] #[] := fun _ => rfl
      clear hd hs
      refine wpv (v := .bool true) ?_ ⟨_, rfl, Grow.rfl' _, rfl⟩
      (generalize a'.eval = ev at ec ef e14 ⊢; simp [execOp, go_sem, *])
    · refine stepOne_run ⟨⟨⟨1, Ground.guard⟩, by simp, rfl, rfl⟩, fun _ _ h => h⟩ ?_
      intro a' w' hg hs hd
      have e0 : a'.eval (.tmp 0) = .int .i64 ep := hs.rest 0 rfl
      have ec : ∀ v, a'.eval (.const v) = v := fun _ => rfl
      have ef : ∀ g, a'.eval (.func g) = .func (.func g) #[] #[] := fun _ => rfl
      clear hd hs
      refine wpv (v := .int .i64 ep) ?_ ⟨_, rfl, Grow.rfl' _, rfl⟩
      (generalize a'.eval = ev at ec ef e0 ⊢; simp [execOp, go_sem, *])
    · refine stepOne_run ⟨⟨⟨1, Ground.guard⟩, by simp, rfl, rfl⟩, fun _ _ h => h⟩ ?_
      intro a' w' hg hs hd
      have e1 : a'.eval (.tmp 1) = .slice (some ⟨b, o, none⟩) 10 cap := hs.rest 1 rfl
      have ec : ∀ v, a'.eval (.const v) = v := fun _ => rfl
      have ef : ∀ g, a'.eval (.func g) = .func (.func g) #[] #[] := fun _ => rfl
      clear hd hs
      refine wpv (v := .slice (some ⟨b, o, none⟩) 10 cap) ?_ ⟨_, rfl, Grow.rfl' _, rfl⟩
      (generalize a'.eval = ev at ec ef e1 ⊢; simp [execOp, go_sem, *])
    · refine stepOne_run ⟨⟨⟨1, Ground.chain⟩, by simp, rfl, rfl⟩, fun _ _ h => h⟩ ?_
      intro a' w' hg hs hd
      have e16 : a'.eval (.tmp 16) = .int .i64 ep := hd ⟨2, Ground.data⟩ (by simp) rfl
      have e17 : a'.eval (.tmp 17) = .slice (some ⟨b, o, none⟩) 10 cap := hd ⟨3, Ground.data⟩ (by simp) rfl
      have ec : ∀ v, a'.eval (.const v) = v := fun _ => rfl
      have ef : ∀ g, a'.eval (.func g) = .func (.func g) #[] #[] := fun _ => rfl
      clear hd hs
      refine wpc ?_ (Calls.mono (at_some ep b o 10 cap l w' (by omega) (fun j hj => cell_later (hg0.out.trans' hg) (HC.out j hj))) fun e w2 ⟨he, hb⟩ => ⟨_, he, _, rfl, hb, rfl⟩)
      (generalize a'.eval = ev at ec ef e16 e17 ⊢; simp [execOp, go_sem, *])
    · refine stepOne_run ⟨⟨⟨1, Ground.guard⟩, by simp, rfl, rfl⟩, fun _ _ h => h⟩ ?_
      intro a' w' hg hs hd
      have e0 : a'.eval (.tmp 0) = .int .i64 ep := hs.rest 0 rfl
      have ec : ∀ v, a'.eval (.const v) = v := fun _ => rfl
      have ef : ∀ g, a'.eval (.func g) = .func (.func g) #[] #[] := fun _ => rfl
      clear hd hs
      refine wpv (v := .int .i64 ep) ?_ ⟨_, rfl, Grow.rfl' _, rfl⟩
      (generalize a'.eval = ev at ec ef e0 ⊢; simp [execOp, go_sem, *])
    · refine stepOne_run ⟨⟨⟨1, Ground.guard⟩, by simp, rfl, rfl⟩, fun _ _ h => h⟩ ?_
      intro a' w' hg hs hd
      have e1 : a'.eval (.tmp 1) = .slice (some ⟨b, o, none⟩) 10 cap := hs.rest 1 rfl
      have ec : ∀ v, a'.eval (.const v) = v := fun _ => rfl
      have ef : ∀ g, a'.eval (.func g) = .func (.func g) #[] #[] := fun _ => rfl
      clear hd hs
      refine wpv (v := .slice (some ⟨b, o, none⟩) 10 cap) ?_ ⟨_, rfl, Grow.rfl' _, rfl⟩
      (generalize a'.eval = ev at ec ef e1 ⊢; simp [execOp, go_sem, *])
    · refine stepOne_run ⟨⟨⟨1, Ground.guard⟩, by simp, rfl, rfl⟩, fun _ _ h => h⟩ ?_
      intro a' w' hg hs hd
      have e19 : a'.eval (.tmp 19) = .int .i64 ep := hd ⟨5, Ground.data⟩ (by simp) rfl
      have e20 : a'.eval (.tmp 20) = .slice (some ⟨b, o, none⟩) 10 cap := hd ⟨6, Ground.data⟩ (by simp) rfl
      have ec : ∀ v, a'.eval (.const v) = v := fun _ => rfl
      have ef : ∀ g, a'.eval (.func g) = .func (.func g) #[] #[] := fun _ => rfl
      clear hd hs
      refine wpc ?_ (Calls.mono (refAt_some ep b o 10 cap l w' (by omega) (fun j hj => cell_later (hg0.out.trans' hg) (HC.out j hj))) fun e w2 ⟨he, hb⟩ => ⟨_, he, _, rfl, hb, rfl⟩)
      (generalize a'.eval = ev at ec ef e19 e20 ⊢; simp [execOp, go_sem, *])
    · refine stepOne_run ⟨⟨⟨1, Ground.guard⟩, by simp, rfl, rfl⟩, fun _ _ h => h⟩ ?_
      intro a' w' hg hs hd
      have e18 : a'.eval (.tmp 18) = .agg #[.int .i64 (atT ep 10 l).e, .int .i64 (atT ep 10 l).d, .int .i64 (atT ep 10 l).x, .int .i64 (atT ep 10 l).y, .int .i64 (atT ep 10 l).z] := hd ⟨4, Ground.data⟩ (by simp) rfl
      have e21 : a'.eval (.tmp 21) = .agg #[.int .i64 (atT ep 10 l).e, .int .i64 (atT ep 10 l).d, .int .i64 (atT ep 10 l).x, .int .i64 (atT ep 10 l).y, .int .i64 (atT ep 10 l).z] := hd ⟨7, Ground.data⟩ (by simp) rfl
      have ec : ∀ v, a'.eval (.const v) = v := fun _ => rfl
      have ef : ∀ g, a'.eval (.func g) = .func (.func g) #[] #[] := fun _ => rfl
      clear hd hs
      have es := eqB_same (atT ep 10 l)
      refine wpv (v := .bool true) ?_ ⟨_, rfl, Grow.rfl' _, rfl⟩
      (generalize a'.eval = ev at ec ef e18 e21 ⊢; simp [execOp, go_sem, *])
    · refine stepOne_run trivial ?_
      intro a' w' hg hs hd
      have e15 : a'.eval (.tmp 15) = .bool true := hd ⟨1, Ground.data⟩ (by simp) rfl
      have e22 : a'.eval (.tmp 22) = .bool true := hd ⟨8, Ground.data⟩ (by simp) rfl
      have ec : ∀ v, a'.eval (.const v) = v := fun _ => rfl
      have ef : ∀ g, a'.eval (.func g) = .func (.func g) #[] #[] := fun _ => rfl
      clear hd hs
      refine wpv (v := .bool true) ?_ ⟨_, rfl, Grow.rfl' _, rfl⟩
      (generalize a'.eval = ev at ec ef e15 e22 ⊢; simp [execOp, go_sem, *])
    · refine stepOne_run trivial ?_
      intro a' w' hg hs hd
      have e23 : a'.eval (.tmp 23) = .bool true := hd ⟨9, Ground.data⟩ (by simp) rfl
      have ec : ∀ v, a'.eval (.const v) = v := fun _ => rfl
      have ef : ∀ g, a'.eval (.func g) = .func (.func g) #[] #[] := fun _ => rfl
      clear hd hs
      refine wpv (v := .bool true) ?_ ⟨_, rfl, Grow.rfl' _, rfl⟩
      (generalize a'.eval = ev at ec ef e23 ⊢; simp [execOp, go_sem, *])
    · refine stepOne_run ⟨⟨⟨10, Ground.guard⟩, by simp, rfl, rfl⟩, fun _ _ h => h⟩ ?_
      intro a' w' hg hs hd
      have e5 : a'.eval (.tmp 5) = .pointer (some ⟨w.heap.size, 0, none⟩) := hs.rest 5 rfl
      have ec : ∀ v, a'.eval (.const v) = v := fun _ => rfl
      have ef : ∀ g, a'.eval (.func g) = .func (.func g) #[] #[] := fun _ => rfl
      clear hd hs
      obtain ⟨l0, l1, l2, l3, l4⟩ := KT.later hg
      refine wpv (v := .agg #[.int .i64 (t).e, .int .i64 (t).d, .int .i64 (t).x, .int .i64 (t).y, .int .i64 (t).z]) ?_ ⟨_, rfl, Grow.rfl' _, rfl⟩
      (generalize a'.eval = ev at ec ef e5 ⊢; simp [execOp, go_sem, *])
    · refine stepOne_run ⟨⟨⟨10, Ground.chain⟩, by simp, rfl, rfl⟩, fun _ _ h => h⟩ ?_
      intro a' w' hg hs hd
      have e25 : a'.eval (.tmp 25) = .agg #[.int .i64 (t).e, .int .i64 (t).d, .int .i64 (t).x, .int .i64 (t).y, .int .i64 (t).z] := hd ⟨11, Ground.data⟩ (by simp) rfl
      have ec : ∀ v, a'.eval (.const v) = v := fun _ => rfl
      have ef : ∀ g, a'.eval (.func g) = .func (.func g) #[] #[] := fun _ => rfl
      clear hd hs
      refine wpc ?_ (Calls.mono (may_any t w') fun e w2 ⟨he, hb⟩ => ⟨_, he, _, rfl, hb, rfl⟩)
      (generalize a'.eval = ev at ec ef e25 ⊢; simp [execOp, go_sem, *])
    · refine stepOne_run ⟨⟨⟨10, Ground.guard⟩, by simp, rfl, rfl⟩, fun _ _ h => h⟩ ?_
      intro a' w' hg hs hd
      have e5 : a'.eval (.tmp 5) = .pointer (some ⟨w.heap.size, 0, none⟩) := hs.rest 5 rfl
      have ec : ∀ v, a'.eval (.const v) = v := fun _ => rfl
      have ef : ∀ g, a'.eval (.func g) = .func (.func g) #[] #[] := fun _ => rfl
      clear hd hs
      obtain ⟨l0, l1, l2, l3, l4⟩ := KT.later hg
      refine wpv (v := .agg #[.int .i64 (t).e, .int .i64 (t).d, .int .i64 (t).x, .int .i64 (t).y, .int .i64 (t).z]) ?_ ⟨_, rfl, Grow.rfl' _, rfl⟩
      (generalize a'.eval = ev at ec ef e5 ⊢; simp [execOp, go_sem, *])
    · refine stepOne_run ⟨⟨⟨10, Ground.guard⟩, by simp, rfl, rfl⟩, fun _ _ h => h⟩ ?_
      intro a' w' hg hs hd
      have e27 : a'.eval (.tmp 27) = .agg #[.int .i64 (t).e, .int .i64 (t).d, .int .i64 (t).x, .int .i64 (t).y, .int .i64 (t).z] := hd ⟨13, Ground.data⟩ (by simp) rfl
      have ec : ∀ v, a'.eval (.const v) = v := fun _ => rfl
      have ef : ∀ g, a'.eval (.func g) = .func (.func g) #[] #[] := fun _ => rfl
      clear hd hs
      refine wpc ?_ (Calls.mono (refMay_any t w') fun e w2 ⟨he, hb⟩ => ⟨_, he, _, rfl, hb, rfl⟩)
      (generalize a'.eval = ev at ec ef e27 ⊢; simp [execOp, go_sem, *])
    · refine stepOne_run ⟨⟨⟨10, Ground.guard⟩, by simp, rfl, rfl⟩, fun _ _ h => h⟩ ?_
      intro a' w' hg hs hd
      have e26 : a'.eval (.tmp 26) = .bool (mayB t) := hd ⟨12, Ground.data⟩ (by simp) rfl
      have e28 : a'.eval (.tmp 28) = .bool (mayB t) := hd ⟨14, Ground.data⟩ (by simp) rfl
      have ec : ∀ v, a'.eval (.const v) = v := fun _ => rfl
      have ef : ∀ g, a'.eval (.func g) = .func (.func g) #[] #[] := fun _ => rfl
      clear hd hs
      refine wpv (v := .bool true) ?_ ⟨_, rfl, Grow.rfl' _, rfl⟩
      (generalize a'.eval = ev at ec ef e26 e28 ⊢; simp [execOp, go_sem, *])
    · refine stepOne_run trivial ?_
      intro a' w' hg hs hd
      have e24 : a'.eval (.tmp 24) = .bool true := hd ⟨10, Ground.data⟩ (by simp) rfl
      have e29 : a'.eval (.tmp 29) = .bool true := hd ⟨15, Ground.data⟩ (by simp) rfl
      have ec : ∀ v, a'.eval (.const v) = v := fun _ => rfl
      have ef : ∀ g, a'.eval (.func g) = .func (.func g) #[] #[] := fun _ => rfl
      clear hd hs
      refine wpv (v := .bool true) ?_ ⟨_, rfl, Grow.rfl' _, rfl⟩
      (generalize a'.eval = ev at ec ef e24 e29 ⊢; simp [execOp, go_sem, *])
    · refine stepOne_run trivial ?_
      intro a' w' hg hs hd
      have e30 : a'.eval (.tmp 30) = .bool true := hd ⟨16, Ground.data⟩ (by simp) rfl
      have ec : ∀ v, a'.eval (.const v) = v := fun _ => rfl
      have ef : ∀ g, a'.eval (.func g) = .func (.func g) #[] #[] := fun _ => rfl
      clear hd hs
      refine wpv (v := .bool true) ?_ ⟨_, rfl, Grow.rfl' _, rfl⟩
      (generalize a'.eval = ev at ec ef e30 ⊢; simp [execOp, go_sem, *])
  · intro a' w' hg hs hd
    have h0 : a'.eval (.tmp 6) = .bool true := hd 17 (by simp)
    go_wp2
    refine bodyPost_ret (v := .bool true) ?_ (by rw [hs.defers]) ⟨rfl, ((Grow.alloc' _ _).trans' hb1).trans' hg⟩
    clear hd hs
    simpa [results, Try.results3, Act.eval] using h0

theorem TsMakes_any (ep : Int) (s : Option Addr) (n cap : Nat) (l : Nat → Int) (t : Tm) (w : World) (h : IsInts w s n cap l) :
    Calls Try.prog 3 #[.int .i64 ep, .slice s n cap, .agg #[.int .i64 t.e, .int .i64 t.d, .int .i64 t.x, .int .i64 t.y, .int .i64 t.z]] w fun e w' => e = .returned (.bool true) ∧ Below w.heap.size w w' := by
  obtain ⟨hle, h⟩ := h
  by_cases h0 : n = 0
  · subst h0; exact TsMakes_none ep s cap l t w
  · rcases h with h | ⟨b, o, rfl, hc⟩
    · exact absurd h h0
    · by_cases h10 : n ≤ 10
      · exact TsMakes_some ep b o n cap l t w (by omega) h10 hc
      · exact TsMakes_many ep b o n cap l t w (by omega) hle hc

end Go.Proofs.Ytbohgfcndclbjaa
