/-
  What the law TsPartial does: for every three times it returns true, and what was there stays as it was.
-/
import Derived.Test.YtbohgfcndclbjaaFacts
import Derived.Test.YtbohgfcndclbjaaShown
import Derived.Test.YtbohgfcndclbjaaLess
import Derived.Test.YtbohgfcndclbjaaOd
import Derived.Test.YtbohgfcndclbjaaMy
namespace Go.Proofs.Ytbohgfcndclbjaa
open Go.RowKit
attribute [local go_sem ↓] eqTm
set_option linter.unusedVariables false

theorem order_small (a b : Tm) : -1 ≤ orderI a b ∧ orderI a b ≤ 1 := by
  unfold orderI
  have h1 := cmpI_cases a.d b.d
  have h2 := cmpI_cases a.e b.e
  have h3 := cmpI_cases a.x b.x
  have h4 := cmpI_cases a.y b.y
  have h5 := cmpI_cases a.z b.z
  repeat (first | split | omega)
theorem neg_wrap (a b : Tm) : IntKind.i64.wrap (-orderI b a) = -orderI b a := by
  have := order_small b a
  rw [IntKind.wrap_i64]; omega

theorem mayC (a : Tm) (p : Bool) (h : mayB a = p) (w : World) : Calls Try.prog 12 #[.agg #[.int .i64 a.e, .int .i64 a.d, .int .i64 a.x, .int .i64 a.y, .int .i64 a.z]] w fun e w' => e = .returned (.bool p) ∧ Below w.heap.size w w' := by
  rw [← h]; exact may_any a w
theorem leC (a b : Tm) (p : Bool) (h : leB a b = p) (w : World) : Calls Try.prog 18 #[.agg #[.int .i64 a.e, .int .i64 a.d, .int .i64 a.x, .int .i64 a.y, .int .i64 a.z], .agg #[.int .i64 b.e, .int .i64 b.d, .int .i64 b.x, .int .i64 b.y, .int .i64 b.z]] w fun e w' => e = .returned (.bool p) ∧ Below w.heap.size w w' := by
  rw [← h]; exact lessEq_any a b w
theorem lessC (a b : Tm) (p : Bool) (h : lessB a b = p) (w : World) : Calls Try.prog 20 #[.agg #[.int .i64 a.e, .int .i64 a.d, .int .i64 a.x, .int .i64 a.y, .int .i64 a.z], .agg #[.int .i64 b.e, .int .i64 b.d, .int .i64 b.x, .int .i64 b.y, .int .i64 b.z]] w fun e w' => e = .returned (.bool p) ∧ Below w.heap.size w w' := by
  rw [← h]; exact less_any a b w
theorem orderC (a b : Tm) (o : Int) (h : orderI a b = o) (w : World) : Calls Try.prog 22 #[.agg #[.int .i64 a.e, .int .i64 a.d, .int .i64 a.x, .int .i64 a.y, .int .i64 a.z], .agg #[.int .i64 b.e, .int .i64 b.d, .int .i64 b.x, .int .i64 b.y, .int .i64 b.z]] w fun e w' => e = .returned (.int .i64 o) ∧ Below w.heap.size w w' := by
  rw [← h]; exact order_any a b w

set_option maxHeartbeats 2000000 in
theorem TsPartial_no1 (a b c : Tm) (w : World) (hA : mayB a = false) :
    Calls Try.prog 6 #[.agg #[.int .i64 a.e, .int .i64 a.d, .int .i64 a.x, .int .i64 a.y, .int .i64 a.z], .agg #[.int .i64 b.e, .int .i64 b.d, .int .i64 b.x, .int .i64 b.y, .int .i64 b.z], .agg #[.int .i64 c.e, .int .i64 c.d, .int .i64 c.x, .int .i64 c.y, .int .i64 c.z]] w fun e w' => e = .returned (.bool true) ∧ Below w.heap.size w w' := by
  go_enter Try.func6, Try.ntmps6
  go_wp2_with fail
  refine (shown_any _).mono ?_
  rintro e w1 ⟨rfl, hb⟩
  have g1 := hb
  clear hb
  obtain ⟨hc, hf⟩ := bcell g1
  go_wp2_with fail
  refine (mayC a false hA _).mono ?_
  rintro e w2 ⟨rfl, hb⟩
  have g2 := Grow.trans' g1 hb
  clear hb g1 hc hf
  obtain ⟨hc, hf⟩ := bcell g2
  go_wp2
  go_ret
  exact ⟨rfl, Grow.trans' (((Grow.alloc' _ _).trans' (Grow.alloc' _ _)).trans' (Grow.alloc' _ _)) g2⟩

set_option maxHeartbeats 2000000 in
theorem TsPartial_no2 (a b c : Tm) (w : World) (hA : mayB a = true) (hB : mayB b = false) :
    Calls Try.prog 6 #[.agg #[.int .i64 a.e, .int .i64 a.d, .int .i64 a.x, .int .i64 a.y, .int .i64 a.z], .agg #[.int .i64 b.e, .int .i64 b.d, .int .i64 b.x, .int .i64 b.y, .int .i64 b.z], .agg #[.int .i64 c.e, .int .i64 c.d, .int .i64 c.x, .int .i64 c.y, .int .i64 c.z]] w fun e w' => e = .returned (.bool true) ∧ Below w.heap.size w w' := by
  go_enter Try.func6, Try.ntmps6
  go_wp2_with fail
  refine (shown_any _).mono ?_
  rintro e w1 ⟨rfl, hb⟩
  have g1 := hb
  clear hb
  obtain ⟨hc, hf⟩ := bcell g1
  go_wp2_with fail
  refine (mayC a true hA _).mono ?_
  rintro e w2 ⟨rfl, hb⟩
  have g2 := Grow.trans' g1 hb
  clear hb g1 hc hf
  obtain ⟨hc, hf⟩ := bcell g2
  go_wp2_with fail
  refine (mayC b false hB _).mono ?_
  rintro e w3 ⟨rfl, hb⟩
  have g3 := Grow.trans' g2 hb
  clear hb g2 hc hf
  obtain ⟨hc, hf⟩ := bcell g3
  go_wp2
  go_ret
  exact ⟨rfl, Grow.trans' (((Grow.alloc' _ _).trans' (Grow.alloc' _ _)).trans' (Grow.alloc' _ _)) g3⟩

set_option maxHeartbeats 2000000 in
theorem TsPartial_no3 (a b c : Tm) (w : World) (hA : mayB a = true) (hB : mayB b = true) (hC : mayB c = false) :
    Calls Try.prog 6 #[.agg #[.int .i64 a.e, .int .i64 a.d, .int .i64 a.x, .int .i64 a.y, .int .i64 a.z], .agg #[.int .i64 b.e, .int .i64 b.d, .int .i64 b.x, .int .i64 b.y, .int .i64 b.z], .agg #[.int .i64 c.e, .int .i64 c.d, .int .i64 c.x, .int .i64 c.y, .int .i64 c.z]] w fun e w' => e = .returned (.bool true) ∧ Below w.heap.size w w' := by
  go_enter Try.func6, Try.ntmps6
  go_wp2_with fail
  refine (shown_any _).mono ?_
  rintro e w1 ⟨rfl, hb⟩
  have g1 := hb
  clear hb
  obtain ⟨hc, hf⟩ := bcell g1
  go_wp2_with fail
  refine (mayC a true hA _).mono ?_
  rintro e w2 ⟨rfl, hb⟩
  have g2 := Grow.trans' g1 hb
  clear hb g1 hc hf
  obtain ⟨hc, hf⟩ := bcell g2
  go_wp2_with fail
  refine (mayC b true hB _).mono ?_
  rintro e w3 ⟨rfl, hb⟩
  have g3 := Grow.trans' g2 hb
  clear hb g2 hc hf
  obtain ⟨hc, hf⟩ := bcell g3
  go_wp2_with fail
  refine (mayC c false hC _).mono ?_
  rintro e w4 ⟨rfl, hb⟩
  have g4 := Grow.trans' g3 hb
  clear hb g3 hc hf
  obtain ⟨hc, hf⟩ := bcell g4
  go_wp2
  go_ret
  exact ⟨rfl, Grow.trans' (((Grow.alloc' _ _).trans' (Grow.alloc' _ _)).trans' (Grow.alloc' _ _)) g4⟩

set_option maxHeartbeats 4000000 in
theorem TsPartial_0 (a b c : Tm) (w : World) (hA : mayB a = true) (hB : mayB b = true) (hC : mayB c = true) (hp : leB a b = false) :
    Calls Try.prog 6 #[.agg #[.int .i64 a.e, .int .i64 a.d, .int .i64 a.x, .int .i64 a.y, .int .i64 a.z], .agg #[.int .i64 b.e, .int .i64 b.d, .int .i64 b.x, .int .i64 b.y, .int .i64 b.z], .agg #[.int .i64 c.e, .int .i64 c.d, .int .i64 c.x, .int .i64 c.y, .int .i64 c.z]] w fun e w' => e = .returned (.bool true) ∧ Below w.heap.size w w' := by
  have hl : lessB a b = false := by simp [lessB, hp]
  have haa := le_refl_may hA
  have hoo := order_anti a b
  have hls := less_self a
  have hA' := hide hA
  have hB' := hide hB
  have hC' := hide hC
  have hp' := hide hp
  have hl' := hide hl
  have haa' := hide haa
  have hoo' := hide hoo
  have hls' := hide hls
  clear hA hB hC hp hl haa hoo hls
  go_enter Try.func6, Try.ntmps6
  go_wp2_with fail
  refine (shown_any _).mono ?_
  rintro e w1 ⟨rfl, hb⟩
  have g1 := hb
  clear hb
  obtain ⟨hc, hf⟩ := bcell g1
  go_wp2_with fail
  refine (mayC a true hA'.out _).mono ?_
  rintro e w2 ⟨rfl, hb⟩
  have g2 := Grow.trans' g1 hb
  clear hb g1 hc hf
  obtain ⟨hc, hf⟩ := bcell g2
  go_wp2_with fail
  refine (mayC b true hB'.out _).mono ?_
  rintro e w3 ⟨rfl, hb⟩
  have g3 := Grow.trans' g2 hb
  clear hb g2 hc hf
  obtain ⟨hc, hf⟩ := bcell g3
  go_wp2_with fail
  refine (mayC c true hC'.out _).mono ?_
  rintro e w4 ⟨rfl, hb⟩
  have g4 := Grow.trans' g3 hb
  clear hb g3 hc hf
  obtain ⟨hc, hf⟩ := bcell g4
  go_wp2_with fail
  refine (leC a b false hp'.out _).mono ?_
  rintro e w5 ⟨rfl, hb⟩
  have g5 := Grow.trans' g4 hb
  clear hb g4 hc hf
  obtain ⟨hc, hf⟩ := bcell g5
  go_wp2_with fail
  refine (leC a b false hp'.out _).mono ?_
  rintro e w6 ⟨rfl, hb⟩
  have g6 := Grow.trans' g5 hb
  clear hb g5 hc hf
  obtain ⟨hc, hf⟩ := bcell g6
  go_wp2_with fail
  refine (lessC a b false hl'.out _).mono ?_
  rintro e w7 ⟨rfl, hb⟩
  have g7 := Grow.trans' g6 hb
  clear hb g6 hc hf
  obtain ⟨hc, hf⟩ := bcell g7
  have KA : Box w7 w.heap.size a := (((Box.new w a).later (Grow.alloc' _ _)).later (Grow.alloc' _ _)).later g7
  have KB : Box w7 (w.heap.size + 1) b := Box.later g7 (Box.later (Grow.alloc' _ _) (by simpa using Box.new (w.alloc (.cells #[.int .i64 a.e, .int .i64 a.d, .int .i64 a.x, .int .i64 a.y, .int .i64 a.z] 25)) b))
  go_wp2_with fail
  refine wp_region_inv (fun i v w => match i with | 0 => v = .bool true | 1 => v = .bool true | 2 => v = .agg #[.int .i64 (a).e, .int .i64 (a).d, .int .i64 (a).x, .int .i64 (a).y, .int .i64 (a).z] | 3 => v = .agg #[.int .i64 (a).e, .int .i64 (a).d, .int .i64 (a).x, .int .i64 (a).y, .int .i64 (a).z] | 4 => v = .bool true | 5 => v = .bool true | 6 => v = .bool true | 7 => v = .agg #[.int .i64 (a).e, .int .i64 (a).d, .int .i64 (a).x, .int .i64 (a).y, .int .i64 (a).z] | 8 => v = .agg #[.int .i64 (a).e, .int .i64 (a).d, .int .i64 (a).x, .int .i64 (a).y, .int .i64 (a).z] | 9 => v = .bool false | 10 => v = .bool true | 11 => v = .bool true | 12 => v = .bool true | 13 => v = .bool true | 14 => v = .bool true | 15 => v = .bool true | 16 => v = .bool true | 17 => v = .bool true | 18 => v = .bool true | 19 => v = .bool true | 20 => v = .bool true | 21 => v = .bool true | 22 => v = .agg #[.int .i64 (a).e, .int .i64 (a).d, .int .i64 (a).x, .int .i64 (a).y, .int .i64 (a).z] | 23 => v = .agg #[.int .i64 (b).e, .int .i64 (b).d, .int .i64 (b).x, .int .i64 (b).y, .int .i64 (b).z] | 24 => v = .int .i64 (-orderI b a) | 25 => v = .agg #[.int .i64 (b).e, .int .i64 (b).d, .int .i64 (b).x, .int .i64 (b).y, .int .i64 (b).z] | 26 => v = .agg #[.int .i64 (a).e, .int .i64 (a).d, .int .i64 (a).x, .int .i64 (a).y, .int .i64 (a).z] | 27 => v = .int .i64 (orderI b a) | 28 => v = .int .i64 (-orderI b a) | 29 => v = .bool true | 30 => v = .bool true | 31 => v = .bool true | _ => True) (by kernel_rfl) (by kernel_rfl) ?_ ?_ ?_
  · intro k v w1 w2 hg h
    match k with
    | 0 => exact h
    | 1 => exact h
    | 2 => exact h
    | 3 => exact h
    | 4 => exact h
    | 5 => exact h
    | 6 => exact h
    | 7 => exact h
    | 8 => exact h
    | 9 => exact h
    | 10 => exact h
    | 11 => exact h
    | 12 => exact h
    | 13 => exact h
    | 14 => exact h
    | 15 => exact h
    | 16 => exact h
    | 17 => exact h
    | 18 => exact h
    | 19 => exact h
    | 20 => exact h
    | 21 => exact h
    | 22 => exact h
    | 23 => exact h
    | 24 => exact h
    | 25 => exact h
    | 26 => exact h
    | 27 => exact h
    | 28 => exact h
    | 29 => exact h
    | 30 => exact h
    | 31 => exact h
    | k + 32 => exact trivial
  · refine ⟨?_, ?_, ?_, ?_, ?_, ?_, ?_, ?_, ?_, ?_, ?_, ?_, ?_, ?_, ?_, ?_, ?_, ?_, ?_, ?_, ?_, ?_, ?_, ?_, ?_, ?_, ?_, ?_, ?_, ?_, ?_, ?_, trivial⟩
    · refine stepOne_run trivial ?_
      intro a' w' hg hs hd
      have e7 : a'.eval (.tmp 7) = .bool true := hs.rest 7 rfl
      have ec : ∀ v, a'.eval (.const v) = v := fun _ => rfl
      have ef : ∀ g, a'.eval (.func g) = .func (.func g) #[] #[] := fun _ => rfl
      clear hd hs
      refine wpv (v := .bool true) ?_ ⟨_, rfl, Grow.rfl' _, rfl⟩
      (generalize a'.eval = ev at ec ef e7 ⊢; simp [execOp, go_sem, *])
    · refine stepOne_run trivial ?_
      intro a' w' hg hs hd
      have e66 : a'.eval (.tmp 66) = .bool true := hd ⟨0, Ground.data⟩ (by simp) rfl
      have ec : ∀ v, a'.eval (.const v) = v := fun _ => rfl
      have ef : ∀ g, a'.eval (.func g) = .func (.func g) #[] #[] := fun _ => rfl
      clear hd hs
      refine wpv (v := .bool true) ?_ ⟨_, rfl, Grow.rfl' _, rfl⟩
      (generalize a'.eval = ev at ec ef e66 ⊢; simp [execOp, go_sem, *])
    · refine stepOne_run ⟨⟨⟨1, Ground.guard⟩, by simp, rfl, rfl⟩, fun _ _ h => h⟩ ?_
      intro a' w' hg hs hd
      have e3 : a'.eval (.tmp 3) = .pointer (some ⟨w.heap.size, 0, none⟩) := hs.rest 3 rfl
      have ec : ∀ v, a'.eval (.const v) = v := fun _ => rfl
      have ef : ∀ g, a'.eval (.func g) = .func (.func g) #[] #[] := fun _ => rfl
      clear hd hs
      obtain ⟨l0, l1, l2, l3, l4⟩ := KA.later hg
      refine wpv (v := .agg #[.int .i64 (a).e, .int .i64 (a).d, .int .i64 (a).x, .int .i64 (a).y, .int .i64 (a).z]) ?_ ⟨_, rfl, Grow.rfl' _, rfl⟩
      (generalize a'.eval = ev at ec ef e3 ⊢; simp [execOp, go_sem, *])
    · refine stepOne_run ⟨⟨⟨1, Ground.guard⟩, by simp, rfl, rfl⟩, fun _ _ h => h⟩ ?_
      intro a' w' hg hs hd
      have e3 : a'.eval (.tmp 3) = .pointer (some ⟨w.heap.size, 0, none⟩) := hs.rest 3 rfl
      have ec : ∀ v, a'.eval (.const v) = v := fun _ => rfl
      have ef : ∀ g, a'.eval (.func g) = .func (.func g) #[] #[] := fun _ => rfl
      clear hd hs
      obtain ⟨l0, l1, l2, l3, l4⟩ := KA.later hg
      refine wpv (v := .agg #[.int .i64 (a).e, .int .i64 (a).d, .int .i64 (a).x, .int .i64 (a).y, .int .i64 (a).z]) ?_ ⟨_, rfl, Grow.rfl' _, rfl⟩
      (generalize a'.eval = ev at ec ef e3 ⊢; simp [execOp, go_sem, *])
    · refine stepOne_run ⟨⟨⟨1, Ground.chain⟩, by simp, rfl, rfl⟩, fun _ _ h => h⟩ ?_
      intro a' w' hg hs hd
      have e68 : a'.eval (.tmp 68) = .agg #[.int .i64 (a).e, .int .i64 (a).d, .int .i64 (a).x, .int .i64 (a).y, .int .i64 (a).z] := hd ⟨2, Ground.data⟩ (by simp) rfl
      have e69 : a'.eval (.tmp 69) = .agg #[.int .i64 (a).e, .int .i64 (a).d, .int .i64 (a).x, .int .i64 (a).y, .int .i64 (a).z] := hd ⟨3, Ground.data⟩ (by simp) rfl
      have ec : ∀ v, a'.eval (.const v) = v := fun _ => rfl
      have ef : ∀ g, a'.eval (.func g) = .func (.func g) #[] #[] := fun _ => rfl
      clear hd hs
      refine wpc ?_ (Calls.mono (leC a a true haa'.out w') fun e w2 ⟨he, hb⟩ => ⟨_, he, _, rfl, hb, rfl⟩)
      (generalize a'.eval = ev at ec ef e68 e69 ⊢; simp [execOp, go_sem, *])
    · refine stepOne_run trivial ?_
      intro a' w' hg hs hd
      have e67 : a'.eval (.tmp 67) = .bool true := hd ⟨1, Ground.data⟩ (by simp) rfl
      have e70 : a'.eval (.tmp 70) = .bool true := hd ⟨4, Ground.data⟩ (by simp) rfl
      have ec : ∀ v, a'.eval (.const v) = v := fun _ => rfl
      have ef : ∀ g, a'.eval (.func g) = .func (.func g) #[] #[] := fun _ => rfl
      clear hd hs
      refine wpv (v := .bool true) ?_ ⟨_, rfl, Grow.rfl' _, rfl⟩
      (generalize a'.eval = ev at ec ef e67 e70 ⊢; simp [execOp, go_sem, *])
    · refine stepOne_run trivial ?_
      intro a' w' hg hs hd
      have e71 : a'.eval (.tmp 71) = .bool true := hd ⟨5, Ground.data⟩ (by simp) rfl
      have ec : ∀ v, a'.eval (.const v) = v := fun _ => rfl
      have ef : ∀ g, a'.eval (.func g) = .func (.func g) #[] #[] := fun _ => rfl
      clear hd hs
      refine wpv (v := .bool true) ?_ ⟨_, rfl, Grow.rfl' _, rfl⟩
      (generalize a'.eval = ev at ec ef e71 ⊢; simp [execOp, go_sem, *])
    · refine stepOne_run ⟨⟨⟨6, Ground.guard⟩, by simp, rfl, rfl⟩, fun _ _ h => h⟩ ?_
      intro a' w' hg hs hd
      have e3 : a'.eval (.tmp 3) = .pointer (some ⟨w.heap.size, 0, none⟩) := hs.rest 3 rfl
      have ec : ∀ v, a'.eval (.const v) = v := fun _ => rfl
      have ef : ∀ g, a'.eval (.func g) = .func (.func g) #[] #[] := fun _ => rfl
      clear hd hs
      obtain ⟨l0, l1, l2, l3, l4⟩ := KA.later hg
      refine wpv (v := .agg #[.int .i64 (a).e, .int .i64 (a).d, .int .i64 (a).x, .int .i64 (a).y, .int .i64 (a).z]) ?_ ⟨_, rfl, Grow.rfl' _, rfl⟩
      (generalize a'.eval = ev at ec ef e3 ⊢; simp [execOp, go_sem, *])
    · refine stepOne_run ⟨⟨⟨6, Ground.guard⟩, by simp, rfl, rfl⟩, fun _ _ h => h⟩ ?_
      intro a' w' hg hs hd
      have e3 : a'.eval (.tmp 3) = .pointer (some ⟨w.heap.size, 0, none⟩) := hs.rest 3 rfl
      have ec : ∀ v, a'.eval (.const v) = v := fun _ => rfl
      have ef : ∀ g, a'.eval (.func g) = .func (.func g) #[] #[] := fun _ => rfl
      clear hd hs
      obtain ⟨l0, l1, l2, l3, l4⟩ := KA.later hg
      refine wpv (v := .agg #[.int .i64 (a).e, .int .i64 (a).d, .int .i64 (a).x, .int .i64 (a).y, .int .i64 (a).z]) ?_ ⟨_, rfl, Grow.rfl' _, rfl⟩
      (generalize a'.eval = ev at ec ef e3 ⊢; simp [execOp, go_sem, *])
    · refine stepOne_run ⟨⟨⟨6, Ground.chain⟩, by simp, rfl, rfl⟩, fun _ _ h => h⟩ ?_
      intro a' w' hg hs hd
      have e73 : a'.eval (.tmp 73) = .agg #[.int .i64 (a).e, .int .i64 (a).d, .int .i64 (a).x, .int .i64 (a).y, .int .i64 (a).z] := hd ⟨7, Ground.data⟩ (by simp) rfl
      have e74 : a'.eval (.tmp 74) = .agg #[.int .i64 (a).e, .int .i64 (a).d, .int .i64 (a).x, .int .i64 (a).y, .int .i64 (a).z] := hd ⟨8, Ground.data⟩ (by simp) rfl
      have ec : ∀ v, a'.eval (.const v) = v := fun _ => rfl
      have ef : ∀ g, a'.eval (.func g) = .func (.func g) #[] #[] := fun _ => rfl
      clear hd hs
      refine wpc ?_ (Calls.mono (lessC a a false hls'.out w') fun e w2 ⟨he, hb⟩ => ⟨_, he, _, rfl, hb, rfl⟩)
      (generalize a'.eval = ev at ec ef e73 e74 ⊢; simp [execOp, go_sem, *])
    · refine stepOne_run ⟨⟨⟨6, Ground.guard⟩, by simp, rfl, rfl⟩, fun _ _ h => h⟩ ?_
      intro a' w' hg hs hd
      have e75 : a'.eval (.tmp 75) = .bool false := hd ⟨9, Ground.data⟩ (by simp) rfl
      have ec : ∀ v, a'.eval (.const v) = v := fun _ => rfl
      have ef : ∀ g, a'.eval (.func g) = .func (.func g) #[] #[] := fun _ => rfl
      clear hd hs
      refine wpv (v := .bool true) ?_ ⟨_, rfl, Grow.rfl' _, rfl⟩
      (generalize a'.eval = ev at ec ef e75 ⊢; simp [execOp, go_sem, *])
    · refine stepOne_run trivial ?_
      intro a' w' hg hs hd
      have e72 : a'.eval (.tmp 72) = .bool true := hd ⟨6, Ground.data⟩ (by simp) rfl
      have e76 : a'.eval (.tmp 76) = .bool true := hd ⟨10, Ground.data⟩ (by simp) rfl
      have ec : ∀ v, a'.eval (.const v) = v := fun _ => rfl
      have ef : ∀ g, a'.eval (.func g) = .func (.func g) #[] #[] := fun _ => rfl
      clear hd hs
      refine wpv (v := .bool true) ?_ ⟨_, rfl, Grow.rfl' _, rfl⟩
      (generalize a'.eval = ev at ec ef e72 e76 ⊢; simp [execOp, go_sem, *])
    · refine stepOne_run trivial ?_
      intro a' w' hg hs hd
      have e77 : a'.eval (.tmp 77) = .bool true := hd ⟨11, Ground.data⟩ (by simp) rfl
      have ec : ∀ v, a'.eval (.const v) = v := fun _ => rfl
      have ef : ∀ g, a'.eval (.func g) = .func (.func g) #[] #[] := fun _ => rfl
      clear hd hs
      refine wpv (v := .bool true) ?_ ⟨_, rfl, Grow.rfl' _, rfl⟩
      (generalize a'.eval = ev at ec ef e77 ⊢; simp [execOp, go_sem, *])
    · refine stepOne_run ⟨⟨⟨12, Ground.guard⟩, by simp, rfl, rfl⟩, fun _ _ h => h⟩ ?_
      intro a' w' hg hs hd
      have e8 : a'.eval (.tmp 8) = .bool true := hs.rest 8 rfl
      have ec : ∀ v, a'.eval (.const v) = v := fun _ => rfl
      have ef : ∀ g, a'.eval (.func g) = .func (.func g) #[] #[] := fun _ => rfl
      clear hd hs
      refine wpv (v := .bool true) ?_ ⟨_, rfl, Grow.rfl' _, rfl⟩
      (generalize a'.eval = ev at ec ef e8 ⊢; simp [execOp, go_sem, *])
    · refine stepOne_run trivial ?_
      intro a' w' hg hs hd
      have e78 : a'.eval (.tmp 78) = .bool true := hd ⟨12, Ground.data⟩ (by simp) rfl
      have e79 : a'.eval (.tmp 79) = .bool true := hd ⟨13, Ground.data⟩ (by simp) rfl
      have ec : ∀ v, a'.eval (.const v) = v := fun _ => rfl
      have ef : ∀ g, a'.eval (.func g) = .func (.func g) #[] #[] := fun _ => rfl
      clear hd hs
      refine wpv (v := .bool true) ?_ ⟨_, rfl, Grow.rfl' _, rfl⟩
      (generalize a'.eval = ev at ec ef e78 e79 ⊢; simp [execOp, go_sem, *])
    · refine stepOne_run trivial ?_
      intro a' w' hg hs hd
      have e80 : a'.eval (.tmp 80) = .bool true := hd ⟨14, Ground.data⟩ (by simp) rfl
      have ec : ∀ v, a'.eval (.const v) = v := fun _ => rfl
      have ef : ∀ g, a'.eval (.func g) = .func (.func g) #[] #[] := fun _ => rfl
      clear hd hs
      refine wpv (v := .bool true) ?_ ⟨_, rfl, Grow.rfl' _, rfl⟩
      (generalize a'.eval = ev at ec ef e80 ⊢; simp [execOp, go_sem, *])
    · refine stepOne_run ⟨⟨⟨15, Ground.guard⟩, by simp, rfl, rfl⟩, fun _ _ h => h⟩ ?_
      intro a' w' hg hs hd
      have e9 : a'.eval (.tmp 9) = .bool true := hs.rest 9 rfl
      have ec : ∀ v, a'.eval (.const v) = v := fun _ => rfl
      have ef : ∀ g, a'.eval (.func g) = .func (.func g) #[] #[] := fun _ => rfl
      clear hd hs
      refine wpv (v := .bool true) ?_ ⟨_, rfl, Grow.rfl' _, rfl⟩
      (generalize a'.eval = ev at ec ef e9 ⊢; simp [execOp, go_sem, *])
    · refine stepOne_run trivial ?_
      intro a' w' hg hs hd
      have e81 : a'.eval (.tmp 81) = .bool true := hd ⟨15, Ground.data⟩ (by simp) rfl
      have e82 : a'.eval (.tmp 82) = .bool true := hd ⟨16, Ground.data⟩ (by simp) rfl
      have ec : ∀ v, a'.eval (.const v) = v := fun _ => rfl
      have ef : ∀ g, a'.eval (.func g) = .func (.func g) #[] #[] := fun _ => rfl
      clear hd hs
      refine wpv (v := .bool true) ?_ ⟨_, rfl, Grow.rfl' _, rfl⟩
      (generalize a'.eval = ev at ec ef e81 e82 ⊢; simp [execOp, go_sem, *])
    · refine stepOne_run trivial ?_
      intro a' w' hg hs hd
      have e83 : a'.eval (.tmp 83) = .bool true := hd ⟨17, Ground.data⟩ (by simp) rfl
      have ec : ∀ v, a'.eval (.const v) = v := fun _ => rfl
      have ef : ∀ g, a'.eval (.func g) = .func (.func g) #[] #[] := fun _ => rfl
      clear hd hs
      refine wpv (v := .bool true) ?_ ⟨_, rfl, Grow.rfl' _, rfl⟩
      (generalize a'.eval = ev at ec ef e83 ⊢; simp [execOp, go_sem, *])
    · refine stepOne_run ⟨⟨⟨18, Ground.guard⟩, by simp, rfl, rfl⟩, fun _ _ h => h⟩ ?_
      intro a' w' hg hs hd
      have e10 : a'.eval (.tmp 10) = .bool true := hs.rest 10 rfl
      have ec : ∀ v, a'.eval (.const v) = v := fun _ => rfl
      have ef : ∀ g, a'.eval (.func g) = .func (.func g) #[] #[] := fun _ => rfl
      clear hd hs
      refine wpv (v := .bool true) ?_ ⟨_, rfl, Grow.rfl' _, rfl⟩
      (generalize a'.eval = ev at ec ef e10 ⊢; simp [execOp, go_sem, *])
    · refine stepOne_run trivial ?_
      intro a' w' hg hs hd
      have e84 : a'.eval (.tmp 84) = .bool true := hd ⟨18, Ground.data⟩ (by simp) rfl
      have e85 : a'.eval (.tmp 85) = .bool true := hd ⟨19, Ground.data⟩ (by simp) rfl
      have ec : ∀ v, a'.eval (.const v) = v := fun _ => rfl
      have ef : ∀ g, a'.eval (.func g) = .func (.func g) #[] #[] := fun _ => rfl
      clear hd hs
      refine wpv (v := .bool true) ?_ ⟨_, rfl, Grow.rfl' _, rfl⟩
      (generalize a'.eval = ev at ec ef e84 e85 ⊢; simp [execOp, go_sem, *])
    · refine stepOne_run trivial ?_
      intro a' w' hg hs hd
      have e86 : a'.eval (.tmp 86) = .bool true := hd ⟨20, Ground.data⟩ (by simp) rfl
      have ec : ∀ v, a'.eval (.const v) = v := fun _ => rfl
      have ef : ∀ g, a'.eval (.func g) = .func (.func g) #[] #[] := fun _ => rfl
      clear hd hs
      refine wpv (v := .bool true) ?_ ⟨_, rfl, Grow.rfl' _, rfl⟩
      (generalize a'.eval = ev at ec ef e86 ⊢; simp [execOp, go_sem, *])
    · refine stepOne_run ⟨⟨⟨21, Ground.guard⟩, by simp, rfl, rfl⟩, fun _ _ h => h⟩ ?_
      intro a' w' hg hs hd
      have e3 : a'.eval (.tmp 3) = .pointer (some ⟨w.heap.size, 0, none⟩) := hs.rest 3 rfl
      have ec : ∀ v, a'.eval (.const v) = v := fun _ => rfl
      have ef : ∀ g, a'.eval (.func g) = .func (.func g) #[] #[] := fun _ => rfl
      clear hd hs
      obtain ⟨l0, l1, l2, l3, l4⟩ := KA.later hg
      refine wpv (v := .agg #[.int .i64 (a).e, .int .i64 (a).d, .int .i64 (a).x, .int .i64 (a).y, .int .i64 (a).z]) ?_ ⟨_, rfl, Grow.rfl' _, rfl⟩
      (generalize a'.eval = ev at ec ef e3 ⊢; simp [execOp, go_sem, *])
    · refine stepOne_run ⟨⟨⟨21, Ground.guard⟩, by simp, rfl, rfl⟩, fun _ _ h => h⟩ ?_
      intro a' w' hg hs hd
      have e4 : a'.eval (.tmp 4) = .pointer (some ⟨w.heap.size + 1, 0, none⟩) := hs.rest 4 rfl
      have ec : ∀ v, a'.eval (.const v) = v := fun _ => rfl
      have ef : ∀ g, a'.eval (.func g) = .func (.func g) #[] #[] := fun _ => rfl
      clear hd hs
      obtain ⟨l0, l1, l2, l3, l4⟩ := KB.later hg
      refine wpv (v := .agg #[.int .i64 (b).e, .int .i64 (b).d, .int .i64 (b).x, .int .i64 (b).y, .int .i64 (b).z]) ?_ ⟨_, rfl, Grow.rfl' _, rfl⟩
      (generalize a'.eval = ev at ec ef e4 ⊢; simp [execOp, go_sem, *])
    · refine stepOne_run ⟨⟨⟨21, Ground.chain⟩, by simp, rfl, rfl⟩, fun _ _ h => h⟩ ?_
      intro a' w' hg hs hd
      have e88 : a'.eval (.tmp 88) = .agg #[.int .i64 (a).e, .int .i64 (a).d, .int .i64 (a).x, .int .i64 (a).y, .int .i64 (a).z] := hd ⟨22, Ground.data⟩ (by simp) rfl
      have e89 : a'.eval (.tmp 89) = .agg #[.int .i64 (b).e, .int .i64 (b).d, .int .i64 (b).x, .int .i64 (b).y, .int .i64 (b).z] := hd ⟨23, Ground.data⟩ (by simp) rfl
      have ec : ∀ v, a'.eval (.const v) = v := fun _ => rfl
      have ef : ∀ g, a'.eval (.func g) = .func (.func g) #[] #[] := fun _ => rfl
      clear hd hs
      refine wpc ?_ (Calls.mono (orderC a b _ hoo'.out w') fun e w2 ⟨he, hb⟩ => ⟨_, he, _, rfl, hb, rfl⟩)
      (generalize a'.eval = ev at ec ef e88 e89 ⊢; simp [execOp, go_sem, *])
    · refine stepOne_run ⟨⟨⟨21, Ground.guard⟩, by simp, rfl, rfl⟩, fun _ _ h => h⟩ ?_
      intro a' w' hg hs hd
      have e4 : a'.eval (.tmp 4) = .pointer (some ⟨w.heap.size + 1, 0, none⟩) := hs.rest 4 rfl
      have ec : ∀ v, a'.eval (.const v) = v := fun _ => rfl
      have ef : ∀ g, a'.eval (.func g) = .func (.func g) #[] #[] := fun _ => rfl
      clear hd hs
      obtain ⟨l0, l1, l2, l3, l4⟩ := KB.later hg
      refine wpv (v := .agg #[.int .i64 (b).e, .int .i64 (b).d, .int .i64 (b).x, .int .i64 (b).y, .int .i64 (b).z]) ?_ ⟨_, rfl, Grow.rfl' _, rfl⟩
      (generalize a'.eval = ev at ec ef e4 ⊢; simp [execOp, go_sem, *])
    · refine stepOne_run ⟨⟨⟨21, Ground.guard⟩, by simp, rfl, rfl⟩, fun _ _ h => h⟩ ?_
      intro a' w' hg hs hd
      have e3 : a'.eval (.tmp 3) = .pointer (some ⟨w.heap.size, 0, none⟩) := hs.rest 3 rfl
      have ec : ∀ v, a'.eval (.const v) = v := fun _ => rfl
      have ef : ∀ g, a'.eval (.func g) = .func (.func g) #[] #[] := fun _ => rfl
      clear hd hs
      obtain ⟨l0, l1, l2, l3, l4⟩ := KA.later hg
      refine wpv (v := .agg #[.int .i64 (a).e, .int .i64 (a).d, .int .i64 (a).x, .int .i64 (a).y, .int .i64 (a).z]) ?_ ⟨_, rfl, Grow.rfl' _, rfl⟩
      (generalize a'.eval = ev at ec ef e3 ⊢; simp [execOp, go_sem, *])
    · refine stepOne_run ⟨⟨⟨21, Ground.guard⟩, by simp, rfl, rfl⟩, fun _ _ h => h⟩ ?_
      intro a' w' hg hs hd
      have e91 : a'.eval (.tmp 91) = .agg #[.int .i64 (b).e, .int .i64 (b).d, .int .i64 (b).x, .int .i64 (b).y, .int .i64 (b).z] := hd ⟨25, Ground.data⟩ (by simp) rfl
      have e92 : a'.eval (.tmp 92) = .agg #[.int .i64 (a).e, .int .i64 (a).d, .int .i64 (a).x, .int .i64 (a).y, .int .i64 (a).z] := hd ⟨26, Ground.data⟩ (by simp) rfl
      have ec : ∀ v, a'.eval (.const v) = v := fun _ => rfl
      have ef : ∀ g, a'.eval (.func g) = .func (.func g) #[] #[] := fun _ => rfl
      clear hd hs
      refine wpc ?_ (Calls.mono (order_any b a w') fun e w2 ⟨he, hb⟩ => ⟨_, he, _, rfl, hb, rfl⟩)
      (generalize a'.eval = ev at ec ef e91 e92 ⊢; simp [execOp, go_sem, *])
    · refine stepOne_run ⟨⟨⟨21, Ground.guard⟩, by simp, rfl, rfl⟩, fun _ _ h => h⟩ ?_
      intro a' w' hg hs hd
      have e93 : a'.eval (.tmp 93) = .int .i64 (orderI b a) := hd ⟨27, Ground.data⟩ (by simp) rfl
      have ec : ∀ v, a'.eval (.const v) = v := fun _ => rfl
      have ef : ∀ g, a'.eval (.func g) = .func (.func g) #[] #[] := fun _ => rfl
      clear hd hs
      have hw := neg_wrap a b
      refine wpv (v := .int .i64 (-orderI b a)) ?_ ⟨_, rfl, Grow.rfl' _, rfl⟩
      (generalize a'.eval = ev at ec ef e93 ⊢; simp [execOp, go_sem, *])
    · refine stepOne_run ⟨⟨⟨21, Ground.guard⟩, by simp, rfl, rfl⟩, fun _ _ h => h⟩ ?_
      intro a' w' hg hs hd
      have e90 : a'.eval (.tmp 90) = .int .i64 (-orderI b a) := hd ⟨24, Ground.data⟩ (by simp) rfl
      have e94 : a'.eval (.tmp 94) = .int .i64 (-orderI b a) := hd ⟨28, Ground.data⟩ (by simp) rfl
      have ec : ∀ v, a'.eval (.const v) = v := fun _ => rfl
      have ef : ∀ g, a'.eval (.func g) = .func (.func g) #[] #[] := fun _ => rfl
      clear hd hs
      refine wpv (v := .bool true) ?_ ⟨_, rfl, Grow.rfl' _, rfl⟩
      (generalize a'.eval = ev at ec ef e90 e94 ⊢; simp [execOp, go_sem, *])
    · refine stepOne_run trivial ?_
      intro a' w' hg hs hd
      have e87 : a'.eval (.tmp 87) = .bool true := hd ⟨21, Ground.data⟩ (by simp) rfl
      have e95 : a'.eval (.tmp 95) = .bool true := hd ⟨29, Ground.data⟩ (by simp) rfl
      have ec : ∀ v, a'.eval (.const v) = v := fun _ => rfl
      have ef : ∀ g, a'.eval (.func g) = .func (.func g) #[] #[] := fun _ => rfl
      clear hd hs
      refine wpv (v := .bool true) ?_ ⟨_, rfl, Grow.rfl' _, rfl⟩
      (generalize a'.eval = ev at ec ef e87 e95 ⊢; simp [execOp, go_sem, *])
    · refine stepOne_run trivial ?_
      intro a' w' hg hs hd
      have e96 : a'.eval (.tmp 96) = .bool true := hd ⟨30, Ground.data⟩ (by simp) rfl
      have ec : ∀ v, a'.eval (.const v) = v := fun _ => rfl
      have ef : ∀ g, a'.eval (.func g) = .func (.func g) #[] #[] := fun _ => rfl
      clear hd hs
      refine wpv (v := .bool true) ?_ ⟨_, rfl, Grow.rfl' _, rfl⟩
      (generalize a'.eval = ev at ec ef e96 ⊢; simp [execOp, go_sem, *])
  · intro a' w' hg hs hd
    have h0 : a'.eval (.tmp 6) = .bool true := hd 31 (by simp)
    go_wp2
    refine bodyPost_ret (v := .bool true) ?_ (by rw [hs.defers]) ⟨rfl, Grow.trans' (Grow.trans' (((Grow.alloc' _ _).trans' (Grow.alloc' _ _)).trans' (Grow.alloc' _ _)) g7) hg⟩
    clear hd hs
    simpa [results, Try.results6, Act.eval] using h0

set_option maxHeartbeats 4000000 in
theorem TsPartial_1 (a b c : Tm) (w : World) (hA : mayB a = true) (hB : mayB b = true) (hC : mayB c = true) (hp : leB a b = true) (hq : leB b a = false) (hr : leB b c = false) :
    Calls Try.prog 6 #[.agg #[.int .i64 a.e, .int .i64 a.d, .int .i64 a.x, .int .i64 a.y, .int .i64 a.z], .agg #[.int .i64 b.e, .int .i64 b.d, .int .i64 b.x, .int .i64 b.y, .int .i64 b.z], .agg #[.int .i64 c.e, .int .i64 c.d, .int .i64 c.x, .int .i64 c.y, .int .i64 c.z]] w fun e w' => e = .returned (.bool true) ∧ Below w.heap.size w w' := by
  have hl : lessB a b = true := by simp [lessB, hp, hq]
  have haa := le_refl_may hA
  have ho := less_ahead hA hB hl
  have hoo := order_anti a b
  have hls := less_self a
  have hA' := hide hA
  have hB' := hide hB
  have hC' := hide hC
  have hp' := hide hp
  have hl' := hide hl
  have haa' := hide haa
  have hoo' := hide hoo
  have hls' := hide hls
  have hq' := hide hq
  have hr' := hide hr
  have ho' := hide ho
  clear hA hB hC hp hl haa hoo hls hq hr ho
  go_enter Try.func6, Try.ntmps6
  go_wp2_with fail
  refine (shown_any _).mono ?_
  rintro e w1 ⟨rfl, hb⟩
  have g1 := hb
  clear hb
  obtain ⟨hc, hf⟩ := bcell g1
  go_wp2_with fail
  refine (mayC a true hA'.out _).mono ?_
  rintro e w2 ⟨rfl, hb⟩
  have g2 := Grow.trans' g1 hb
  clear hb g1 hc hf
  obtain ⟨hc, hf⟩ := bcell g2
  go_wp2_with fail
  refine (mayC b true hB'.out _).mono ?_
  rintro e w3 ⟨rfl, hb⟩
  have g3 := Grow.trans' g2 hb
  clear hb g2 hc hf
  obtain ⟨hc, hf⟩ := bcell g3
  go_wp2_with fail
  refine (mayC c true hC'.out _).mono ?_
  rintro e w4 ⟨rfl, hb⟩
  have g4 := Grow.trans' g3 hb
  clear hb g3 hc hf
  obtain ⟨hc, hf⟩ := bcell g4
  go_wp2_with fail
  refine (leC a b true hp'.out _).mono ?_
  rintro e w5 ⟨rfl, hb⟩
  have g5 := Grow.trans' g4 hb
  clear hb g4 hc hf
  obtain ⟨hc, hf⟩ := bcell g5
  go_wp2_with fail
  refine (leC b a false hq'.out _).mono ?_
  rintro e w6 ⟨rfl, hb⟩
  have g6 := Grow.trans' g5 hb
  clear hb g5 hc hf
  obtain ⟨hc, hf⟩ := bcell g6
  go_wp2_with fail
  refine (leC a b true hp'.out _).mono ?_
  rintro e w7 ⟨rfl, hb⟩
  have g7 := Grow.trans' g6 hb
  clear hb g6 hc hf
  obtain ⟨hc, hf⟩ := bcell g7
  go_wp2_with fail
  refine (leC b c false hr'.out _).mono ?_
  rintro e w8 ⟨rfl, hb⟩
  have g8 := Grow.trans' g7 hb
  clear hb g7 hc hf
  obtain ⟨hc, hf⟩ := bcell g8
  go_wp2_with fail
  refine (lessC a b true hl'.out _).mono ?_
  rintro e w9 ⟨rfl, hb⟩
  have g9 := Grow.trans' g8 hb
  clear hb g8 hc hf
  obtain ⟨hc, hf⟩ := bcell g9
  go_wp2_with fail
  refine (orderC a b (-1) ho'.out _).mono ?_
  rintro e w10 ⟨rfl, hb⟩
  have g10 := Grow.trans' g9 hb
  clear hb g9 hc hf
  obtain ⟨hc, hf⟩ := bcell g10
  have KA : Box w10 w.heap.size a := (((Box.new w a).later (Grow.alloc' _ _)).later (Grow.alloc' _ _)).later g10
  have KB : Box w10 (w.heap.size + 1) b := Box.later g10 (Box.later (Grow.alloc' _ _) (by simpa using Box.new (w.alloc (.cells #[.int .i64 a.e, .int .i64 a.d, .int .i64 a.x, .int .i64 a.y, .int .i64 a.z] 25)) b))
  go_wp2_with fail
  refine wp_region_inv (fun i v w => match i with | 0 => v = .bool true | 1 => v = .bool true | 2 => v = .agg #[.int .i64 (a).e, .int .i64 (a).d, .int .i64 (a).x, .int .i64 (a).y, .int .i64 (a).z] | 3 => v = .agg #[.int .i64 (a).e, .int .i64 (a).d, .int .i64 (a).x, .int .i64 (a).y, .int .i64 (a).z] | 4 => v = .bool true | 5 => v = .bool true | 6 => v = .bool true | 7 => v = .agg #[.int .i64 (a).e, .int .i64 (a).d, .int .i64 (a).x, .int .i64 (a).y, .int .i64 (a).z] | 8 => v = .agg #[.int .i64 (a).e, .int .i64 (a).d, .int .i64 (a).x, .int .i64 (a).y, .int .i64 (a).z] | 9 => v = .bool false | 10 => v = .bool true | 11 => v = .bool true | 12 => v = .bool true | 13 => v = .bool true | 14 => v = .bool true | 15 => v = .bool true | 16 => v = .bool true | 17 => v = .bool true | 18 => v = .bool true | 19 => v = .bool true | 20 => v = .bool true | 21 => v = .bool true | 22 => v = .agg #[.int .i64 (a).e, .int .i64 (a).d, .int .i64 (a).x, .int .i64 (a).y, .int .i64 (a).z] | 23 => v = .agg #[.int .i64 (b).e, .int .i64 (b).d, .int .i64 (b).x, .int .i64 (b).y, .int .i64 (b).z] | 24 => v = .int .i64 (-orderI b a) | 25 => v = .agg #[.int .i64 (b).e, .int .i64 (b).d, .int .i64 (b).x, .int .i64 (b).y, .int .i64 (b).z] | 26 => v = .agg #[.int .i64 (a).e, .int .i64 (a).d, .int .i64 (a).x, .int .i64 (a).y, .int .i64 (a).z] | 27 => v = .int .i64 (orderI b a) | 28 => v = .int .i64 (-orderI b a) | 29 => v = .bool true | 30 => v = .bool true | 31 => v = .bool true | _ => True) (by kernel_rfl) (by kernel_rfl) ?_ ?_ ?_
  · intro k v w1 w2 hg h
    match k with
    | 0 => exact h
    | 1 => exact h
    | 2 => exact h
    | 3 => exact h
    | 4 => exact h
    | 5 => exact h
    | 6 => exact h
    | 7 => exact h
    | 8 => exact h
    | 9 => exact h
    | 10 => exact h
    | 11 => exact h
    | 12 => exact h
    | 13 => exact h
    | 14 => exact h
    | 15 => exact h
    | 16 => exact h
    | 17 => exact h
    | 18 => exact h
    | 19 => exact h
    | 20 => exact h
    | 21 => exact h
    | 22 => exact h
    | 23 => exact h
    | 24 => exact h
    | 25 => exact h
    | 26 => exact h
    | 27 => exact h
    | 28 => exact h
    | 29 => exact h
    | 30 => exact h
    | 31 => exact h
    | k + 32 => exact trivial
  · refine ⟨?_, ?_, ?_, ?_, ?_, ?_, ?_, ?_, ?_, ?_, ?_, ?_, ?_, ?_, ?_, ?_, ?_, ?_, ?_, ?_, ?_, ?_, ?_, ?_, ?_, ?_, ?_, ?_, ?_, ?_, ?_, ?_, trivial⟩
    · refine stepOne_run trivial ?_
      intro a' w' hg hs hd
      have e7 : a'.eval (.tmp 7) = .bool true := hs.rest 7 rfl
      have ec : ∀ v, a'.eval (.const v) = v := fun _ => rfl
      have ef : ∀ g, a'.eval (.func g) = .func (.func g) #[] #[] := fun _ => rfl
      clear hd hs
      refine wpv (v := .bool true) ?_ ⟨_, rfl, Grow.rfl' _, rfl⟩
      (generalize a'.eval = ev at ec ef e7 ⊢; simp [execOp, go_sem, *])
    · refine stepOne_run trivial ?_
      intro a' w' hg hs hd
      have e66 : a'.eval (.tmp 66) = .bool true := hd ⟨0, Ground.data⟩ (by simp) rfl
      have ec : ∀ v, a'.eval (.const v) = v := fun _ => rfl
      have ef : ∀ g, a'.eval (.func g) = .func (.func g) #[] #[] := fun _ => rfl
      clear hd hs
      refine wpv (v := .bool true) ?_ ⟨_, rfl, Grow.rfl' _, rfl⟩
      (generalize a'.eval = ev at ec ef e66 ⊢; simp [execOp, go_sem, *])
    · refine stepOne_run ⟨⟨⟨1, Ground.guard⟩, by simp, rfl, rfl⟩, fun _ _ h => h⟩ ?_
      intro a' w' hg hs hd
      have e3 : a'.eval (.tmp 3) = .pointer (some ⟨w.heap.size, 0, none⟩) := hs.rest 3 rfl
      have ec : ∀ v, a'.eval (.const v) = v := fun _ => rfl
      have ef : ∀ g, a'.eval (.func g) = .func (.func g) #[] #[] := fun _ => rfl
      clear hd hs
      obtain ⟨l0, l1, l2, l3, l4⟩ := KA.later hg
      refine wpv (v := .agg #[.int .i64 (a).e, .int .i64 (a).d, .int .i64 (a).x, .int .i64 (a).y, .int .i64 (a).z]) ?_ ⟨_, rfl, Grow.rfl' _, rfl⟩
      (generalize a'.eval = ev at ec ef e3 ⊢; simp [execOp, go_sem, *])
    · refine stepOne_run ⟨⟨⟨1, Ground.guard⟩, by simp, rfl, rfl⟩, fun _ _ h => h⟩ ?_
      intro a' w' hg hs hd
      have e3 : a'.eval (.tmp 3) = .pointer (some ⟨w.heap.size, 0, none⟩) := hs.rest 3 rfl
      have ec : ∀ v, a'.eval (.const v) = v := fun _ => rfl
      have ef : ∀ g, a'.eval (.func g) = .func (.func g) #[] #[] := fun _ => rfl
      clear hd hs
      obtain ⟨l0, l1, l2, l3, l4⟩ := KA.later hg
      refine wpv (v := .agg #[.int .i64 (a).e, .int .i64 (a).d, .int .i64 (a).x, .int .i64 (a).y, .int .i64 (a).z]) ?_ ⟨_, rfl, Grow.rfl' _, rfl⟩
      (generalize a'.eval = ev at ec ef e3 ⊢; simp [execOp, go_sem, *])
    · refine stepOne_run ⟨⟨⟨1, Ground.chain⟩, by simp, rfl, rfl⟩, fun _ _ h => h⟩ ?_
      intro a' w' hg hs hd
      have e68 : a'.eval (.tmp 68) = .agg #[.int .i64 (a).e, .int .i64 (a).d, .int .i64 (a).x, .int .i64 (a).y, .int .i64 (a).z] := hd ⟨2, Ground.data⟩ (by simp) rfl
      have e69 : a'.eval (.tmp 69) = .agg #[.int .i64 (a).e, .int .i64 (a).d, .int .i64 (a).x, .int .i64 (a).y, .int .i64 (a).z] := hd ⟨3, Ground.data⟩ (by simp) rfl
      have ec : ∀ v, a'.eval (.const v) = v := fun _ => rfl
      have ef : ∀ g, a'.eval (.func g) = .func (.func g) #[] #[] := fun _ => rfl
      clear hd hs
      refine wpc ?_ (Calls.mono (leC a a true haa'.out w') fun e w2 ⟨he, hb⟩ => ⟨_, he, _, rfl, hb, rfl⟩)
      (generalize a'.eval = ev at ec ef e68 e69 ⊢; simp [execOp, go_sem, *])
    · refine stepOne_run trivial ?_
      intro a' w' hg hs hd
      have e67 : a'.eval (.tmp 67) = .bool true := hd ⟨1, Ground.data⟩ (by simp) rfl
      have e70 : a'.eval (.tmp 70) = .bool true := hd ⟨4, Ground.data⟩ (by simp) rfl
      have ec : ∀ v, a'.eval (.const v) = v := fun _ => rfl
      have ef : ∀ g, a'.eval (.func g) = .func (.func g) #[] #[] := fun _ => rfl
      clear hd hs
      refine wpv (v := .bool true) ?_ ⟨_, rfl, Grow.rfl' _, rfl⟩
      (generalize a'.eval = ev at ec ef e67 e70 ⊢; simp [execOp, go_sem, *])
    · refine stepOne_run trivial ?_
      intro a' w' hg hs hd
      have e71 : a'.eval (.tmp 71) = .bool true := hd ⟨5, Ground.data⟩ (by simp) rfl
      have ec : ∀ v, a'.eval (.const v) = v := fun _ => rfl
      have ef : ∀ g, a'.eval (.func g) = .func (.func g) #[] #[] := fun _ => rfl
      clear hd hs
      refine wpv (v := .bool true) ?_ ⟨_, rfl, Grow.rfl' _, rfl⟩
      (generalize a'.eval = ev at ec ef e71 ⊢; simp [execOp, go_sem, *])
    · refine stepOne_run ⟨⟨⟨6, Ground.guard⟩, by simp, rfl, rfl⟩, fun _ _ h => h⟩ ?_
      intro a' w' hg hs hd
      have e3 : a'.eval (.tmp 3) = .pointer (some ⟨w.heap.size, 0, none⟩) := hs.rest 3 rfl
      have ec : ∀ v, a'.eval (.const v) = v := fun _ => rfl
      have ef : ∀ g, a'.eval (.func g) = .func (.func g) #[] #[] := fun _ => rfl
      clear hd hs
      obtain ⟨l0, l1, l2, l3, l4⟩ := KA.later hg
      refine wpv (v := .agg #[.int .i64 (a).e, .int .i64 (a).d, .int .i64 (a).x, .int .i64 (a).y, .int .i64 (a).z]) ?_ ⟨_, rfl, Grow.rfl' _, rfl⟩
      (generalize a'.eval = ev at ec ef e3 ⊢; simp [execOp, go_sem, *])
    · refine stepOne_run ⟨⟨⟨6, Ground.guard⟩, by simp, rfl, rfl⟩, fun _ _ h => h⟩ ?_
      intro a' w' hg hs hd
      have e3 : a'.eval (.tmp 3) = .pointer (some ⟨w.heap.size, 0, none⟩) := hs.rest 3 rfl
      have ec : ∀ v, a'.eval (.const v) = v := fun _ => rfl
      have ef : ∀ g, a'.eval (.func g) = .func (.func g) #[] #[] := fun _ => rfl
      clear hd hs
      obtain ⟨l0, l1, l2, l3, l4⟩ := KA.later hg
      refine wpv (v := .agg #[.int .i64 (a).e, .int .i64 (a).d, .int .i64 (a).x, .int .i64 (a).y, .int .i64 (a).z]) ?_ ⟨_, rfl, Grow.rfl' _, rfl⟩
      (generalize a'.eval = ev at ec ef e3 ⊢; simp [execOp, go_sem, *])
    · refine stepOne_run ⟨⟨⟨6, Ground.chain⟩, by simp, rfl, rfl⟩, fun _ _ h => h⟩ ?_
      intro a' w' hg hs hd
      have e73 : a'.eval (.tmp 73) = .agg #[.int .i64 (a).e, .int .i64 (a).d, .int .i64 (a).x, .int .i64 (a).y, .int .i64 (a).z] := hd ⟨7, Ground.data⟩ (by simp) rfl
      have e74 : a'.eval (.tmp 74) = .agg #[.int .i64 (a).e, .int .i64 (a).d, .int .i64 (a).x, .int .i64 (a).y, .int .i64 (a).z] := hd ⟨8, Ground.data⟩ (by simp) rfl
      have ec : ∀ v, a'.eval (.const v) = v := fun _ => rfl
      have ef : ∀ g, a'.eval (.func g) = .func (.func g) #[] #[] := fun _ => rfl
      clear hd hs
      refine wpc ?_ (Calls.mono (lessC a a false hls'.out w') fun e w2 ⟨he, hb⟩ => ⟨_, he, _, rfl, hb, rfl⟩)
      (generalize a'.eval = ev at ec ef e73 e74 ⊢; simp [execOp, go_sem, *])
    · refine stepOne_run ⟨⟨⟨6, Ground.guard⟩, by simp, rfl, rfl⟩, fun _ _ h => h⟩ ?_
      intro a' w' hg hs hd
      have e75 : a'.eval (.tmp 75) = .bool false := hd ⟨9, Ground.data⟩ (by simp) rfl
      have ec : ∀ v, a'.eval (.const v) = v := fun _ => rfl
      have ef : ∀ g, a'.eval (.func g) = .func (.func g) #[] #[] := fun _ => rfl
      clear hd hs
      refine wpv (v := .bool true) ?_ ⟨_, rfl, Grow.rfl' _, rfl⟩
      (generalize a'.eval = ev at ec ef e75 ⊢; simp [execOp, go_sem, *])
    · refine stepOne_run trivial ?_
      intro a' w' hg hs hd
      have e72 : a'.eval (.tmp 72) = .bool true := hd ⟨6, Ground.data⟩ (by simp) rfl
      have e76 : a'.eval (.tmp 76) = .bool true := hd ⟨10, Ground.data⟩ (by simp) rfl
      have ec : ∀ v, a'.eval (.const v) = v := fun _ => rfl
      have ef : ∀ g, a'.eval (.func g) = .func (.func g) #[] #[] := fun _ => rfl
      clear hd hs
      refine wpv (v := .bool true) ?_ ⟨_, rfl, Grow.rfl' _, rfl⟩
      (generalize a'.eval = ev at ec ef e72 e76 ⊢; simp [execOp, go_sem, *])
    · refine stepOne_run trivial ?_
      intro a' w' hg hs hd
      have e77 : a'.eval (.tmp 77) = .bool true := hd ⟨11, Ground.data⟩ (by simp) rfl
      have ec : ∀ v, a'.eval (.const v) = v := fun _ => rfl
      have ef : ∀ g, a'.eval (.func g) = .func (.func g) #[] #[] := fun _ => rfl
      clear hd hs
      refine wpv (v := .bool true) ?_ ⟨_, rfl, Grow.rfl' _, rfl⟩
      (generalize a'.eval = ev at ec ef e77 ⊢; simp [execOp, go_sem, *])
    · refine stepOne_run ⟨⟨⟨12, Ground.guard⟩, by simp, rfl, rfl⟩, fun _ _ h => h⟩ ?_
      intro a' w' hg hs hd
      have e8 : a'.eval (.tmp 8) = .bool true := hs.rest 8 rfl
      have ec : ∀ v, a'.eval (.const v) = v := fun _ => rfl
      have ef : ∀ g, a'.eval (.func g) = .func (.func g) #[] #[] := fun _ => rfl
      clear hd hs
      refine wpv (v := .bool true) ?_ ⟨_, rfl, Grow.rfl' _, rfl⟩
      (generalize a'.eval = ev at ec ef e8 ⊢; simp [execOp, go_sem, *])
    · refine stepOne_run trivial ?_
      intro a' w' hg hs hd
      have e78 : a'.eval (.tmp 78) = .bool true := hd ⟨12, Ground.data⟩ (by simp) rfl
      have e79 : a'.eval (.tmp 79) = .bool true := hd ⟨13, Ground.data⟩ (by simp) rfl
      have ec : ∀ v, a'.eval (.const v) = v := fun _ => rfl
      have ef : ∀ g, a'.eval (.func g) = .func (.func g) #[] #[] := fun _ => rfl
      clear hd hs
      refine wpv (v := .bool true) ?_ ⟨_, rfl, Grow.rfl' _, rfl⟩
      (generalize a'.eval = ev at ec ef e78 e79 ⊢; simp [execOp, go_sem, *])
    · refine stepOne_run trivial ?_
      intro a' w' hg hs hd
      have e80 : a'.eval (.tmp 80) = .bool true := hd ⟨14, Ground.data⟩ (by simp) rfl
      have ec : ∀ v, a'.eval (.const v) = v := fun _ => rfl
      have ef : ∀ g, a'.eval (.func g) = .func (.func g) #[] #[] := fun _ => rfl
      clear hd hs
      refine wpv (v := .bool true) ?_ ⟨_, rfl, Grow.rfl' _, rfl⟩
      (generalize a'.eval = ev at ec ef e80 ⊢; simp [execOp, go_sem, *])
    · refine stepOne_run ⟨⟨⟨15, Ground.guard⟩, by simp, rfl, rfl⟩, fun _ _ h => h⟩ ?_
      intro a' w' hg hs hd
      have e9 : a'.eval (.tmp 9) = .bool true := hs.rest 9 rfl
      have ec : ∀ v, a'.eval (.const v) = v := fun _ => rfl
      have ef : ∀ g, a'.eval (.func g) = .func (.func g) #[] #[] := fun _ => rfl
      clear hd hs
      refine wpv (v := .bool true) ?_ ⟨_, rfl, Grow.rfl' _, rfl⟩
      (generalize a'.eval = ev at ec ef e9 ⊢; simp [execOp, go_sem, *])
    · refine stepOne_run trivial ?_
      intro a' w' hg hs hd
      have e81 : a'.eval (.tmp 81) = .bool true := hd ⟨15, Ground.data⟩ (by simp) rfl
      have e82 : a'.eval (.tmp 82) = .bool true := hd ⟨16, Ground.data⟩ (by simp) rfl
      have ec : ∀ v, a'.eval (.const v) = v := fun _ => rfl
      have ef : ∀ g, a'.eval (.func g) = .func (.func g) #[] #[] := fun _ => rfl
      clear hd hs
      refine wpv (v := .bool true) ?_ ⟨_, rfl, Grow.rfl' _, rfl⟩
      (generalize a'.eval = ev at ec ef e81 e82 ⊢; simp [execOp, go_sem, *])
    · refine stepOne_run trivial ?_
      intro a' w' hg hs hd
      have e83 : a'.eval (.tmp 83) = .bool true := hd ⟨17, Ground.data⟩ (by simp) rfl
      have ec : ∀ v, a'.eval (.const v) = v := fun _ => rfl
      have ef : ∀ g, a'.eval (.func g) = .func (.func g) #[] #[] := fun _ => rfl
      clear hd hs
      refine wpv (v := .bool true) ?_ ⟨_, rfl, Grow.rfl' _, rfl⟩
      (generalize a'.eval = ev at ec ef e83 ⊢; simp [execOp, go_sem, *])
    · refine stepOne_run ⟨⟨⟨18, Ground.guard⟩, by simp, rfl, rfl⟩, fun _ _ h => h⟩ ?_
      intro a' w' hg hs hd
      have e10 : a'.eval (.tmp 10) = .bool true := hs.rest 10 rfl
      have ec : ∀ v, a'.eval (.const v) = v := fun _ => rfl
      have ef : ∀ g, a'.eval (.func g) = .func (.func g) #[] #[] := fun _ => rfl
      clear hd hs
      refine wpv (v := .bool true) ?_ ⟨_, rfl, Grow.rfl' _, rfl⟩
      (generalize a'.eval = ev at ec ef e10 ⊢; simp [execOp, go_sem, *])
    · refine stepOne_run trivial ?_
      intro a' w' hg hs hd
      have e84 : a'.eval (.tmp 84) = .bool true := hd ⟨18, Ground.data⟩ (by simp) rfl
      have e85 : a'.eval (.tmp 85) = .bool true := hd ⟨19, Ground.data⟩ (by simp) rfl
      have ec : ∀ v, a'.eval (.const v) = v := fun _ => rfl
      have ef : ∀ g, a'.eval (.func g) = .func (.func g) #[] #[] := fun _ => rfl
      clear hd hs
      refine wpv (v := .bool true) ?_ ⟨_, rfl, Grow.rfl' _, rfl⟩
      (generalize a'.eval = ev at ec ef e84 e85 ⊢; simp [execOp, go_sem, *])
    · refine stepOne_run trivial ?_
      intro a' w' hg hs hd
      have e86 : a'.eval (.tmp 86) = .bool true := hd ⟨20, Ground.data⟩ (by simp) rfl
      have ec : ∀ v, a'.eval (.const v) = v := fun _ => rfl
      have ef : ∀ g, a'.eval (.func g) = .func (.func g) #[] #[] := fun _ => rfl
      clear hd hs
      refine wpv (v := .bool true) ?_ ⟨_, rfl, Grow.rfl' _, rfl⟩
      (generalize a'.eval = ev at ec ef e86 ⊢; simp [execOp, go_sem, *])
    · refine stepOne_run ⟨⟨⟨21, Ground.guard⟩, by simp, rfl, rfl⟩, fun _ _ h => h⟩ ?_
      intro a' w' hg hs hd
      have e3 : a'.eval (.tmp 3) = .pointer (some ⟨w.heap.size, 0, none⟩) := hs.rest 3 rfl
      have ec : ∀ v, a'.eval (.const v) = v := fun _ => rfl
      have ef : ∀ g, a'.eval (.func g) = .func (.func g) #[] #[] := fun _ => rfl
      clear hd hs
      obtain ⟨l0, l1, l2, l3, l4⟩ := KA.later hg
      refine wpv (v := .agg #[.int .i64 (a).e, .int .i64 (a).d, .int .i64 (a).x, .int .i64 (a).y, .int .i64 (a).z]) ?_ ⟨_, rfl, Grow.rfl' _, rfl⟩
      (generalize a'.eval = ev at ec ef e3 ⊢; simp [execOp, go_sem, *])
    · refine stepOne_run ⟨⟨⟨21, Ground.guard⟩, by simp, rfl, rfl⟩, fun _ _ h => h⟩ ?_
      intro a' w' hg hs hd
      have e4 : a'.eval (.tmp 4) = .pointer (some ⟨w.heap.size + 1, 0, none⟩) := hs.rest 4 rfl
      have ec : ∀ v, a'.eval (.const v) = v := fun _ => rfl
      have ef : ∀ g, a'.eval (.func g) = .func (.func g) #[] #[] := fun _ => rfl
      clear hd hs
      obtain ⟨l0, l1, l2, l3, l4⟩ := KB.later hg
      refine wpv (v := .agg #[.int .i64 (b).e, .int .i64 (b).d, .int .i64 (b).x, .int .i64 (b).y, .int .i64 (b).z]) ?_ ⟨_, rfl, Grow.rfl' _, rfl⟩
      (generalize a'.eval = ev at ec ef e4 ⊢; simp [execOp, go_sem, *])
    · refine stepOne_run ⟨⟨⟨21, Ground.chain⟩, by simp, rfl, rfl⟩, fun _ _ h => h⟩ ?_
      intro a' w' hg hs hd
      have e88 : a'.eval (.tmp 88) = .agg #[.int .i64 (a).e, .int .i64 (a).d, .int .i64 (a).x, .int .i64 (a).y, .int .i64 (a).z] := hd ⟨22, Ground.data⟩ (by simp) rfl
      have e89 : a'.eval (.tmp 89) = .agg #[.int .i64 (b).e, .int .i64 (b).d, .int .i64 (b).x, .int .i64 (b).y, .int .i64 (b).z] := hd ⟨23, Ground.data⟩ (by simp) rfl
      have ec : ∀ v, a'.eval (.const v) = v := fun _ => rfl
      have ef : ∀ g, a'.eval (.func g) = .func (.func g) #[] #[] := fun _ => rfl
      clear hd hs
      refine wpc ?_ (Calls.mono (orderC a b _ hoo'.out w') fun e w2 ⟨he, hb⟩ => ⟨_, he, _, rfl, hb, rfl⟩)
      (generalize a'.eval = ev at ec ef e88 e89 ⊢; simp [execOp, go_sem, *])
    · refine stepOne_run ⟨⟨⟨21, Ground.guard⟩, by simp, rfl, rfl⟩, fun _ _ h => h⟩ ?_
      intro a' w' hg hs hd
      have e4 : a'.eval (.tmp 4) = .pointer (some ⟨w.heap.size + 1, 0, none⟩) := hs.rest 4 rfl
      have ec : ∀ v, a'.eval (.const v) = v := fun _ => rfl
      have ef : ∀ g, a'.eval (.func g) = .func (.func g) #[] #[] := fun _ => rfl
      clear hd hs
      obtain ⟨l0, l1, l2, l3, l4⟩ := KB.later hg
      refine wpv (v := .agg #[.int .i64 (b).e, .int .i64 (b).d, .int .i64 (b).x, .int .i64 (b).y, .int .i64 (b).z]) ?_ ⟨_, rfl, Grow.rfl' _, rfl⟩
      (generalize a'.eval = ev at ec ef e4 ⊢; simp [execOp, go_sem, *])
    · refine stepOne_run ⟨⟨⟨21, Ground.guard⟩, by simp, rfl, rfl⟩, fun _ _ h => h⟩ ?_
      intro a' w' hg hs hd
      have e3 : a'.eval (.tmp 3) = .pointer (some ⟨w.heap.size, 0, none⟩) := hs.rest 3 rfl
      have ec : ∀ v, a'.eval (.const v) = v := fun _ => rfl
      have ef : ∀ g, a'.eval (.func g) = .func (.func g) #[] #[] := fun _ => rfl
      clear hd hs
      obtain ⟨l0, l1, l2, l3, l4⟩ := KA.later hg
      refine wpv (v := .agg #[.int .i64 (a).e, .int .i64 (a).d, .int .i64 (a).x, .int .i64 (a).y, .int .i64 (a).z]) ?_ ⟨_, rfl, Grow.rfl' _, rfl⟩
      (generalize a'.eval = ev at ec ef e3 ⊢; simp [execOp, go_sem, *])
    · refine stepOne_run ⟨⟨⟨21, Ground.guard⟩, by simp, rfl, rfl⟩, fun _ _ h => h⟩ ?_
      intro a' w' hg hs hd
      have e91 : a'.eval (.tmp 91) = .agg #[.int .i64 (b).e, .int .i64 (b).d, .int .i64 (b).x, .int .i64 (b).y, .int .i64 (b).z] := hd ⟨25, Ground.data⟩ (by simp) rfl
      have e92 : a'.eval (.tmp 92) = .agg #[.int .i64 (a).e, .int .i64 (a).d, .int .i64 (a).x, .int .i64 (a).y, .int .i64 (a).z] := hd ⟨26, Ground.data⟩ (by simp) rfl
      have ec : ∀ v, a'.eval (.const v) = v := fun _ => rfl
      have ef : ∀ g, a'.eval (.func g) = .func (.func g) #[] #[] := fun _ => rfl
      clear hd hs
      refine wpc ?_ (Calls.mono (order_any b a w') fun e w2 ⟨he, hb⟩ => ⟨_, he, _, rfl, hb, rfl⟩)
      (generalize a'.eval = ev at ec ef e91 e92 ⊢; simp [execOp, go_sem, *])
    · refine stepOne_run ⟨⟨⟨21, Ground.guard⟩, by simp, rfl, rfl⟩, fun _ _ h => h⟩ ?_
      intro a' w' hg hs hd
      have e93 : a'.eval (.tmp 93) = .int .i64 (orderI b a) := hd ⟨27, Ground.data⟩ (by simp) rfl
      have ec : ∀ v, a'.eval (.const v) = v := fun _ => rfl
      have ef : ∀ g, a'.eval (.func g) = .func (.func g) #[] #[] := fun _ => rfl
      clear hd hs
      have hw := neg_wrap a b
      refine wpv (v := .int .i64 (-orderI b a)) ?_ ⟨_, rfl, Grow.rfl' _, rfl⟩
      (generalize a'.eval = ev at ec ef e93 ⊢; simp [execOp, go_sem, *])
    · refine stepOne_run ⟨⟨⟨21, Ground.guard⟩, by simp, rfl, rfl⟩, fun _ _ h => h⟩ ?_
      intro a' w' hg hs hd
      have e90 : a'.eval (.tmp 90) = .int .i64 (-orderI b a) := hd ⟨24, Ground.data⟩ (by simp) rfl
      have e94 : a'.eval (.tmp 94) = .int .i64 (-orderI b a) := hd ⟨28, Ground.data⟩ (by simp) rfl
      have ec : ∀ v, a'.eval (.const v) = v := fun _ => rfl
      have ef : ∀ g, a'.eval (.func g) = .func (.func g) #[] #[] := fun _ => rfl
      clear hd hs
      refine wpv (v := .bool true) ?_ ⟨_, rfl, Grow.rfl' _, rfl⟩
      (generalize a'.eval = ev at ec ef e90 e94 ⊢; simp [execOp, go_sem, *])
    · refine stepOne_run trivial ?_
      intro a' w' hg hs hd
      have e87 : a'.eval (.tmp 87) = .bool true := hd ⟨21, Ground.data⟩ (by simp) rfl
      have e95 : a'.eval (.tmp 95) = .bool true := hd ⟨29, Ground.data⟩ (by simp) rfl
      have ec : ∀ v, a'.eval (.const v) = v := fun _ => rfl
      have ef : ∀ g, a'.eval (.func g) = .func (.func g) #[] #[] := fun _ => rfl
      clear hd hs
      refine wpv (v := .bool true) ?_ ⟨_, rfl, Grow.rfl' _, rfl⟩
      (generalize a'.eval = ev at ec ef e87 e95 ⊢; simp [execOp, go_sem, *])
    · refine stepOne_run trivial ?_
      intro a' w' hg hs hd
      have e96 : a'.eval (.tmp 96) = .bool true := hd ⟨30, Ground.data⟩ (by simp) rfl
      have ec : ∀ v, a'.eval (.const v) = v := fun _ => rfl
      have ef : ∀ g, a'.eval (.func g) = .func (.func g) #[] #[] := fun _ => rfl
      clear hd hs
      refine wpv (v := .bool true) ?_ ⟨_, rfl, Grow.rfl' _, rfl⟩
      (generalize a'.eval = ev at ec ef e96 ⊢; simp [execOp, go_sem, *])
  · intro a' w' hg hs hd
    have h0 : a'.eval (.tmp 6) = .bool true := hd 31 (by simp)
    go_wp2
    refine bodyPost_ret (v := .bool true) ?_ (by rw [hs.defers]) ⟨rfl, Grow.trans' (Grow.trans' (((Grow.alloc' _ _).trans' (Grow.alloc' _ _)).trans' (Grow.alloc' _ _)) g10) hg⟩
    clear hd hs
    simpa [results, Try.results6, Act.eval] using h0

set_option maxHeartbeats 4000000 in
theorem TsPartial_2 (a b c : Tm) (w : World) (hA : mayB a = true) (hB : mayB b = true) (hC : mayB c = true) (hp : leB a b = true) (hq : leB b a = false) (hr : leB b c = true) :
    Calls Try.prog 6 #[.agg #[.int .i64 a.e, .int .i64 a.d, .int .i64 a.x, .int .i64 a.y, .int .i64 a.z], .agg #[.int .i64 b.e, .int .i64 b.d, .int .i64 b.x, .int .i64 b.y, .int .i64 b.z], .agg #[.int .i64 c.e, .int .i64 c.d, .int .i64 c.x, .int .i64 c.y, .int .i64 c.z]] w fun e w' => e = .returned (.bool true) ∧ Below w.heap.size w w' := by
  have hl : lessB a b = true := by simp [lessB, hp, hq]
  have haa := le_refl_may hA
  have hs := le_trans hp hr
  have ho := less_ahead hA hB hl
  have hoo := order_anti a b
  have hls := less_self a
  have hA' := hide hA
  have hB' := hide hB
  have hC' := hide hC
  have hp' := hide hp
  have hl' := hide hl
  have haa' := hide haa
  have hoo' := hide hoo
  have hls' := hide hls
  have hq' := hide hq
  have hr' := hide hr
  have hs' := hide hs
  have ho' := hide ho
  clear hA hB hC hp hl haa hoo hls hq hr hs ho
  go_enter Try.func6, Try.ntmps6
  go_wp2_with fail
  refine (shown_any _).mono ?_
  rintro e w1 ⟨rfl, hb⟩
  have g1 := hb
  clear hb
  obtain ⟨hc, hf⟩ := bcell g1
  go_wp2_with fail
  refine (mayC a true hA'.out _).mono ?_
  rintro e w2 ⟨rfl, hb⟩
  have g2 := Grow.trans' g1 hb
  clear hb g1 hc hf
  obtain ⟨hc, hf⟩ := bcell g2
  go_wp2_with fail
  refine (mayC b true hB'.out _).mono ?_
  rintro e w3 ⟨rfl, hb⟩
  have g3 := Grow.trans' g2 hb
  clear hb g2 hc hf
  obtain ⟨hc, hf⟩ := bcell g3
  go_wp2_with fail
  refine (mayC c true hC'.out _).mono ?_
  rintro e w4 ⟨rfl, hb⟩
  have g4 := Grow.trans' g3 hb
  clear hb g3 hc hf
  obtain ⟨hc, hf⟩ := bcell g4
  go_wp2_with fail
  refine (leC a b true hp'.out _).mono ?_
  rintro e w5 ⟨rfl, hb⟩
  have g5 := Grow.trans' g4 hb
  clear hb g4 hc hf
  obtain ⟨hc, hf⟩ := bcell g5
  go_wp2_with fail
  refine (leC b a false hq'.out _).mono ?_
  rintro e w6 ⟨rfl, hb⟩
  have g6 := Grow.trans' g5 hb
  clear hb g5 hc hf
  obtain ⟨hc, hf⟩ := bcell g6
  go_wp2_with fail
  refine (leC a b true hp'.out _).mono ?_
  rintro e w7 ⟨rfl, hb⟩
  have g7 := Grow.trans' g6 hb
  clear hb g6 hc hf
  obtain ⟨hc, hf⟩ := bcell g7
  go_wp2_with fail
  refine (leC b c true hr'.out _).mono ?_
  rintro e w8 ⟨rfl, hb⟩
  have g8 := Grow.trans' g7 hb
  clear hb g7 hc hf
  obtain ⟨hc, hf⟩ := bcell g8
  go_wp2_with fail
  refine (leC a c true hs'.out _).mono ?_
  rintro e w9 ⟨rfl, hb⟩
  have g9 := Grow.trans' g8 hb
  clear hb g8 hc hf
  obtain ⟨hc, hf⟩ := bcell g9
  go_wp2_with fail
  refine (lessC a b true hl'.out _).mono ?_
  rintro e w10 ⟨rfl, hb⟩
  have g10 := Grow.trans' g9 hb
  clear hb g9 hc hf
  obtain ⟨hc, hf⟩ := bcell g10
  go_wp2_with fail
  refine (orderC a b (-1) ho'.out _).mono ?_
  rintro e w11 ⟨rfl, hb⟩
  have g11 := Grow.trans' g10 hb
  clear hb g10 hc hf
  obtain ⟨hc, hf⟩ := bcell g11
  have KA : Box w11 w.heap.size a := (((Box.new w a).later (Grow.alloc' _ _)).later (Grow.alloc' _ _)).later g11
  have KB : Box w11 (w.heap.size + 1) b := Box.later g11 (Box.later (Grow.alloc' _ _) (by simpa using Box.new (w.alloc (.cells #[.int .i64 a.e, .int .i64 a.d, .int .i64 a.x, .int .i64 a.y, .int .i64 a.z] 25)) b))
  go_wp2_with fail
  refine wp_region_inv (fun i v w => match i with | 0 => v = .bool true | 1 => v = .bool true | 2 => v = .agg #[.int .i64 (a).e, .int .i64 (a).d, .int .i64 (a).x, .int .i64 (a).y, .int .i64 (a).z] | 3 => v = .agg #[.int .i64 (a).e, .int .i64 (a).d, .int .i64 (a).x, .int .i64 (a).y, .int .i64 (a).z] | 4 => v = .bool true | 5 => v = .bool true | 6 => v = .bool true | 7 => v = .agg #[.int .i64 (a).e, .int .i64 (a).d, .int .i64 (a).x, .int .i64 (a).y, .int .i64 (a).z] | 8 => v = .agg #[.int .i64 (a).e, .int .i64 (a).d, .int .i64 (a).x, .int .i64 (a).y, .int .i64 (a).z] | 9 => v = .bool false | 10 => v = .bool true | 11 => v = .bool true | 12 => v = .bool true | 13 => v = .bool true | 14 => v = .bool true | 15 => v = .bool true | 16 => v = .bool true | 17 => v = .bool true | 18 => v = .bool true | 19 => v = .bool true | 20 => v = .bool true | 21 => v = .bool true | 22 => v = .agg #[.int .i64 (a).e, .int .i64 (a).d, .int .i64 (a).x, .int .i64 (a).y, .int .i64 (a).z] | 23 => v = .agg #[.int .i64 (b).e, .int .i64 (b).d, .int .i64 (b).x, .int .i64 (b).y, .int .i64 (b).z] | 24 => v = .int .i64 (-orderI b a) | 25 => v = .agg #[.int .i64 (b).e, .int .i64 (b).d, .int .i64 (b).x, .int .i64 (b).y, .int .i64 (b).z] | 26 => v = .agg #[.int .i64 (a).e, .int .i64 (a).d, .int .i64 (a).x, .int .i64 (a).y, .int .i64 (a).z] | 27 => v = .int .i64 (orderI b a) | 28 => v = .int .i64 (-orderI b a) | 29 => v = .bool true | 30 => v = .bool true | 31 => v = .bool true | _ => True) (by kernel_rfl) (by kernel_rfl) ?_ ?_ ?_
  · intro k v w1 w2 hg h
    match k with
    | 0 => exact h
    | 1 => exact h
    | 2 => exact h
    | 3 => exact h
    | 4 => exact h
    | 5 => exact h
    | 6 => exact h
    | 7 => exact h
    | 8 => exact h
    | 9 => exact h
    | 10 => exact h
    | 11 => exact h
    | 12 => exact h
    | 13 => exact h
    | 14 => exact h
    | 15 => exact h
    | 16 => exact h
    | 17 => exact h
    | 18 => exact h
    | 19 => exact h
    | 20 => exact h
    | 21 => exact h
    | 22 => exact h
    | 23 => exact h
    | 24 => exact h
    | 25 => exact h
    | 26 => exact h
    | 27 => exact h
    | 28 => exact h
    | 29 => exact h
    | 30 => exact h
    | 31 => exact h
    | k + 32 => exact trivial
  · refine ⟨?_, ?_, ?_, ?_, ?_, ?_, ?_, ?_, ?_, ?_, ?_, ?_, ?_, ?_, ?_, ?_, ?_, ?_, ?_, ?_, ?_, ?_, ?_, ?_, ?_, ?_, ?_, ?_, ?_, ?_, ?_, ?_, trivial⟩
    · refine stepOne_run trivial ?_
      intro a' w' hg hs hd
      have e7 : a'.eval (.tmp 7) = .bool true := hs.rest 7 rfl
      have ec : ∀ v, a'.eval (.const v) = v := fun _ => rfl
      have ef : ∀ g, a'.eval (.func g) = .func (.func g) #[] #[] := fun _ => rfl
      clear hd hs
      refine wpv (v := .bool true) ?_ ⟨_, rfl, Grow.rfl' _, rfl⟩
      (generalize a'.eval = ev at ec ef e7 ⊢; simp [execOp, go_sem, *])
    · refine stepOne_run trivial ?_
      intro a' w' hg hs hd
      have e66 : a'.eval (.tmp 66) = .bool true := hd ⟨0, Ground.data⟩ (by simp) rfl
      have ec : ∀ v, a'.eval (.const v) = v := fun _ => rfl
      have ef : ∀ g, a'.eval (.func g) = .func (.func g) #[] #[] := fun _ => rfl
      clear hd hs
      refine wpv (v := .bool true) ?_ ⟨_, rfl, Grow.rfl' _, rfl⟩
      (generalize a'.eval = ev at ec ef e66 ⊢; simp [execOp, go_sem, *])
    · refine stepOne_run ⟨⟨⟨1, Ground.guard⟩, by simp, rfl, rfl⟩, fun _ _ h => h⟩ ?_
      intro a' w' hg hs hd
      have e3 : a'.eval (.tmp 3) = .pointer (some ⟨w.heap.size, 0, none⟩) := hs.rest 3 rfl
      have ec : ∀ v, a'.eval (.const v) = v := fun _ => rfl
      have ef : ∀ g, a'.eval (.func g) = .func (.func g) #[] #[] := fun _ => rfl
      clear hd hs
      obtain ⟨l0, l1, l2, l3, l4⟩ := KA.later hg
      refine wpv (v := .agg #[.int .i64 (a).e, .int .i64 (a).d, .int .i64 (a).x, .int .i64 (a).y, .int .i64 (a).z]) ?_ ⟨_, rfl, Grow.rfl' _, rfl⟩
      (generalize a'.eval = ev at ec ef e3 ⊢; simp [execOp, go_sem, *])
    · refine stepOne_run ⟨⟨⟨1, Ground.guard⟩, by simp, rfl, rfl⟩, fun _ _ h => h⟩ ?_
      intro a' w' hg hs hd
      have e3 : a'.eval (.tmp 3) = .pointer (some ⟨w.heap.size, 0, none⟩) := hs.rest 3 rfl
      have ec : ∀ v, a'.eval (.const v) = v := fun _ => rfl
      have ef : ∀ g, a'.eval (.func g) = .func (.func g) #[] #[] := fun _ => rfl
      clear hd hs
      obtain ⟨l0, l1, l2, l3, l4⟩ := KA.later hg
      refine wpv (v := .agg #[.int .i64 (a).e, .int .i64 (a).d, .int .i64 (a).x, .int .i64 (a).y, .int .i64 (a).z]) ?_ ⟨_, rfl, Grow.rfl' _, rfl⟩
      (generalize a'.eval = ev at ec ef e3 ⊢; simp [execOp, go_sem, *])
    · refine stepOne_run ⟨⟨⟨1, Ground.chain⟩, by simp, rfl, rfl⟩, fun _ _ h => h⟩ ?_
      intro a' w' hg hs hd
      have e68 : a'.eval (.tmp 68) = .agg #[.int .i64 (a).e, .int .i64 (a).d, .int .i64 (a).x, .int .i64 (a).y, .int .i64 (a).z] := hd ⟨2, Ground.data⟩ (by simp) rfl
      have e69 : a'.eval (.tmp 69) = .agg #[.int .i64 (a).e, .int .i64 (a).d, .int .i64 (a).x, .int .i64 (a).y, .int .i64 (a).z] := hd ⟨3, Ground.data⟩ (by simp) rfl
      have ec : ∀ v, a'.eval (.const v) = v := fun _ => rfl
      have ef : ∀ g, a'.eval (.func g) = .func (.func g) #[] #[] := fun _ => rfl
      clear hd hs
      refine wpc ?_ (Calls.mono (leC a a true haa'.out w') fun e w2 ⟨he, hb⟩ => ⟨_, he, _, rfl, hb, rfl⟩)
      (generalize a'.eval = ev at ec ef e68 e69 ⊢; simp [execOp, go_sem, *])
    · refine stepOne_run trivial ?_
      intro a' w' hg hs hd
      have e67 : a'.eval (.tmp 67) = .bool true := hd ⟨1, Ground.data⟩ (by simp) rfl
      have e70 : a'.eval (.tmp 70) = .bool true := hd ⟨4, Ground.data⟩ (by simp) rfl
      have ec : ∀ v, a'.eval (.const v) = v := fun _ => rfl
      have ef : ∀ g, a'.eval (.func g) = .func (.func g) #[] #[] := fun _ => rfl
      clear hd hs
      refine wpv (v := .bool true) ?_ ⟨_, rfl, Grow.rfl' _, rfl⟩
      (generalize a'.eval = ev at ec ef e67 e70 ⊢; simp [execOp, go_sem, *])
    · refine stepOne_run trivial ?_
      intro a' w' hg hs hd
      have e71 : a'.eval (.tmp 71) = .bool true := hd ⟨5, Ground.data⟩ (by simp) rfl
      have ec : ∀ v, a'.eval (.const v) = v := fun _ => rfl
      have ef : ∀ g, a'.eval (.func g) = .func (.func g) #[] #[] := fun _ => rfl
      clear hd hs
      refine wpv (v := .bool true) ?_ ⟨_, rfl, Grow.rfl' _, rfl⟩
      (generalize a'.eval = ev at ec ef e71 ⊢; simp [execOp, go_sem, *])
    · refine stepOne_run ⟨⟨⟨6, Ground.guard⟩, by simp, rfl, rfl⟩, fun _ _ h => h⟩ ?_
      intro a' w' hg hs hd
      have e3 : a'.eval (.tmp 3) = .pointer (some ⟨w.heap.size, 0, none⟩) := hs.rest 3 rfl
      have ec : ∀ v, a'.eval (.const v) = v := fun _ => rfl
      have ef : ∀ g, a'.eval (.func g) = .func (.func g) #[] #[] := fun _ => rfl
      clear hd hs
      obtain ⟨l0, l1, l2, l3, l4⟩ := KA.later hg
      refine wpv (v := .agg #[.int .i64 (a).e, .int .i64 (a).d, .int .i64 (a).x, .int .i64 (a).y, .int .i64 (a).z]) ?_ ⟨_, rfl, Grow.rfl' _, rfl⟩
      (generalize a'.eval = ev at ec ef e3 ⊢; simp [execOp, go_sem, *])
    · refine stepOne_run ⟨⟨⟨6, Ground.guard⟩, by simp, rfl, rfl⟩, fun _ _ h => h⟩ ?_
      intro a' w' hg hs hd
      have e3 : a'.eval (.tmp 3) = .pointer (some ⟨w.heap.size, 0, none⟩) := hs.rest 3 rfl
      have ec : ∀ v, a'.eval (.const v) = v := fun _ => rfl
      have ef : ∀ g, a'.eval (.func g) = .func (.func g) #[] #[] := fun _ => rfl
      clear hd hs
      obtain ⟨l0, l1, l2, l3, l4⟩ := KA.later hg
      refine wpv (v := .agg #[.int .i64 (a).e, .int .i64 (a).d, .int .i64 (a).x, .int .i64 (a).y, .int .i64 (a).z]) ?_ ⟨_, rfl, Grow.rfl' _, rfl⟩
      (generalize a'.eval = ev at ec ef e3 ⊢; simp [execOp, go_sem, *])
    · refine stepOne_run ⟨⟨⟨6, Ground.chain⟩, by simp, rfl, rfl⟩, fun _ _ h => h⟩ ?_
      intro a' w' hg hs hd
      have e73 : a'.eval (.tmp 73) = .agg #[.int .i64 (a).e, .int .i64 (a).d, .int .i64 (a).x, .int .i64 (a).y, .int .i64 (a).z] := hd ⟨7, Ground.data⟩ (by simp) rfl
      have e74 : a'.eval (.tmp 74) = .agg #[.int .i64 (a).e, .int .i64 (a).d, .int .i64 (a).x, .int .i64 (a).y, .int .i64 (a).z] := hd ⟨8, Ground.data⟩ (by simp) rfl
      have ec : ∀ v, a'.eval (.const v) = v := fun _ => rfl
      have ef : ∀ g, a'.eval (.func g) = .func (.func g) #[] #[] := fun _ => rfl
      clear hd hs
      refine wpc ?_ (Calls.mono (lessC a a false hls'.out w') fun e w2 ⟨he, hb⟩ => ⟨_, he, _, rfl, hb, rfl⟩)
      (generalize a'.eval = ev at ec ef e73 e74 ⊢; simp [execOp, go_sem, *])
    · refine stepOne_run ⟨⟨⟨6, Ground.guard⟩, by simp, rfl, rfl⟩, fun _ _ h => h⟩ ?_
      intro a' w' hg hs hd
      have e75 : a'.eval (.tmp 75) = .bool false := hd ⟨9, Ground.data⟩ (by simp) rfl
      have ec : ∀ v, a'.eval (.const v) = v := fun _ => rfl
      have ef : ∀ g, a'.eval (.func g) = .func (.func g) #[] #[] := fun _ => rfl
      clear hd hs
      refine wpv (v := .bool true) ?_ ⟨_, rfl, Grow.rfl' _, rfl⟩
      (generalize a'.eval = ev at ec ef e75 ⊢; simp [execOp, go_sem, *])
    · refine stepOne_run trivial ?_
      intro a' w' hg hs hd
      have e72 : a'.eval (.tmp 72) = .bool true := hd ⟨6, Ground.data⟩ (by simp) rfl
      have e76 : a'.eval (.tmp 76) = .bool true := hd ⟨10, Ground.data⟩ (by simp) rfl
      have ec : ∀ v, a'.eval (.const v) = v := fun _ => rfl
      have ef : ∀ g, a'.eval (.func g) = .func (.func g) #[] #[] := fun _ => rfl
      clear hd hs
      refine wpv (v := .bool true) ?_ ⟨_, rfl, Grow.rfl' _, rfl⟩
      (generalize a'.eval = ev at ec ef e72 e76 ⊢; simp [execOp, go_sem, *])
    · refine stepOne_run trivial ?_
      intro a' w' hg hs hd
      have e77 : a'.eval (.tmp 77) = .bool true := hd ⟨11, Ground.data⟩ (by simp) rfl
      have ec : ∀ v, a'.eval (.const v) = v := fun _ => rfl
      have ef : ∀ g, a'.eval (.func g) = .func (.func g) #[] #[] := fun _ => rfl
      clear hd hs
      refine wpv (v := .bool true) ?_ ⟨_, rfl, Grow.rfl' _, rfl⟩
      (generalize a'.eval = ev at ec ef e77 ⊢; simp [execOp, go_sem, *])
    · refine stepOne_run ⟨⟨⟨12, Ground.guard⟩, by simp, rfl, rfl⟩, fun _ _ h => h⟩ ?_
      intro a' w' hg hs hd
      have e8 : a'.eval (.tmp 8) = .bool true := hs.rest 8 rfl
      have ec : ∀ v, a'.eval (.const v) = v := fun _ => rfl
      have ef : ∀ g, a'.eval (.func g) = .func (.func g) #[] #[] := fun _ => rfl
      clear hd hs
      refine wpv (v := .bool true) ?_ ⟨_, rfl, Grow.rfl' _, rfl⟩
      (generalize a'.eval = ev at ec ef e8 ⊢; simp [execOp, go_sem, *])
    · refine stepOne_run trivial ?_
      intro a' w' hg hs hd
      have e78 : a'.eval (.tmp 78) = .bool true := hd ⟨12, Ground.data⟩ (by simp) rfl
      have e79 : a'.eval (.tmp 79) = .bool true := hd ⟨13, Ground.data⟩ (by simp) rfl
      have ec : ∀ v, a'.eval (.const v) = v := fun _ => rfl
      have ef : ∀ g, a'.eval (.func g) = .func (.func g) #[] #[] := fun _ => rfl
      clear hd hs
      refine wpv (v := .bool true) ?_ ⟨_, rfl, Grow.rfl' _, rfl⟩
      (generalize a'.eval = ev at ec ef e78 e79 ⊢; simp [execOp, go_sem, *])
    · refine stepOne_run trivial ?_
      intro a' w' hg hs hd
      have e80 : a'.eval (.tmp 80) = .bool true := hd ⟨14, Ground.data⟩ (by simp) rfl
      have ec : ∀ v, a'.eval (.const v) = v := fun _ => rfl
      have ef : ∀ g, a'.eval (.func g) = .func (.func g) #[] #[] := fun _ => rfl
      clear hd hs
      refine wpv (v := .bool true) ?_ ⟨_, rfl, Grow.rfl' _, rfl⟩
      (generalize a'.eval = ev at ec ef e80 ⊢; simp [execOp, go_sem, *])
    · refine stepOne_run ⟨⟨⟨15, Ground.guard⟩, by simp, rfl, rfl⟩, fun _ _ h => h⟩ ?_
      intro a' w' hg hs hd
      have e9 : a'.eval (.tmp 9) = .bool true := hs.rest 9 rfl
      have ec : ∀ v, a'.eval (.const v) = v := fun _ => rfl
      have ef : ∀ g, a'.eval (.func g) = .func (.func g) #[] #[] := fun _ => rfl
      clear hd hs
      refine wpv (v := .bool true) ?_ ⟨_, rfl, Grow.rfl' _, rfl⟩
      (generalize a'.eval = ev at ec ef e9 ⊢; simp [execOp, go_sem, *])
    · refine stepOne_run trivial ?_
      intro a' w' hg hs hd
      have e81 : a'.eval (.tmp 81) = .bool true := hd ⟨15, Ground.data⟩ (by simp) rfl
      have e82 : a'.eval (.tmp 82) = .bool true := hd ⟨16, Ground.data⟩ (by simp) rfl
      have ec : ∀ v, a'.eval (.const v) = v := fun _ => rfl
      have ef : ∀ g, a'.eval (.func g) = .func (.func g) #[] #[] := fun _ => rfl
      clear hd hs
      refine wpv (v := .bool true) ?_ ⟨_, rfl, Grow.rfl' _, rfl⟩
      (generalize a'.eval = ev at ec ef e81 e82 ⊢; simp [execOp, go_sem, *])
    · refine stepOne_run trivial ?_
      intro a' w' hg hs hd
      have e83 : a'.eval (.tmp 83) = .bool true := hd ⟨17, Ground.data⟩ (by simp) rfl
      have ec : ∀ v, a'.eval (.const v) = v := fun _ => rfl
      have ef : ∀ g, a'.eval (.func g) = .func (.func g) #[] #[] := fun _ => rfl
      clear hd hs
      refine wpv (v := .bool true) ?_ ⟨_, rfl, Grow.rfl' _, rfl⟩
      (generalize a'.eval = ev at ec ef e83 ⊢; simp [execOp, go_sem, *])
    · refine stepOne_run ⟨⟨⟨18, Ground.guard⟩, by simp, rfl, rfl⟩, fun _ _ h => h⟩ ?_
      intro a' w' hg hs hd
      have e10 : a'.eval (.tmp 10) = .bool true := hs.rest 10 rfl
      have ec : ∀ v, a'.eval (.const v) = v := fun _ => rfl
      have ef : ∀ g, a'.eval (.func g) = .func (.func g) #[] #[] := fun _ => rfl
      clear hd hs
      refine wpv (v := .bool true) ?_ ⟨_, rfl, Grow.rfl' _, rfl⟩
      (generalize a'.eval = ev at ec ef e10 ⊢; simp [execOp, go_sem, *])
    · refine stepOne_run trivial ?_
      intro a' w' hg hs hd
      have e84 : a'.eval (.tmp 84) = .bool true := hd ⟨18, Ground.data⟩ (by simp) rfl
      have e85 : a'.eval (.tmp 85) = .bool true := hd ⟨19, Ground.data⟩ (by simp) rfl
      have ec : ∀ v, a'.eval (.const v) = v := fun _ => rfl
      have ef : ∀ g, a'.eval (.func g) = .func (.func g) #[] #[] := fun _ => rfl
      clear hd hs
      refine wpv (v := .bool true) ?_ ⟨_, rfl, Grow.rfl' _, rfl⟩
      (generalize a'.eval = ev at ec ef e84 e85 ⊢; simp [execOp, go_sem, *])
    · refine stepOne_run trivial ?_
      intro a' w' hg hs hd
      have e86 : a'.eval (.tmp 86) = .bool true := hd ⟨20, Ground.data⟩ (by simp) rfl
      have ec : ∀ v, a'.eval (.const v) = v := fun _ => rfl
      have ef : ∀ g, a'.eval (.func g) = .func (.func g) #[] #[] := fun _ => rfl
      clear hd hs
      refine wpv (v := .bool true) ?_ ⟨_, rfl, Grow.rfl' _, rfl⟩
      (generalize a'.eval = ev at ec ef e86 ⊢; simp [execOp, go_sem, *])
    · refine stepOne_run ⟨⟨⟨21, Ground.guard⟩, by simp, rfl, rfl⟩, fun _ _ h => h⟩ ?_
      intro a' w' hg hs hd
      have e3 : a'.eval (.tmp 3) = .pointer (some ⟨w.heap.size, 0, none⟩) := hs.rest 3 rfl
      have ec : ∀ v, a'.eval (.const v) = v := fun _ => rfl
      have ef : ∀ g, a'.eval (.func g) = .func (.func g) #[] #[] := fun _ => rfl
      clear hd hs
      obtain ⟨l0, l1, l2, l3, l4⟩ := KA.later hg
      refine wpv (v := .agg #[.int .i64 (a).e, .int .i64 (a).d, .int .i64 (a).x, .int .i64 (a).y, .int .i64 (a).z]) ?_ ⟨_, rfl, Grow.rfl' _, rfl⟩
      (generalize a'.eval = ev at ec ef e3 ⊢; simp [execOp, go_sem, *])
    · refine stepOne_run ⟨⟨⟨21, Ground.guard⟩, by simp, rfl, rfl⟩, fun _ _ h => h⟩ ?_
      intro a' w' hg hs hd
      have e4 : a'.eval (.tmp 4) = .pointer (some ⟨w.heap.size + 1, 0, none⟩) := hs.rest 4 rfl
      have ec : ∀ v, a'.eval (.const v) = v := fun _ => rfl
      have ef : ∀ g, a'.eval (.func g) = .func (.func g) #[] #[] := fun _ => rfl
      clear hd hs
      obtain ⟨l0, l1, l2, l3, l4⟩ := KB.later hg
      refine wpv (v := .agg #[.int .i64 (b).e, .int .i64 (b).d, .int .i64 (b).x, .int .i64 (b).y, .int .i64 (b).z]) ?_ ⟨_, rfl, Grow.rfl' _, rfl⟩
      (generalize a'.eval = ev at ec ef e4 ⊢; simp [execOp, go_sem, *])
    · refine stepOne_run ⟨⟨⟨21, Ground.chain⟩, by simp, rfl, rfl⟩, fun _ _ h => h⟩ ?_
      intro a' w' hg hs hd
      have e88 : a'.eval (.tmp 88) = .agg #[.int .i64 (a).e, .int .i64 (a).d, .int .i64 (a).x, .int .i64 (a).y, .int .i64 (a).z] := hd ⟨22, Ground.data⟩ (by simp) rfl
      have e89 : a'.eval (.tmp 89) = .agg #[.int .i64 (b).e, .int .i64 (b).d, .int .i64 (b).x, .int .i64 (b).y, .int .i64 (b).z] := hd ⟨23, Ground.data⟩ (by simp) rfl
      have ec : ∀ v, a'.eval (.const v) = v := fun _ => rfl
      have ef : ∀ g, a'.eval (.func g) = .func (.func g) #[] #[] := fun _ => rfl
      clear hd hs
      refine wpc ?_ (Calls.mono (orderC a b _ hoo'.out w') fun e w2 ⟨he, hb⟩ => ⟨_, he, _, rfl, hb, rfl⟩)
      (generalize a'.eval = ev at ec ef e88 e89 ⊢; simp [execOp, go_sem, *])
    · refine stepOne_run ⟨⟨⟨21, Ground.guard⟩, by simp, rfl, rfl⟩, fun _ _ h => h⟩ ?_
      intro a' w' hg hs hd
      have e4 : a'.eval (.tmp 4) = .pointer (some ⟨w.heap.size + 1, 0, none⟩) := hs.rest 4 rfl
      have ec : ∀ v, a'.eval (.const v) = v := fun _ => rfl
      have ef : ∀ g, a'.eval (.func g) = .func (.func g) #[] #[] := fun _ => rfl
      clear hd hs
      obtain ⟨l0, l1, l2, l3, l4⟩ := KB.later hg
      refine wpv (v := .agg #[.int .i64 (b).e, .int .i64 (b).d, .int .i64 (b).x, .int .i64 (b).y, .int .i64 (b).z]) ?_ ⟨_, rfl, Grow.rfl' _, rfl⟩
      (generalize a'.eval = ev at ec ef e4 ⊢; simp [execOp, go_sem, *])
    · refine stepOne_run ⟨⟨⟨21, Ground.guard⟩, by simp, rfl, rfl⟩, fun _ _ h => h⟩ ?_
      intro a' w' hg hs hd
      have e3 : a'.eval (.tmp 3) = .pointer (some ⟨w.heap.size, 0, none⟩) := hs.rest 3 rfl
      have ec : ∀ v, a'.eval (.const v) = v := fun _ => rfl
      have ef : ∀ g, a'.eval (.func g) = .func (.func g) #[] #[] := fun _ => rfl
      clear hd hs
      obtain ⟨l0, l1, l2, l3, l4⟩ := KA.later hg
      refine wpv (v := .agg #[.int .i64 (a).e, .int .i64 (a).d, .int .i64 (a).x, .int .i64 (a).y, .int .i64 (a).z]) ?_ ⟨_, rfl, Grow.rfl' _, rfl⟩
      (generalize a'.eval = ev at ec ef e3 ⊢; simp [execOp, go_sem, *])
    · refine stepOne_run ⟨⟨⟨21, Ground.guard⟩, by simp, rfl, rfl⟩, fun _ _ h => h⟩ ?_
      intro a' w' hg hs hd
      have e91 : a'.eval (.tmp 91) = .agg #[.int .i64 (b).e, .int .i64 (b).d, .int .i64 (b).x, .int .i64 (b).y, .int .i64 (b).z] := hd ⟨25, Ground.data⟩ (by simp) rfl
      have e92 : a'.eval (.tmp 92) = .agg #[.int .i64 (a).e, .int .i64 (a).d, .int .i64 (a).x, .int .i64 (a).y, .int .i64 (a).z] := hd ⟨26, Ground.data⟩ (by simp) rfl
      have ec : ∀ v, a'.eval (.const v) = v := fun _ => rfl
      have ef : ∀ g, a'.eval (.func g) = .func (.func g) #[] #[] := fun _ => rfl
      clear hd hs
      refine wpc ?_ (Calls.mono (order_any b a w') fun e w2 ⟨he, hb⟩ => ⟨_, he, _, rfl, hb, rfl⟩)
      (generalize a'.eval = ev at ec ef e91 e92 ⊢; simp [execOp, go_sem, *])
    · refine stepOne_run ⟨⟨⟨21, Ground.guard⟩, by simp, rfl, rfl⟩, fun _ _ h => h⟩ ?_
      intro a' w' hg hs hd
      have e93 : a'.eval (.tmp 93) = .int .i64 (orderI b a) := hd ⟨27, Ground.data⟩ (by simp) rfl
      have ec : ∀ v, a'.eval (.const v) = v := fun _ => rfl
      have ef : ∀ g, a'.eval (.func g) = .func (.func g) #[] #[] := fun _ => rfl
      clear hd hs
      have hw := neg_wrap a b
      refine wpv (v := .int .i64 (-orderI b a)) ?_ ⟨_, rfl, Grow.rfl' _, rfl⟩
      (generalize a'.eval = ev at ec ef e93 ⊢; simp [execOp, go_sem, *])
    · refine stepOne_run ⟨⟨⟨21, Ground.guard⟩, by simp, rfl, rfl⟩, fun _ _ h => h⟩ ?_
      intro a' w' hg hs hd
      have e90 : a'.eval (.tmp 90) = .int .i64 (-orderI b a) := hd ⟨24, Ground.data⟩ (by simp) rfl
      have e94 : a'.eval (.tmp 94) = .int .i64 (-orderI b a) := hd ⟨28, Ground.data⟩ (by simp) rfl
      have ec : ∀ v, a'.eval (.const v) = v := fun _ => rfl
      have ef : ∀ g, a'.eval (.func g) = .func (.func g) #[] #[] := fun _ => rfl
      clear hd hs
      refine wpv (v := .bool true) ?_ ⟨_, rfl, Grow.rfl' _, rfl⟩
      (generalize a'.eval = ev at ec ef e90 e94 ⊢; simp [execOp, go_sem, *])
    · refine stepOne_run trivial ?_
      intro a' w' hg hs hd
      have e87 : a'.eval (.tmp 87) = .bool true := hd ⟨21, Ground.data⟩ (by simp) rfl
      have e95 : a'.eval (.tmp 95) = .bool true := hd ⟨29, Ground.data⟩ (by simp) rfl
      have ec : ∀ v, a'.eval (.const v) = v := fun _ => rfl
      have ef : ∀ g, a'.eval (.func g) = .func (.func g) #[] #[] := fun _ => rfl
      clear hd hs
      refine wpv (v := .bool true) ?_ ⟨_, rfl, Grow.rfl' _, rfl⟩
      (generalize a'.eval = ev at ec ef e87 e95 ⊢; simp [execOp, go_sem, *])
    · refine stepOne_run trivial ?_
      intro a' w' hg hs hd
      have e96 : a'.eval (.tmp 96) = .bool true := hd ⟨30, Ground.data⟩ (by simp) rfl
      have ec : ∀ v, a'.eval (.const v) = v := fun _ => rfl
      have ef : ∀ g, a'.eval (.func g) = .func (.func g) #[] #[] := fun _ => rfl
      clear hd hs
      refine wpv (v := .bool true) ?_ ⟨_, rfl, Grow.rfl' _, rfl⟩
      (generalize a'.eval = ev at ec ef e96 ⊢; simp [execOp, go_sem, *])
  · intro a' w' hg hs hd
    have h0 : a'.eval (.tmp 6) = .bool true := hd 31 (by simp)
    go_wp2
    refine bodyPost_ret (v := .bool true) ?_ (by rw [hs.defers]) ⟨rfl, Grow.trans' (Grow.trans' (((Grow.alloc' _ _).trans' (Grow.alloc' _ _)).trans' (Grow.alloc' _ _)) g11) hg⟩
    clear hd hs
    simpa [results, Try.results6, Act.eval] using h0

set_option maxHeartbeats 4000000 in
theorem TsPartial_3 (a b c : Tm) (w : World) (hA : mayB a = true) (hB : mayB b = true) (hC : mayB c = true) (hp : leB a b = true) (hq : leB b a = true) (hr : leB b c = false) :
    Calls Try.prog 6 #[.agg #[.int .i64 a.e, .int .i64 a.d, .int .i64 a.x, .int .i64 a.y, .int .i64 a.z], .agg #[.int .i64 b.e, .int .i64 b.d, .int .i64 b.x, .int .i64 b.y, .int .i64 b.z], .agg #[.int .i64 c.e, .int .i64 c.d, .int .i64 c.x, .int .i64 c.y, .int .i64 c.z]] w fun e w' => e = .returned (.bool true) ∧ Below w.heap.size w w' := by
  have hl : lessB a b = false := by simp [lessB, hp, hq]
  have haa := le_refl_may hA
  have hE := le_anti hA hB hp hq
  have hoo := order_anti a b
  have hls := less_self a
  have hA' := hide hA
  have hB' := hide hB
  have hC' := hide hC
  have hp' := hide hp
  have hl' := hide hl
  have haa' := hide haa
  have hoo' := hide hoo
  have hls' := hide hls
  have hq' := hide hq
  have hr' := hide hr
  have hE' := hide hE
  clear hA hB hC hp hl haa hoo hls hq hr hE
  go_enter Try.func6, Try.ntmps6
  go_wp2_with fail
  refine (shown_any _).mono ?_
  rintro e w1 ⟨rfl, hb⟩
  have g1 := hb
  clear hb
  obtain ⟨hc, hf⟩ := bcell g1
  go_wp2_with fail
  refine (mayC a true hA'.out _).mono ?_
  rintro e w2 ⟨rfl, hb⟩
  have g2 := Grow.trans' g1 hb
  clear hb g1 hc hf
  obtain ⟨hc, hf⟩ := bcell g2
  go_wp2_with fail
  refine (mayC b true hB'.out _).mono ?_
  rintro e w3 ⟨rfl, hb⟩
  have g3 := Grow.trans' g2 hb
  clear hb g2 hc hf
  obtain ⟨hc, hf⟩ := bcell g3
  go_wp2_with fail
  refine (mayC c true hC'.out _).mono ?_
  rintro e w4 ⟨rfl, hb⟩
  have g4 := Grow.trans' g3 hb
  clear hb g3 hc hf
  obtain ⟨hc, hf⟩ := bcell g4
  go_wp2_with fail
  refine (leC a b true hp'.out _).mono ?_
  rintro e w5 ⟨rfl, hb⟩
  have g5 := Grow.trans' g4 hb
  clear hb g4 hc hf
  obtain ⟨hc, hf⟩ := bcell g5
  go_wp2_with fail
  refine (leC b a true hq'.out _).mono ?_
  rintro e w6 ⟨rfl, hb⟩
  have g6 := Grow.trans' g5 hb
  clear hb g5 hc hf
  obtain ⟨hc, hf⟩ := bcell g6
  have hE := hE'.out
  go_wp2_with fail
  refine (leC a b true hp'.out _).mono ?_
  rintro e w7 ⟨rfl, hb⟩
  have g7 := Grow.trans' g6 hb
  clear hb g6 hc hf
  obtain ⟨hc, hf⟩ := bcell g7
  go_wp2_with fail
  refine (leC b c false hr'.out _).mono ?_
  rintro e w8 ⟨rfl, hb⟩
  have g8 := Grow.trans' g7 hb
  clear hb g7 hc hf
  obtain ⟨hc, hf⟩ := bcell g8
  go_wp2_with fail
  refine (lessC a b false hl'.out _).mono ?_
  rintro e w9 ⟨rfl, hb⟩
  have g9 := Grow.trans' g8 hb
  clear hb g8 hc hf
  obtain ⟨hc, hf⟩ := bcell g9
  have KA : Box w9 w.heap.size a := (((Box.new w a).later (Grow.alloc' _ _)).later (Grow.alloc' _ _)).later g9
  have KB : Box w9 (w.heap.size + 1) b := Box.later g9 (Box.later (Grow.alloc' _ _) (by simpa using Box.new (w.alloc (.cells #[.int .i64 a.e, .int .i64 a.d, .int .i64 a.x, .int .i64 a.y, .int .i64 a.z] 25)) b))
  go_wp2_with fail
  refine wp_region_inv (fun i v w => match i with | 0 => v = .bool true | 1 => v = .bool true | 2 => v = .agg #[.int .i64 (a).e, .int .i64 (a).d, .int .i64 (a).x, .int .i64 (a).y, .int .i64 (a).z] | 3 => v = .agg #[.int .i64 (a).e, .int .i64 (a).d, .int .i64 (a).x, .int .i64 (a).y, .int .i64 (a).z] | 4 => v = .bool true | 5 => v = .bool true | 6 => v = .bool true | 7 => v = .agg #[.int .i64 (a).e, .int .i64 (a).d, .int .i64 (a).x, .int .i64 (a).y, .int .i64 (a).z] | 8 => v = .agg #[.int .i64 (a).e, .int .i64 (a).d, .int .i64 (a).x, .int .i64 (a).y, .int .i64 (a).z] | 9 => v = .bool false | 10 => v = .bool true | 11 => v = .bool true | 12 => v = .bool true | 13 => v = .bool true | 14 => v = .bool true | 15 => v = .bool true | 16 => v = .bool true | 17 => v = .bool true | 18 => v = .bool true | 19 => v = .bool true | 20 => v = .bool true | 21 => v = .bool true | 22 => v = .agg #[.int .i64 (a).e, .int .i64 (a).d, .int .i64 (a).x, .int .i64 (a).y, .int .i64 (a).z] | 23 => v = .agg #[.int .i64 (b).e, .int .i64 (b).d, .int .i64 (b).x, .int .i64 (b).y, .int .i64 (b).z] | 24 => v = .int .i64 (-orderI b a) | 25 => v = .agg #[.int .i64 (b).e, .int .i64 (b).d, .int .i64 (b).x, .int .i64 (b).y, .int .i64 (b).z] | 26 => v = .agg #[.int .i64 (a).e, .int .i64 (a).d, .int .i64 (a).x, .int .i64 (a).y, .int .i64 (a).z] | 27 => v = .int .i64 (orderI b a) | 28 => v = .int .i64 (-orderI b a) | 29 => v = .bool true | 30 => v = .bool true | 31 => v = .bool true | _ => True) (by kernel_rfl) (by kernel_rfl) ?_ ?_ ?_
  · intro k v w1 w2 hg h
    match k with
    | 0 => exact h
    | 1 => exact h
    | 2 => exact h
    | 3 => exact h
    | 4 => exact h
    | 5 => exact h
    | 6 => exact h
    | 7 => exact h
    | 8 => exact h
    | 9 => exact h
    | 10 => exact h
    | 11 => exact h
    | 12 => exact h
    | 13 => exact h
    | 14 => exact h
    | 15 => exact h
    | 16 => exact h
    | 17 => exact h
    | 18 => exact h
    | 19 => exact h
    | 20 => exact h
    | 21 => exact h
    | 22 => exact h
    | 23 => exact h
    | 24 => exact h
    | 25 => exact h
    | 26 => exact h
    | 27 => exact h
    | 28 => exact h
    | 29 => exact h
    | 30 => exact h
    | 31 => exact h
    | k + 32 => exact trivial
  · refine ⟨?_, ?_, ?_, ?_, ?_, ?_, ?_, ?_, ?_, ?_, ?_, ?_, ?_, ?_, ?_, ?_, ?_, ?_, ?_, ?_, ?_, ?_, ?_, ?_, ?_, ?_, ?_, ?_, ?_, ?_, ?_, ?_, trivial⟩
    · refine stepOne_run trivial ?_
      intro a' w' hg hs hd
      have e7 : a'.eval (.tmp 7) = .bool true := hs.rest 7 rfl
      have ec : ∀ v, a'.eval (.const v) = v := fun _ => rfl
      have ef : ∀ g, a'.eval (.func g) = .func (.func g) #[] #[] := fun _ => rfl
      clear hd hs
      refine wpv (v := .bool true) ?_ ⟨_, rfl, Grow.rfl' _, rfl⟩
      (generalize a'.eval = ev at ec ef e7 ⊢; simp [execOp, go_sem, *])
    · refine stepOne_run trivial ?_
      intro a' w' hg hs hd
      have e66 : a'.eval (.tmp 66) = .bool true := hd ⟨0, Ground.data⟩ (by simp) rfl
      have ec : ∀ v, a'.eval (.const v) = v := fun _ => rfl
      have ef : ∀ g, a'.eval (.func g) = .func (.func g) #[] #[] := fun _ => rfl
      clear hd hs
      refine wpv (v := .bool true) ?_ ⟨_, rfl, Grow.rfl' _, rfl⟩
      (generalize a'.eval = ev at ec ef e66 ⊢; simp [execOp, go_sem, *])
    · refine stepOne_run ⟨⟨⟨1, Ground.guard⟩, by simp, rfl, rfl⟩, fun _ _ h => h⟩ ?_
      intro a' w' hg hs hd
      have e3 : a'.eval (.tmp 3) = .pointer (some ⟨w.heap.size, 0, none⟩) := hs.rest 3 rfl
      have ec : ∀ v, a'.eval (.const v) = v := fun _ => rfl
      have ef : ∀ g, a'.eval (.func g) = .func (.func g) #[] #[] := fun _ => rfl
      clear hd hs
      obtain ⟨l0, l1, l2, l3, l4⟩ := KA.later hg
      refine wpv (v := .agg #[.int .i64 (a).e, .int .i64 (a).d, .int .i64 (a).x, .int .i64 (a).y, .int .i64 (a).z]) ?_ ⟨_, rfl, Grow.rfl' _, rfl⟩
      (generalize a'.eval = ev at ec ef e3 ⊢; simp [execOp, go_sem, *])
    · refine stepOne_run ⟨⟨⟨1, Ground.guard⟩, by simp, rfl, rfl⟩, fun _ _ h => h⟩ ?_
      intro a' w' hg hs hd
      have e3 : a'.eval (.tmp 3) = .pointer (some ⟨w.heap.size, 0, none⟩) := hs.rest 3 rfl
      have ec : ∀ v, a'.eval (.const v) = v := fun _ => rfl
      have ef : ∀ g, a'.eval (.func g) = .func (.func g) #[] #[] := fun _ => rfl
      clear hd hs
      obtain ⟨l0, l1, l2, l3, l4⟩ := KA.later hg
      refine wpv (v := .agg #[.int .i64 (a).e, .int .i64 (a).d, .int .i64 (a).x, .int .i64 (a).y, .int .i64 (a).z]) ?_ ⟨_, rfl, Grow.rfl' _, rfl⟩
      (generalize a'.eval = ev at ec ef e3 ⊢; simp [execOp, go_sem, *])
    · refine stepOne_run ⟨⟨⟨1, Ground.chain⟩, by simp, rfl, rfl⟩, fun _ _ h => h⟩ ?_
      intro a' w' hg hs hd
      have e68 : a'.eval (.tmp 68) = .agg #[.int .i64 (a).e, .int .i64 (a).d, .int .i64 (a).x, .int .i64 (a).y, .int .i64 (a).z] := hd ⟨2, Ground.data⟩ (by simp) rfl
      have e69 : a'.eval (.tmp 69) = .agg #[.int .i64 (a).e, .int .i64 (a).d, .int .i64 (a).x, .int .i64 (a).y, .int .i64 (a).z] := hd ⟨3, Ground.data⟩ (by simp) rfl
      have ec : ∀ v, a'.eval (.const v) = v := fun _ => rfl
      have ef : ∀ g, a'.eval (.func g) = .func (.func g) #[] #[] := fun _ => rfl
      clear hd hs
      refine wpc ?_ (Calls.mono (leC a a true haa'.out w') fun e w2 ⟨he, hb⟩ => ⟨_, he, _, rfl, hb, rfl⟩)
      (generalize a'.eval = ev at ec ef e68 e69 ⊢; simp [execOp, go_sem, *])
    · refine stepOne_run trivial ?_
      intro a' w' hg hs hd
      have e67 : a'.eval (.tmp 67) = .bool true := hd ⟨1, Ground.data⟩ (by simp) rfl
      have e70 : a'.eval (.tmp 70) = .bool true := hd ⟨4, Ground.data⟩ (by simp) rfl
      have ec : ∀ v, a'.eval (.const v) = v := fun _ => rfl
      have ef : ∀ g, a'.eval (.func g) = .func (.func g) #[] #[] := fun _ => rfl
      clear hd hs
      refine wpv (v := .bool true) ?_ ⟨_, rfl, Grow.rfl' _, rfl⟩
      (generalize a'.eval = ev at ec ef e67 e70 ⊢; simp [execOp, go_sem, *])
    · refine stepOne_run trivial ?_
      intro a' w' hg hs hd
      have e71 : a'.eval (.tmp 71) = .bool true := hd ⟨5, Ground.data⟩ (by simp) rfl
      have ec : ∀ v, a'.eval (.const v) = v := fun _ => rfl
      have ef : ∀ g, a'.eval (.func g) = .func (.func g) #[] #[] := fun _ => rfl
      clear hd hs
      refine wpv (v := .bool true) ?_ ⟨_, rfl, Grow.rfl' _, rfl⟩
      (generalize a'.eval = ev at ec ef e71 ⊢; simp [execOp, go_sem, *])
    · refine stepOne_run ⟨⟨⟨6, Ground.guard⟩, by simp, rfl, rfl⟩, fun _ _ h => h⟩ ?_
      intro a' w' hg hs hd
      have e3 : a'.eval (.tmp 3) = .pointer (some ⟨w.heap.size, 0, none⟩) := hs.rest 3 rfl
      have ec : ∀ v, a'.eval (.const v) = v := fun _ => rfl
      have ef : ∀ g, a'.eval (.func g) = .func (.func g) #[] #[] := fun _ => rfl
      clear hd hs
      obtain ⟨l0, l1, l2, l3, l4⟩ := KA.later hg
      refine wpv (v := .agg #[.int .i64 (a).e, .int .i64 (a).d, .int .i64 (a).x, .int .i64 (a).y, .int .i64 (a).z]) ?_ ⟨_, rfl, Grow.rfl' _, rfl⟩
      (generalize a'.eval = ev at ec ef e3 ⊢; simp [execOp, go_sem, *])
    · refine stepOne_run ⟨⟨⟨6, Ground.guard⟩, by simp, rfl, rfl⟩, fun _ _ h => h⟩ ?_
      intro a' w' hg hs hd
      have e3 : a'.eval (.tmp 3) = .pointer (some ⟨w.heap.size, 0, none⟩) := hs.rest 3 rfl
      have ec : ∀ v, a'.eval (.const v) = v := fun _ => rfl
      have ef : ∀ g, a'.eval (.func g) = .func (.func g) #[] #[] := fun _ => rfl
      clear hd hs
      obtain ⟨l0, l1, l2, l3, l4⟩ := KA.later hg
      refine wpv (v := .agg #[.int .i64 (a).e, .int .i64 (a).d, .int .i64 (a).x, .int .i64 (a).y, .int .i64 (a).z]) ?_ ⟨_, rfl, Grow.rfl' _, rfl⟩
      (generalize a'.eval = ev at ec ef e3 ⊢; simp [execOp, go_sem, *])
    · refine stepOne_run ⟨⟨⟨6, Ground.chain⟩, by simp, rfl, rfl⟩, fun _ _ h => h⟩ ?_
      intro a' w' hg hs hd
      have e73 : a'.eval (.tmp 73) = .agg #[.int .i64 (a).e, .int .i64 (a).d, .int .i64 (a).x, .int .i64 (a).y, .int .i64 (a).z] := hd ⟨7, Ground.data⟩ (by simp) rfl
      have e74 : a'.eval (.tmp 74) = .agg #[.int .i64 (a).e, .int .i64 (a).d, .int .i64 (a).x, .int .i64 (a).y, .int .i64 (a).z] := hd ⟨8, Ground.data⟩ (by simp) rfl
      have ec : ∀ v, a'.eval (.const v) = v := fun _ => rfl
      have ef : ∀ g, a'.eval (.func g) = .func (.func g) #[] #[] := fun _ => rfl
      clear hd hs
      refine wpc ?_ (Calls.mono (lessC a a false hls'.out w') fun e w2 ⟨he, hb⟩ => ⟨_, he, _, rfl, hb, rfl⟩)
      (generalize a'.eval = ev at ec ef e73 e74 ⊢; simp [execOp, go_sem, *])
    · refine stepOne_run ⟨⟨⟨6, Ground.guard⟩, by simp, rfl, rfl⟩, fun _ _ h => h⟩ ?_
      intro a' w' hg hs hd
      have e75 : a'.eval (.tmp 75) = .bool false := hd ⟨9, Ground.data⟩ (by simp) rfl
      have ec : ∀ v, a'.eval (.const v) = v := fun _ => rfl
      have ef : ∀ g, a'.eval (.func g) = .func (.func g) #[] #[] := fun _ => rfl
      clear hd hs
      refine wpv (v := .bool true) ?_ ⟨_, rfl, Grow.rfl' _, rfl⟩
      (generalize a'.eval = ev at ec ef e75 ⊢; simp [execOp, go_sem, *])
    · refine stepOne_run trivial ?_
      intro a' w' hg hs hd
      have e72 : a'.eval (.tmp 72) = .bool true := hd ⟨6, Ground.data⟩ (by simp) rfl
      have e76 : a'.eval (.tmp 76) = .bool true := hd ⟨10, Ground.data⟩ (by simp) rfl
      have ec : ∀ v, a'.eval (.const v) = v := fun _ => rfl
      have ef : ∀ g, a'.eval (.func g) = .func (.func g) #[] #[] := fun _ => rfl
      clear hd hs
      refine wpv (v := .bool true) ?_ ⟨_, rfl, Grow.rfl' _, rfl⟩
      (generalize a'.eval = ev at ec ef e72 e76 ⊢; simp [execOp, go_sem, *])
    · refine stepOne_run trivial ?_
      intro a' w' hg hs hd
      have e77 : a'.eval (.tmp 77) = .bool true := hd ⟨11, Ground.data⟩ (by simp) rfl
      have ec : ∀ v, a'.eval (.const v) = v := fun _ => rfl
      have ef : ∀ g, a'.eval (.func g) = .func (.func g) #[] #[] := fun _ => rfl
      clear hd hs
      refine wpv (v := .bool true) ?_ ⟨_, rfl, Grow.rfl' _, rfl⟩
      (generalize a'.eval = ev at ec ef e77 ⊢; simp [execOp, go_sem, *])
    · refine stepOne_run ⟨⟨⟨12, Ground.guard⟩, by simp, rfl, rfl⟩, fun _ _ h => h⟩ ?_
      intro a' w' hg hs hd
      have e8 : a'.eval (.tmp 8) = .bool true := hs.rest 8 rfl
      have ec : ∀ v, a'.eval (.const v) = v := fun _ => rfl
      have ef : ∀ g, a'.eval (.func g) = .func (.func g) #[] #[] := fun _ => rfl
      clear hd hs
      refine wpv (v := .bool true) ?_ ⟨_, rfl, Grow.rfl' _, rfl⟩
      (generalize a'.eval = ev at ec ef e8 ⊢; simp [execOp, go_sem, *])
    · refine stepOne_run trivial ?_
      intro a' w' hg hs hd
      have e78 : a'.eval (.tmp 78) = .bool true := hd ⟨12, Ground.data⟩ (by simp) rfl
      have e79 : a'.eval (.tmp 79) = .bool true := hd ⟨13, Ground.data⟩ (by simp) rfl
      have ec : ∀ v, a'.eval (.const v) = v := fun _ => rfl
      have ef : ∀ g, a'.eval (.func g) = .func (.func g) #[] #[] := fun _ => rfl
      clear hd hs
      refine wpv (v := .bool true) ?_ ⟨_, rfl, Grow.rfl' _, rfl⟩
      (generalize a'.eval = ev at ec ef e78 e79 ⊢; simp [execOp, go_sem, *])
    · refine stepOne_run trivial ?_
      intro a' w' hg hs hd
      have e80 : a'.eval (.tmp 80) = .bool true := hd ⟨14, Ground.data⟩ (by simp) rfl
      have ec : ∀ v, a'.eval (.const v) = v := fun _ => rfl
      have ef : ∀ g, a'.eval (.func g) = .func (.func g) #[] #[] := fun _ => rfl
      clear hd hs
      refine wpv (v := .bool true) ?_ ⟨_, rfl, Grow.rfl' _, rfl⟩
      (generalize a'.eval = ev at ec ef e80 ⊢; simp [execOp, go_sem, *])
    · refine stepOne_run ⟨⟨⟨15, Ground.guard⟩, by simp, rfl, rfl⟩, fun _ _ h => h⟩ ?_
      intro a' w' hg hs hd
      have e9 : a'.eval (.tmp 9) = .bool true := hs.rest 9 rfl
      have ec : ∀ v, a'.eval (.const v) = v := fun _ => rfl
      have ef : ∀ g, a'.eval (.func g) = .func (.func g) #[] #[] := fun _ => rfl
      clear hd hs
      refine wpv (v := .bool true) ?_ ⟨_, rfl, Grow.rfl' _, rfl⟩
      (generalize a'.eval = ev at ec ef e9 ⊢; simp [execOp, go_sem, *])
    · refine stepOne_run trivial ?_
      intro a' w' hg hs hd
      have e81 : a'.eval (.tmp 81) = .bool true := hd ⟨15, Ground.data⟩ (by simp) rfl
      have e82 : a'.eval (.tmp 82) = .bool true := hd ⟨16, Ground.data⟩ (by simp) rfl
      have ec : ∀ v, a'.eval (.const v) = v := fun _ => rfl
      have ef : ∀ g, a'.eval (.func g) = .func (.func g) #[] #[] := fun _ => rfl
      clear hd hs
      refine wpv (v := .bool true) ?_ ⟨_, rfl, Grow.rfl' _, rfl⟩
      (generalize a'.eval = ev at ec ef e81 e82 ⊢; simp [execOp, go_sem, *])
    · refine stepOne_run trivial ?_
      intro a' w' hg hs hd
      have e83 : a'.eval (.tmp 83) = .bool true := hd ⟨17, Ground.data⟩ (by simp) rfl
      have ec : ∀ v, a'.eval (.const v) = v := fun _ => rfl
      have ef : ∀ g, a'.eval (.func g) = .func (.func g) #[] #[] := fun _ => rfl
      clear hd hs
      refine wpv (v := .bool true) ?_ ⟨_, rfl, Grow.rfl' _, rfl⟩
      (generalize a'.eval = ev at ec ef e83 ⊢; simp [execOp, go_sem, *])
    · refine stepOne_run ⟨⟨⟨18, Ground.guard⟩, by simp, rfl, rfl⟩, fun _ _ h => h⟩ ?_
      intro a' w' hg hs hd
      have e10 : a'.eval (.tmp 10) = .bool true := hs.rest 10 rfl
      have ec : ∀ v, a'.eval (.const v) = v := fun _ => rfl
      have ef : ∀ g, a'.eval (.func g) = .func (.func g) #[] #[] := fun _ => rfl
      clear hd hs
      refine wpv (v := .bool true) ?_ ⟨_, rfl, Grow.rfl' _, rfl⟩
      (generalize a'.eval = ev at ec ef e10 ⊢; simp [execOp, go_sem, *])
    · refine stepOne_run trivial ?_
      intro a' w' hg hs hd
      have e84 : a'.eval (.tmp 84) = .bool true := hd ⟨18, Ground.data⟩ (by simp) rfl
      have e85 : a'.eval (.tmp 85) = .bool true := hd ⟨19, Ground.data⟩ (by simp) rfl
      have ec : ∀ v, a'.eval (.const v) = v := fun _ => rfl
      have ef : ∀ g, a'.eval (.func g) = .func (.func g) #[] #[] := fun _ => rfl
      clear hd hs
      refine wpv (v := .bool true) ?_ ⟨_, rfl, Grow.rfl' _, rfl⟩
      (generalize a'.eval = ev at ec ef e84 e85 ⊢; simp [execOp, go_sem, *])
    · refine stepOne_run trivial ?_
      intro a' w' hg hs hd
      have e86 : a'.eval (.tmp 86) = .bool true := hd ⟨20, Ground.data⟩ (by simp) rfl
      have ec : ∀ v, a'.eval (.const v) = v := fun _ => rfl
      have ef : ∀ g, a'.eval (.func g) = .func (.func g) #[] #[] := fun _ => rfl
      clear hd hs
      refine wpv (v := .bool true) ?_ ⟨_, rfl, Grow.rfl' _, rfl⟩
      (generalize a'.eval = ev at ec ef e86 ⊢; simp [execOp, go_sem, *])
    · refine stepOne_run ⟨⟨⟨21, Ground.guard⟩, by simp, rfl, rfl⟩, fun _ _ h => h⟩ ?_
      intro a' w' hg hs hd
      have e3 : a'.eval (.tmp 3) = .pointer (some ⟨w.heap.size, 0, none⟩) := hs.rest 3 rfl
      have ec : ∀ v, a'.eval (.const v) = v := fun _ => rfl
      have ef : ∀ g, a'.eval (.func g) = .func (.func g) #[] #[] := fun _ => rfl
      clear hd hs
      obtain ⟨l0, l1, l2, l3, l4⟩ := KA.later hg
      refine wpv (v := .agg #[.int .i64 (a).e, .int .i64 (a).d, .int .i64 (a).x, .int .i64 (a).y, .int .i64 (a).z]) ?_ ⟨_, rfl, Grow.rfl' _, rfl⟩
      (generalize a'.eval = ev at ec ef e3 ⊢; simp [execOp, go_sem, *])
    · refine stepOne_run ⟨⟨⟨21, Ground.guard⟩, by simp, rfl, rfl⟩, fun _ _ h => h⟩ ?_
      intro a' w' hg hs hd
      have e4 : a'.eval (.tmp 4) = .pointer (some ⟨w.heap.size + 1, 0, none⟩) := hs.rest 4 rfl
      have ec : ∀ v, a'.eval (.const v) = v := fun _ => rfl
      have ef : ∀ g, a'.eval (.func g) = .func (.func g) #[] #[] := fun _ => rfl
      clear hd hs
      obtain ⟨l0, l1, l2, l3, l4⟩ := KB.later hg
      refine wpv (v := .agg #[.int .i64 (b).e, .int .i64 (b).d, .int .i64 (b).x, .int .i64 (b).y, .int .i64 (b).z]) ?_ ⟨_, rfl, Grow.rfl' _, rfl⟩
      (generalize a'.eval = ev at ec ef e4 ⊢; simp [execOp, go_sem, *])
    · refine stepOne_run ⟨⟨⟨21, Ground.chain⟩, by simp, rfl, rfl⟩, fun _ _ h => h⟩ ?_
      intro a' w' hg hs hd
      have e88 : a'.eval (.tmp 88) = .agg #[.int .i64 (a).e, .int .i64 (a).d, .int .i64 (a).x, .int .i64 (a).y, .int .i64 (a).z] := hd ⟨22, Ground.data⟩ (by simp) rfl
      have e89 : a'.eval (.tmp 89) = .agg #[.int .i64 (b).e, .int .i64 (b).d, .int .i64 (b).x, .int .i64 (b).y, .int .i64 (b).z] := hd ⟨23, Ground.data⟩ (by simp) rfl
      have ec : ∀ v, a'.eval (.const v) = v := fun _ => rfl
      have ef : ∀ g, a'.eval (.func g) = .func (.func g) #[] #[] := fun _ => rfl
      clear hd hs
      refine wpc ?_ (Calls.mono (orderC a b _ hoo'.out w') fun e w2 ⟨he, hb⟩ => ⟨_, he, _, rfl, hb, rfl⟩)
      (generalize a'.eval = ev at ec ef e88 e89 ⊢; simp [execOp, go_sem, *])
    · refine stepOne_run ⟨⟨⟨21, Ground.guard⟩, by simp, rfl, rfl⟩, fun _ _ h => h⟩ ?_
      intro a' w' hg hs hd
      have e4 : a'.eval (.tmp 4) = .pointer (some ⟨w.heap.size + 1, 0, none⟩) := hs.rest 4 rfl
      have ec : ∀ v, a'.eval (.const v) = v := fun _ => rfl
      have ef : ∀ g, a'.eval (.func g) = .func (.func g) #[] #[] := fun _ => rfl
      clear hd hs
      obtain ⟨l0, l1, l2, l3, l4⟩ := KB.later hg
      refine wpv (v := .agg #[.int .i64 (b).e, .int .i64 (b).d, .int .i64 (b).x, .int .i64 (b).y, .int .i64 (b).z]) ?_ ⟨_, rfl, Grow.rfl' _, rfl⟩
      (generalize a'.eval = ev at ec ef e4 ⊢; simp [execOp, go_sem, *])
    · refine stepOne_run ⟨⟨⟨21, Ground.guard⟩, by simp, rfl, rfl⟩, fun _ _ h => h⟩ ?_
      intro a' w' hg hs hd
      have e3 : a'.eval (.tmp 3) = .pointer (some ⟨w.heap.size, 0, none⟩) := hs.rest 3 rfl
      have ec : ∀ v, a'.eval (.const v) = v := fun _ => rfl
      have ef : ∀ g, a'.eval (.func g) = .func (.func g) #[] #[] := fun _ => rfl
      clear hd hs
      obtain ⟨l0, l1, l2, l3, l4⟩ := KA.later hg
      refine wpv (v := .agg #[.int .i64 (a).e, .int .i64 (a).d, .int .i64 (a).x, .int .i64 (a).y, .int .i64 (a).z]) ?_ ⟨_, rfl, Grow.rfl' _, rfl⟩
      (generalize a'.eval = ev at ec ef e3 ⊢; simp [execOp, go_sem, *])
    · refine stepOne_run ⟨⟨⟨21, Ground.guard⟩, by simp, rfl, rfl⟩, fun _ _ h => h⟩ ?_
      intro a' w' hg hs hd
      have e91 : a'.eval (.tmp 91) = .agg #[.int .i64 (b).e, .int .i64 (b).d, .int .i64 (b).x, .int .i64 (b).y, .int .i64 (b).z] := hd ⟨25, Ground.data⟩ (by simp) rfl
      have e92 : a'.eval (.tmp 92) = .agg #[.int .i64 (a).e, .int .i64 (a).d, .int .i64 (a).x, .int .i64 (a).y, .int .i64 (a).z] := hd ⟨26, Ground.data⟩ (by simp) rfl
      have ec : ∀ v, a'.eval (.const v) = v := fun _ => rfl
      have ef : ∀ g, a'.eval (.func g) = .func (.func g) #[] #[] := fun _ => rfl
      clear hd hs
      refine wpc ?_ (Calls.mono (order_any b a w') fun e w2 ⟨he, hb⟩ => ⟨_, he, _, rfl, hb, rfl⟩)
      (generalize a'.eval = ev at ec ef e91 e92 ⊢; simp [execOp, go_sem, *])
    · refine stepOne_run ⟨⟨⟨21, Ground.guard⟩, by simp, rfl, rfl⟩, fun _ _ h => h⟩ ?_
      intro a' w' hg hs hd
      have e93 : a'.eval (.tmp 93) = .int .i64 (orderI b a) := hd ⟨27, Ground.data⟩ (by simp) rfl
      have ec : ∀ v, a'.eval (.const v) = v := fun _ => rfl
      have ef : ∀ g, a'.eval (.func g) = .func (.func g) #[] #[] := fun _ => rfl
      clear hd hs
      have hw := neg_wrap a b
      refine wpv (v := .int .i64 (-orderI b a)) ?_ ⟨_, rfl, Grow.rfl' _, rfl⟩
      (generalize a'.eval = ev at ec ef e93 ⊢; simp [execOp, go_sem, *])
    · refine stepOne_run ⟨⟨⟨21, Ground.guard⟩, by simp, rfl, rfl⟩, fun _ _ h => h⟩ ?_
      intro a' w' hg hs hd
      have e90 : a'.eval (.tmp 90) = .int .i64 (-orderI b a) := hd ⟨24, Ground.data⟩ (by simp) rfl
      have e94 : a'.eval (.tmp 94) = .int .i64 (-orderI b a) := hd ⟨28, Ground.data⟩ (by simp) rfl
      have ec : ∀ v, a'.eval (.const v) = v := fun _ => rfl
      have ef : ∀ g, a'.eval (.func g) = .func (.func g) #[] #[] := fun _ => rfl
      clear hd hs
      refine wpv (v := .bool true) ?_ ⟨_, rfl, Grow.rfl' _, rfl⟩
      (generalize a'.eval = ev at ec ef e90 e94 ⊢; simp [execOp, go_sem, *])
    · refine stepOne_run trivial ?_
      intro a' w' hg hs hd
      have e87 : a'.eval (.tmp 87) = .bool true := hd ⟨21, Ground.data⟩ (by simp) rfl
      have e95 : a'.eval (.tmp 95) = .bool true := hd ⟨29, Ground.data⟩ (by simp) rfl
      have ec : ∀ v, a'.eval (.const v) = v := fun _ => rfl
      have ef : ∀ g, a'.eval (.func g) = .func (.func g) #[] #[] := fun _ => rfl
      clear hd hs
      refine wpv (v := .bool true) ?_ ⟨_, rfl, Grow.rfl' _, rfl⟩
      (generalize a'.eval = ev at ec ef e87 e95 ⊢; simp [execOp, go_sem, *])
    · refine stepOne_run trivial ?_
      intro a' w' hg hs hd
      have e96 : a'.eval (.tmp 96) = .bool true := hd ⟨30, Ground.data⟩ (by simp) rfl
      have ec : ∀ v, a'.eval (.const v) = v := fun _ => rfl
      have ef : ∀ g, a'.eval (.func g) = .func (.func g) #[] #[] := fun _ => rfl
      clear hd hs
      refine wpv (v := .bool true) ?_ ⟨_, rfl, Grow.rfl' _, rfl⟩
      (generalize a'.eval = ev at ec ef e96 ⊢; simp [execOp, go_sem, *])
  · intro a' w' hg hs hd
    have h0 : a'.eval (.tmp 6) = .bool true := hd 31 (by simp)
    go_wp2
    refine bodyPost_ret (v := .bool true) ?_ (by rw [hs.defers]) ⟨rfl, Grow.trans' (Grow.trans' (((Grow.alloc' _ _).trans' (Grow.alloc' _ _)).trans' (Grow.alloc' _ _)) g9) hg⟩
    clear hd hs
    simpa [results, Try.results6, Act.eval] using h0

set_option maxHeartbeats 4000000 in
theorem TsPartial_4 (a b c : Tm) (w : World) (hA : mayB a = true) (hB : mayB b = true) (hC : mayB c = true) (hp : leB a b = true) (hq : leB b a = true) (hr : leB b c = true) :
    Calls Try.prog 6 #[.agg #[.int .i64 a.e, .int .i64 a.d, .int .i64 a.x, .int .i64 a.y, .int .i64 a.z], .agg #[.int .i64 b.e, .int .i64 b.d, .int .i64 b.x, .int .i64 b.y, .int .i64 b.z], .agg #[.int .i64 c.e, .int .i64 c.d, .int .i64 c.x, .int .i64 c.y, .int .i64 c.z]] w fun e w' => e = .returned (.bool true) ∧ Below w.heap.size w w' := by
  have hl : lessB a b = false := by simp [lessB, hp, hq]
  have haa := le_refl_may hA
  have hE := le_anti hA hB hp hq
  have hs := le_trans hp hr
  have hoo := order_anti a b
  have hls := less_self a
  have hA' := hide hA
  have hB' := hide hB
  have hC' := hide hC
  have hp' := hide hp
  have hl' := hide hl
  have haa' := hide haa
  have hoo' := hide hoo
  have hls' := hide hls
  have hq' := hide hq
  have hr' := hide hr
  have hE' := hide hE
  have hs' := hide hs
  clear hA hB hC hp hl haa hoo hls hq hr hE hs
  go_enter Try.func6, Try.ntmps6
  go_wp2_with fail
  refine (shown_any _).mono ?_
  rintro e w1 ⟨rfl, hb⟩
  have g1 := hb
  clear hb
  obtain ⟨hc, hf⟩ := bcell g1
  go_wp2_with fail
  refine (mayC a true hA'.out _).mono ?_
  rintro e w2 ⟨rfl, hb⟩
  have g2 := Grow.trans' g1 hb
  clear hb g1 hc hf
  obtain ⟨hc, hf⟩ := bcell g2
  go_wp2_with fail
  refine (mayC b true hB'.out _).mono ?_
  rintro e w3 ⟨rfl, hb⟩
  have g3 := Grow.trans' g2 hb
  clear hb g2 hc hf
  obtain ⟨hc, hf⟩ := bcell g3
  go_wp2_with fail
  refine (mayC c true hC'.out _).mono ?_
  rintro e w4 ⟨rfl, hb⟩
  have g4 := Grow.trans' g3 hb
  clear hb g3 hc hf
  obtain ⟨hc, hf⟩ := bcell g4
  go_wp2_with fail
  refine (leC a b true hp'.out _).mono ?_
  rintro e w5 ⟨rfl, hb⟩
  have g5 := Grow.trans' g4 hb
  clear hb g4 hc hf
  obtain ⟨hc, hf⟩ := bcell g5
  go_wp2_with fail
  refine (leC b a true hq'.out _).mono ?_
  rintro e w6 ⟨rfl, hb⟩
  have g6 := Grow.trans' g5 hb
  clear hb g5 hc hf
  obtain ⟨hc, hf⟩ := bcell g6
  have hE := hE'.out
  go_wp2_with fail
  refine (leC a b true hp'.out _).mono ?_
  rintro e w7 ⟨rfl, hb⟩
  have g7 := Grow.trans' g6 hb
  clear hb g6 hc hf
  obtain ⟨hc, hf⟩ := bcell g7
  go_wp2_with fail
  refine (leC b c true hr'.out _).mono ?_
  rintro e w8 ⟨rfl, hb⟩
  have g8 := Grow.trans' g7 hb
  clear hb g7 hc hf
  obtain ⟨hc, hf⟩ := bcell g8
  go_wp2_with fail
  refine (leC a c true hs'.out _).mono ?_
  rintro e w9 ⟨rfl, hb⟩
  have g9 := Grow.trans' g8 hb
  clear hb g8 hc hf
  obtain ⟨hc, hf⟩ := bcell g9
  go_wp2_with fail
  refine (lessC a b false hl'.out _).mono ?_
  rintro e w10 ⟨rfl, hb⟩
  have g10 := Grow.trans' g9 hb
  clear hb g9 hc hf
  obtain ⟨hc, hf⟩ := bcell g10
  have KA : Box w10 w.heap.size a := (((Box.new w a).later (Grow.alloc' _ _)).later (Grow.alloc' _ _)).later g10
  have KB : Box w10 (w.heap.size + 1) b := Box.later g10 (Box.later (Grow.alloc' _ _) (by simpa using Box.new (w.alloc (.cells #[.int .i64 a.e, .int .i64 a.d, .int .i64 a.x, .int .i64 a.y, .int .i64 a.z] 25)) b))
  go_wp2_with fail
  refine wp_region_inv (fun i v w => match i with | 0 => v = .bool true | 1 => v = .bool true | 2 => v = .agg #[.int .i64 (a).e, .int .i64 (a).d, .int .i64 (a).x, .int .i64 (a).y, .int .i64 (a).z] | 3 => v = .agg #[.int .i64 (a).e, .int .i64 (a).d, .int .i64 (a).x, .int .i64 (a).y, .int .i64 (a).z] | 4 => v = .bool true | 5 => v = .bool true | 6 => v = .bool true | 7 => v = .agg #[.int .i64 (a).e, .int .i64 (a).d, .int .i64 (a).x, .int .i64 (a).y, .int .i64 (a).z] | 8 => v = .agg #[.int .i64 (a).e, .int .i64 (a).d, .int .i64 (a).x, .int .i64 (a).y, .int .i64 (a).z] | 9 => v = .bool false | 10 => v = .bool true | 11 => v = .bool true | 12 => v = .bool true | 13 => v = .bool true | 14 => v = .bool true | 15 => v = .bool true | 16 => v = .bool true | 17 => v = .bool true | 18 => v = .bool true | 19 => v = .bool true | 20 => v = .bool true | 21 => v = .bool true | 22 => v = .agg #[.int .i64 (a).e, .int .i64 (a).d, .int .i64 (a).x, .int .i64 (a).y, .int .i64 (a).z] | 23 => v = .agg #[.int .i64 (b).e, .int .i64 (b).d, .int .i64 (b).x, .int .i64 (b).y, .int .i64 (b).z] | 24 => v = .int .i64 (-orderI b a) | 25 => v = .agg #[.int .i64 (b).e, .int .i64 (b).d, .int .i64 (b).x, .int .i64 (b).y, .int .i64 (b).z] | 26 => v = .agg #[.int .i64 (a).e, .int .i64 (a).d, .int .i64 (a).x, .int .i64 (a).y, .int .i64 (a).z] | 27 => v = .int .i64 (orderI b a) | 28 => v = .int .i64 (-orderI b a) | 29 => v = .bool true | 30 => v = .bool true | 31 => v = .bool true | _ => True) (by kernel_rfl) (by kernel_rfl) ?_ ?_ ?_
  · intro k v w1 w2 hg h
    match k with
    | 0 => exact h
    | 1 => exact h
    | 2 => exact h
    | 3 => exact h
    | 4 => exact h
    | 5 => exact h
    | 6 => exact h
    | 7 => exact h
    | 8 => exact h
    | 9 => exact h
    | 10 => exact h
    | 11 => exact h
    | 12 => exact h
    | 13 => exact h
    | 14 => exact h
    | 15 => exact h
    | 16 => exact h
    | 17 => exact h
    | 18 => exact h
    | 19 => exact h
    | 20 => exact h
    | 21 => exact h
    | 22 => exact h
    | 23 => exact h
    | 24 => exact h
    | 25 => exact h
    | 26 => exact h
    | 27 => exact h
    | 28 => exact h
    | 29 => exact h
    | 30 => exact h
    | 31 => exact h
    | k + 32 => exact trivial
  · refine ⟨?_, ?_, ?_, ?_, ?_, ?_, ?_, ?_, ?_, ?_, ?_, ?_, ?_, ?_, ?_, ?_, ?_, ?_, ?_, ?_, ?_, ?_, ?_, ?_, ?_, ?_, ?_, ?_, ?_, ?_, ?_, ?_, trivial⟩
    · refine stepOne_run trivial ?_
      intro a' w' hg hs hd
      have e7 : a'.eval (.tmp 7) = .bool true := hs.rest 7 rfl
      have ec : ∀ v, a'.eval (.const v) = v := fun _ => rfl
      have ef : ∀ g, a'.eval (.func g) = .func (.func g) #[] #[] := fun _ => rfl
      clear hd hs
      refine wpv (v := .bool true) ?_ ⟨_, rfl, Grow.rfl' _, rfl⟩
      (generalize a'.eval = ev at ec ef e7 ⊢; simp [execOp, go_sem, *])
    · refine stepOne_run trivial ?_
      intro a' w' hg hs hd
      have e66 : a'.eval (.tmp 66) = .bool true := hd ⟨0, Ground.data⟩ (by simp) rfl
      have ec : ∀ v, a'.eval (.const v) = v := fun _ => rfl
      have ef : ∀ g, a'.eval (.func g) = .func (.func g) #[] #[] := fun _ => rfl
      clear hd hs
      refine wpv (v := .bool true) ?_ ⟨_, rfl, Grow.rfl' _, rfl⟩
      (generalize a'.eval = ev at ec ef e66 ⊢; simp [execOp, go_sem, *])
    · refine stepOne_run ⟨⟨⟨1, Ground.guard⟩, by simp, rfl, rfl⟩, fun _ _ h => h⟩ ?_
      intro a' w' hg hs hd
      have e3 : a'.eval (.tmp 3) = .pointer (some ⟨w.heap.size, 0, none⟩) := hs.rest 3 rfl
      have ec : ∀ v, a'.eval (.const v) = v := fun _ => rfl
      have ef : ∀ g, a'.eval (.func g) = .func (.func g) #[] #[] := fun _ => rfl
      clear hd hs
      obtain ⟨l0, l1, l2, l3, l4⟩ := KA.later hg
      refine wpv (v := .agg #[.int .i64 (a).e, .int .i64 (a).d, .int .i64 (a).x, .int .i64 (a).y, .int .i64 (a).z]) ?_ ⟨_, rfl, Grow.rfl' _, rfl⟩
      (generalize a'.eval = ev at ec ef e3 ⊢; simp [execOp, go_sem, *])
    · refine stepOne_run ⟨⟨⟨1, Ground.guard⟩, by simp, rfl, rfl⟩, fun _ _ h => h⟩ ?_
      intro a' w' hg hs hd
      have e3 : a'.eval (.tmp 3) = .pointer (some ⟨w.heap.size, 0, none⟩) := hs.rest 3 rfl
      have ec : ∀ v, a'.eval (.const v) = v := fun _ => rfl
      have ef : ∀ g, a'.eval (.func g) = .func (.func g) #[] #[] := fun _ => rfl
      clear hd hs
      obtain ⟨l0, l1, l2, l3, l4⟩ := KA.later hg
      refine wpv (v := .agg #[.int .i64 (a).e, .int .i64 (a).d, .int .i64 (a).x, .int .i64 (a).y, .int .i64 (a).z]) ?_ ⟨_, rfl, Grow.rfl' _, rfl⟩
      (generalize a'.eval = ev at ec ef e3 ⊢; simp [execOp, go_sem, *])
    · refine stepOne_run ⟨⟨⟨1, Ground.chain⟩, by simp, rfl, rfl⟩, fun _ _ h => h⟩ ?_
      intro a' w' hg hs hd
      have e68 : a'.eval (.tmp 68) = .agg #[.int .i64 (a).e, .int .i64 (a).d, .int .i64 (a).x, .int .i64 (a).y, .int .i64 (a).z] := hd ⟨2, Ground.data⟩ (by simp) rfl
      have e69 : a'.eval (.tmp 69) = .agg #[.int .i64 (a).e, .int .i64 (a).d, .int .i64 (a).x, .int .i64 (a).y, .int .i64 (a).z] := hd ⟨3, Ground.data⟩ (by simp) rfl
      have ec : ∀ v, a'.eval (.const v) = v := fun _ => rfl
      have ef : ∀ g, a'.eval (.func g) = .func (.func g) #[] #[] := fun _ => rfl
      clear hd hs
      refine wpc ?_ (Calls.mono (leC a a true haa'.out w') fun e w2 ⟨he, hb⟩ => ⟨_, he, _, rfl, hb, rfl⟩)
      (generalize a'.eval = ev at ec ef e68 e69 ⊢; simp [execOp, go_sem, *])
    · refine stepOne_run trivial ?_
      intro a' w' hg hs hd
      have e67 : a'.eval (.tmp 67) = .bool true := hd ⟨1, Ground.data⟩ (by simp) rfl
      have e70 : a'.eval (.tmp 70) = .bool true := hd ⟨4, Ground.data⟩ (by simp) rfl
      have ec : ∀ v, a'.eval (.const v) = v := fun _ => rfl
      have ef : ∀ g, a'.eval (.func g) = .func (.func g) #[] #[] := fun _ => rfl
      clear hd hs
      refine wpv (v := .bool true) ?_ ⟨_, rfl, Grow.rfl' _, rfl⟩
      (generalize a'.eval = ev at ec ef e67 e70 ⊢; simp [execOp, go_sem, *])
    · refine stepOne_run trivial ?_
      intro a' w' hg hs hd
      have e71 : a'.eval (.tmp 71) = .bool true := hd ⟨5, Ground.data⟩ (by simp) rfl
      have ec : ∀ v, a'.eval (.const v) = v := fun _ => rfl
      have ef : ∀ g, a'.eval (.func g) = .func (.func g) #[] #[] := fun _ => rfl
      clear hd hs
      refine wpv (v := .bool true) ?_ ⟨_, rfl, Grow.rfl' _, rfl⟩
      (generalize a'.eval = ev at ec ef e71 ⊢; simp [execOp, go_sem, *])
    · refine stepOne_run ⟨⟨⟨6, Ground.guard⟩, by simp, rfl, rfl⟩, fun _ _ h => h⟩ ?_
      intro a' w' hg hs hd
      have e3 : a'.eval (.tmp 3) = .pointer (some ⟨w.heap.size, 0, none⟩) := hs.rest 3 rfl
      have ec : ∀ v, a'.eval (.const v) = v := fun _ => rfl
      have ef : ∀ g, a'.eval (.func g) = .func (.func g) #[] #[] := fun _ => rfl
      clear hd hs
      obtain ⟨l0, l1, l2, l3, l4⟩ := KA.later hg
      refine wpv (v := .agg #[.int .i64 (a).e, .int .i64 (a).d, .int .i64 (a).x, .int .i64 (a).y, .int .i64 (a).z]) ?_ ⟨_, rfl, Grow.rfl' _, rfl⟩
      (generalize a'.eval = ev at ec ef e3 ⊢; simp [execOp, go_sem, *])
    · refine stepOne_run ⟨⟨⟨6, Ground.guard⟩, by simp, rfl, rfl⟩, fun _ _ h => h⟩ ?_
      intro a' w' hg hs hd
      have e3 : a'.eval (.tmp 3) = .pointer (some ⟨w.heap.size, 0, none⟩) := hs.rest 3 rfl
      have ec : ∀ v, a'.eval (.const v) = v := fun _ => rfl
      have ef : ∀ g, a'.eval (.func g) = .func (.func g) #[] #[] := fun _ => rfl
      clear hd hs
      obtain ⟨l0, l1, l2, l3, l4⟩ := KA.later hg
      refine wpv (v := .agg #[.int .i64 (a).e, .int .i64 (a).d, .int .i64 (a).x, .int .i64 (a).y, .int .i64 (a).z]) ?_ ⟨_, rfl, Grow.rfl' _, rfl⟩
      (generalize a'.eval = ev at ec ef e3 ⊢; simp [execOp, go_sem, *])
    · refine stepOne_run ⟨⟨⟨6, Ground.chain⟩, by simp, rfl, rfl⟩, fun _ _ h => h⟩ ?_
      intro a' w' hg hs hd
      have e73 : a'.eval (.tmp 73) = .agg #[.int .i64 (a).e, .int .i64 (a).d, .int .i64 (a).x, .int .i64 (a).y, .int .i64 (a).z] := hd ⟨7, Ground.data⟩ (by simp) rfl
      have e74 : a'.eval (.tmp 74) = .agg #[.int .i64 (a).e, .int .i64 (a).d, .int .i64 (a).x, .int .i64 (a).y, .int .i64 (a).z] := hd ⟨8, Ground.data⟩ (by simp) rfl
      have ec : ∀ v, a'.eval (.const v) = v := fun _ => rfl
      have ef : ∀ g, a'.eval (.func g) = .func (.func g) #[] #[] := fun _ => rfl
      clear hd hs
      refine wpc ?_ (Calls.mono (lessC a a false hls'.out w') fun e w2 ⟨he, hb⟩ => ⟨_, he, _, rfl, hb, rfl⟩)
      (generalize a'.eval = ev at ec ef e73 e74 ⊢; simp [execOp, go_sem, *])
    · refine stepOne_run ⟨⟨⟨6, Ground.guard⟩, by simp, rfl, rfl⟩, fun _ _ h => h⟩ ?_
      intro a' w' hg hs hd
      have e75 : a'.eval (.tmp 75) = .bool false := hd ⟨9, Ground.data⟩ (by simp) rfl
      have ec : ∀ v, a'.eval (.const v) = v := fun _ => rfl
      have ef : ∀ g, a'.eval (.func g) = .func (.func g) #[] #[] := fun _ => rfl
      clear hd hs
      refine wpv (v := .bool true) ?_ ⟨_, rfl, Grow.rfl' _, rfl⟩
      (generalize a'.eval = ev at ec ef e75 ⊢; simp [execOp, go_sem, *])
    · refine stepOne_run trivial ?_
      intro a' w' hg hs hd
      have e72 : a'.eval (.tmp 72) = .bool true := hd ⟨6, Ground.data⟩ (by simp) rfl
      have e76 : a'.eval (.tmp 76) = .bool true := hd ⟨10, Ground.data⟩ (by simp) rfl
      have ec : ∀ v, a'.eval (.const v) = v := fun _ => rfl
      have ef : ∀ g, a'.eval (.func g) = .func (.func g) #[] #[] := fun _ => rfl
      clear hd hs
      refine wpv (v := .bool true) ?_ ⟨_, rfl, Grow.rfl' _, rfl⟩
      (generalize a'.eval = ev at ec ef e72 e76 ⊢; simp [execOp, go_sem, *])
    · refine stepOne_run trivial ?_
      intro a' w' hg hs hd
      have e77 : a'.eval (.tmp 77) = .bool true := hd ⟨11, Ground.data⟩ (by simp) rfl
      have ec : ∀ v, a'.eval (.const v) = v := fun _ => rfl
      have ef : ∀ g, a'.eval (.func g) = .func (.func g) #[] #[] := fun _ => rfl
      clear hd hs
      refine wpv (v := .bool true) ?_ ⟨_, rfl, Grow.rfl' _, rfl⟩
      (generalize a'.eval = ev at ec ef e77 ⊢; simp [execOp, go_sem, *])
    · refine stepOne_run ⟨⟨⟨12, Ground.guard⟩, by simp, rfl, rfl⟩, fun _ _ h => h⟩ ?_
      intro a' w' hg hs hd
      have e8 : a'.eval (.tmp 8) = .bool true := hs.rest 8 rfl
      have ec : ∀ v, a'.eval (.const v) = v := fun _ => rfl
      have ef : ∀ g, a'.eval (.func g) = .func (.func g) #[] #[] := fun _ => rfl
      clear hd hs
      refine wpv (v := .bool true) ?_ ⟨_, rfl, Grow.rfl' _, rfl⟩
      (generalize a'.eval = ev at ec ef e8 ⊢; simp [execOp, go_sem, *])
    · refine stepOne_run trivial ?_
      intro a' w' hg hs hd
      have e78 : a'.eval (.tmp 78) = .bool true := hd ⟨12, Ground.data⟩ (by simp) rfl
      have e79 : a'.eval (.tmp 79) = .bool true := hd ⟨13, Ground.data⟩ (by simp) rfl
      have ec : ∀ v, a'.eval (.const v) = v := fun _ => rfl
      have ef : ∀ g, a'.eval (.func g) = .func (.func g) #[] #[] := fun _ => rfl
      clear hd hs
      refine wpv (v := .bool true) ?_ ⟨_, rfl, Grow.rfl' _, rfl⟩
      (generalize a'.eval = ev at ec ef e78 e79 ⊢; simp [execOp, go_sem, *])
    · refine stepOne_run trivial ?_
      intro a' w' hg hs hd
      have e80 : a'.eval (.tmp 80) = .bool true := hd ⟨14, Ground.data⟩ (by simp) rfl
      have ec : ∀ v, a'.eval (.const v) = v := fun _ => rfl
      have ef : ∀ g, a'.eval (.func g) = .func (.func g) #[] #[] := fun _ => rfl
      clear hd hs
      refine wpv (v := .bool true) ?_ ⟨_, rfl, Grow.rfl' _, rfl⟩
      (generalize a'.eval = ev at ec ef e80 ⊢; simp [execOp, go_sem, *])
    · refine stepOne_run ⟨⟨⟨15, Ground.guard⟩, by simp, rfl, rfl⟩, fun _ _ h => h⟩ ?_
      intro a' w' hg hs hd
      have e9 : a'.eval (.tmp 9) = .bool true := hs.rest 9 rfl
      have ec : ∀ v, a'.eval (.const v) = v := fun _ => rfl
      have ef : ∀ g, a'.eval (.func g) = .func (.func g) #[] #[] := fun _ => rfl
      clear hd hs
      refine wpv (v := .bool true) ?_ ⟨_, rfl, Grow.rfl' _, rfl⟩
      (generalize a'.eval = ev at ec ef e9 ⊢; simp [execOp, go_sem, *])
    · refine stepOne_run trivial ?_
      intro a' w' hg hs hd
      have e81 : a'.eval (.tmp 81) = .bool true := hd ⟨15, Ground.data⟩ (by simp) rfl
      have e82 : a'.eval (.tmp 82) = .bool true := hd ⟨16, Ground.data⟩ (by simp) rfl
      have ec : ∀ v, a'.eval (.const v) = v := fun _ => rfl
      have ef : ∀ g, a'.eval (.func g) = .func (.func g) #[] #[] := fun _ => rfl
      clear hd hs
      refine wpv (v := .bool true) ?_ ⟨_, rfl, Grow.rfl' _, rfl⟩
      (generalize a'.eval = ev at ec ef e81 e82 ⊢; simp [execOp, go_sem, *])
    · refine stepOne_run trivial ?_
      intro a' w' hg hs hd
      have e83 : a'.eval (.tmp 83) = .bool true := hd ⟨17, Ground.data⟩ (by simp) rfl
      have ec : ∀ v, a'.eval (.const v) = v := fun _ => rfl
      have ef : ∀ g, a'.eval (.func g) = .func (.func g) #[] #[] := fun _ => rfl
      clear hd hs
      refine wpv (v := .bool true) ?_ ⟨_, rfl, Grow.rfl' _, rfl⟩
      (generalize a'.eval = ev at ec ef e83 ⊢; simp [execOp, go_sem, *])
    · refine stepOne_run ⟨⟨⟨18, Ground.guard⟩, by simp, rfl, rfl⟩, fun _ _ h => h⟩ ?_
      intro a' w' hg hs hd
      have e10 : a'.eval (.tmp 10) = .bool true := hs.rest 10 rfl
      have ec : ∀ v, a'.eval (.const v) = v := fun _ => rfl
      have ef : ∀ g, a'.eval (.func g) = .func (.func g) #[] #[] := fun _ => rfl
      clear hd hs
      refine wpv (v := .bool true) ?_ ⟨_, rfl, Grow.rfl' _, rfl⟩
      (generalize a'.eval = ev at ec ef e10 ⊢; simp [execOp, go_sem, *])
    · refine stepOne_run trivial ?_
      intro a' w' hg hs hd
      have e84 : a'.eval (.tmp 84) = .bool true := hd ⟨18, Ground.data⟩ (by simp) rfl
      have e85 : a'.eval (.tmp 85) = .bool true := hd ⟨19, Ground.data⟩ (by simp) rfl
      have ec : ∀ v, a'.eval (.const v) = v := fun _ => rfl
      have ef : ∀ g, a'.eval (.func g) = .func (.func g) #[] #[] := fun _ => rfl
      clear hd hs
      refine wpv (v := .bool true) ?_ ⟨_, rfl, Grow.rfl' _, rfl⟩
      (generalize a'.eval = ev at ec ef e84 e85 ⊢; simp [execOp, go_sem, *])
    · refine stepOne_run trivial ?_
      intro a' w' hg hs hd
      have e86 : a'.eval (.tmp 86) = .bool true := hd ⟨20, Ground.data⟩ (by simp) rfl
      have ec : ∀ v, a'.eval (.const v) = v := fun _ => rfl
      have ef : ∀ g, a'.eval (.func g) = .func (.func g) #[] #[] := fun _ => rfl
      clear hd hs
      refine wpv (v := .bool true) ?_ ⟨_, rfl, Grow.rfl' _, rfl⟩
      (generalize a'.eval = ev at ec ef e86 ⊢; simp [execOp, go_sem, *])
    · refine stepOne_run ⟨⟨⟨21, Ground.guard⟩, by simp, rfl, rfl⟩, fun _ _ h => h⟩ ?_
      intro a' w' hg hs hd
      have e3 : a'.eval (.tmp 3) = .pointer (some ⟨w.heap.size, 0, none⟩) := hs.rest 3 rfl
      have ec : ∀ v, a'.eval (.const v) = v := fun _ => rfl
      have ef : ∀ g, a'.eval (.func g) = .func (.func g) #[] #[] := fun _ => rfl
      clear hd hs
      obtain ⟨l0, l1, l2, l3, l4⟩ := KA.later hg
      refine wpv (v := .agg #[.int .i64 (a).e, .int .i64 (a).d, .int .i64 (a).x, .int .i64 (a).y, .int .i64 (a).z]) ?_ ⟨_, rfl, Grow.rfl' _, rfl⟩
      (generalize a'.eval = ev at ec ef e3 ⊢; simp [execOp, go_sem, *])
    · refine stepOne_run ⟨⟨⟨21, Ground.guard⟩, by simp, rfl, rfl⟩, fun _ _ h => h⟩ ?_
      intro a' w' hg hs hd
      have e4 : a'.eval (.tmp 4) = .pointer (some ⟨w.heap.size + 1, 0, none⟩) := hs.rest 4 rfl
      have ec : ∀ v, a'.eval (.const v) = v := fun _ => rfl
      have ef : ∀ g, a'.eval (.func g) = .func (.func g) #[] #[] := fun _ => rfl
      clear hd hs
      obtain ⟨l0, l1, l2, l3, l4⟩ := KB.later hg
      refine wpv (v := .agg #[.int .i64 (b).e, .int .i64 (b).d, .int .i64 (b).x, .int .i64 (b).y, .int .i64 (b).z]) ?_ ⟨_, rfl, Grow.rfl' _, rfl⟩
      (generalize a'.eval = ev at ec ef e4 ⊢; simp [execOp, go_sem, *])
    · refine stepOne_run ⟨⟨⟨21, Ground.chain⟩, by simp, rfl, rfl⟩, fun _ _ h => h⟩ ?_
      intro a' w' hg hs hd
      have e88 : a'.eval (.tmp 88) = .agg #[.int .i64 (a).e, .int .i64 (a).d, .int .i64 (a).x, .int .i64 (a).y, .int .i64 (a).z] := hd ⟨22, Ground.data⟩ (by simp) rfl
      have e89 : a'.eval (.tmp 89) = .agg #[.int .i64 (b).e, .int .i64 (b).d, .int .i64 (b).x, .int .i64 (b).y, .int .i64 (b).z] := hd ⟨23, Ground.data⟩ (by simp) rfl
      have ec : ∀ v, a'.eval (.const v) = v := fun _ => rfl
      have ef : ∀ g, a'.eval (.func g) = .func (.func g) #[] #[] := fun _ => rfl
      clear hd hs
      refine wpc ?_ (Calls.mono (orderC a b _ hoo'.out w') fun e w2 ⟨he, hb⟩ => ⟨_, he, _, rfl, hb, rfl⟩)
      (generalize a'.eval = ev at ec ef e88 e89 ⊢; simp [execOp, go_sem, *])
    · refine stepOne_run ⟨⟨⟨21, Ground.guard⟩, by simp, rfl, rfl⟩, fun _ _ h => h⟩ ?_
      intro a' w' hg hs hd
      have e4 : a'.eval (.tmp 4) = .pointer (some ⟨w.heap.size + 1, 0, none⟩) := hs.rest 4 rfl
      have ec : ∀ v, a'.eval (.const v) = v := fun _ => rfl
      have ef : ∀ g, a'.eval (.func g) = .func (.func g) #[] #[] := fun _ => rfl
      clear hd hs
      obtain ⟨l0, l1, l2, l3, l4⟩ := KB.later hg
      refine wpv (v := .agg #[.int .i64 (b).e, .int .i64 (b).d, .int .i64 (b).x, .int .i64 (b).y, .int .i64 (b).z]) ?_ ⟨_, rfl, Grow.rfl' _, rfl⟩
      (generalize a'.eval = ev at ec ef e4 ⊢; simp [execOp, go_sem, *])
    · refine stepOne_run ⟨⟨⟨21, Ground.guard⟩, by simp, rfl, rfl⟩, fun _ _ h => h⟩ ?_
      intro a' w' hg hs hd
      have e3 : a'.eval (.tmp 3) = .pointer (some ⟨w.heap.size, 0, none⟩) := hs.rest 3 rfl
      have ec : ∀ v, a'.eval (.const v) = v := fun _ => rfl
      have ef : ∀ g, a'.eval (.func g) = .func (.func g) #[] #[] := fun _ => rfl
      clear hd hs
      obtain ⟨l0, l1, l2, l3, l4⟩ := KA.later hg
      refine wpv (v := .agg #[.int .i64 (a).e, .int .i64 (a).d, .int .i64 (a).x, .int .i64 (a).y, .int .i64 (a).z]) ?_ ⟨_, rfl, Grow.rfl' _, rfl⟩
      (generalize a'.eval = ev at ec ef e3 ⊢; simp [execOp, go_sem, *])
    · refine stepOne_run ⟨⟨⟨21, Ground.guard⟩, by simp, rfl, rfl⟩, fun _ _ h => h⟩ ?_
      intro a' w' hg hs hd
      have e91 : a'.eval (.tmp 91) = .agg #[.int .i64 (b).e, .int .i64 (b).d, .int .i64 (b).x, .int .i64 (b).y, .int .i64 (b).z] := hd ⟨25, Ground.data⟩ (by simp) rfl
      have e92 : a'.eval (.tmp 92) = .agg #[.int .i64 (a).e, .int .i64 (a).d, .int .i64 (a).x, .int .i64 (a).y, .int .i64 (a).z] := hd ⟨26, Ground.data⟩ (by simp) rfl
      have ec : ∀ v, a'.eval (.const v) = v := fun _ => rfl
      have ef : ∀ g, a'.eval (.func g) = .func (.func g) #[] #[] := fun _ => rfl
      clear hd hs
      refine wpc ?_ (Calls.mono (order_any b a w') fun e w2 ⟨he, hb⟩ => ⟨_, he, _, rfl, hb, rfl⟩)
      (generalize a'.eval = ev at ec ef e91 e92 ⊢; simp [execOp, go_sem, *])
    · refine stepOne_run ⟨⟨⟨21, Ground.guard⟩, by simp, rfl, rfl⟩, fun _ _ h => h⟩ ?_
      intro a' w' hg hs hd
      have e93 : a'.eval (.tmp 93) = .int .i64 (orderI b a) := hd ⟨27, Ground.data⟩ (by simp) rfl
      have ec : ∀ v, a'.eval (.const v) = v := fun _ => rfl
      have ef : ∀ g, a'.eval (.func g) = .func (.func g) #[] #[] := fun _ => rfl
      clear hd hs
      have hw := neg_wrap a b
      refine wpv (v := .int .i64 (-orderI b a)) ?_ ⟨_, rfl, Grow.rfl' _, rfl⟩
      (generalize a'.eval = ev at ec ef e93 ⊢; simp [execOp, go_sem, *])
    · refine stepOne_run ⟨⟨⟨21, Ground.guard⟩, by simp, rfl, rfl⟩, fun _ _ h => h⟩ ?_
      intro a' w' hg hs hd
      have e90 : a'.eval (.tmp 90) = .int .i64 (-orderI b a) := hd ⟨24, Ground.data⟩ (by simp) rfl
      have e94 : a'.eval (.tmp 94) = .int .i64 (-orderI b a) := hd ⟨28, Ground.data⟩ (by simp) rfl
      have ec : ∀ v, a'.eval (.const v) = v := fun _ => rfl
      have ef : ∀ g, a'.eval (.func g) = .func (.func g) #[] #[] := fun _ => rfl
      clear hd hs
      refine wpv (v := .bool true) ?_ ⟨_, rfl, Grow.rfl' _, rfl⟩
      (generalize a'.eval = ev at ec ef e90 e94 ⊢; simp [execOp, go_sem, *])
    · refine stepOne_run trivial ?_
      intro a' w' hg hs hd
      have e87 : a'.eval (.tmp 87) = .bool true := hd ⟨21, Ground.data⟩ (by simp) rfl
      have e95 : a'.eval (.tmp 95) = .bool true := hd ⟨29, Ground.data⟩ (by simp) rfl
      have ec : ∀ v, a'.eval (.const v) = v := fun _ => rfl
      have ef : ∀ g, a'.eval (.func g) = .func (.func g) #[] #[] := fun _ => rfl
      clear hd hs
      refine wpv (v := .bool true) ?_ ⟨_, rfl, Grow.rfl' _, rfl⟩
      (generalize a'.eval = ev at ec ef e87 e95 ⊢; simp [execOp, go_sem, *])
    · refine stepOne_run trivial ?_
      intro a' w' hg hs hd
      have e96 : a'.eval (.tmp 96) = .bool true := hd ⟨30, Ground.data⟩ (by simp) rfl
      have ec : ∀ v, a'.eval (.const v) = v := fun _ => rfl
      have ef : ∀ g, a'.eval (.func g) = .func (.func g) #[] #[] := fun _ => rfl
      clear hd hs
      refine wpv (v := .bool true) ?_ ⟨_, rfl, Grow.rfl' _, rfl⟩
      (generalize a'.eval = ev at ec ef e96 ⊢; simp [execOp, go_sem, *])
  · intro a' w' hg hs hd
    have h0 : a'.eval (.tmp 6) = .bool true := hd 31 (by simp)
    go_wp2
    refine bodyPost_ret (v := .bool true) ?_ (by rw [hs.defers]) ⟨rfl, Grow.trans' (Grow.trans' (((Grow.alloc' _ _).trans' (Grow.alloc' _ _)).trans' (Grow.alloc' _ _)) g10) hg⟩
    clear hd hs
    simpa [results, Try.results6, Act.eval] using h0

theorem TsPartial_any (a b c : Tm) (w : World) :
    Calls Try.prog 6 #[.agg #[.int .i64 a.e, .int .i64 a.d, .int .i64 a.x, .int .i64 a.y, .int .i64 a.z], .agg #[.int .i64 b.e, .int .i64 b.d, .int .i64 b.x, .int .i64 b.y, .int .i64 b.z], .agg #[.int .i64 c.e, .int .i64 c.d, .int .i64 c.x, .int .i64 c.y, .int .i64 c.z]] w fun e w' => e = .returned (.bool true) ∧ Below w.heap.size w w' := by
  cases hA : mayB a
  · exact TsPartial_no1 a b c w hA
  cases hB : mayB b
  · exact TsPartial_no2 a b c w hA hB
  cases hC : mayB c
  · exact TsPartial_no3 a b c w hA hB hC
  cases hp : leB a b
  · exact TsPartial_0 a b c w hA hB hC hp
  cases hq : leB b a <;> cases hr : leB b c
  · exact TsPartial_1 a b c w hA hB hC hp hq hr
  · exact TsPartial_2 a b c w hA hB hC hp hq hr
  · exact TsPartial_3 a b c w hA hB hC hp hq hr
  · exact TsPartial_4 a b c w hA hB hC hp hq hr

end Go.Proofs.Ytbohgfcndclbjaa
