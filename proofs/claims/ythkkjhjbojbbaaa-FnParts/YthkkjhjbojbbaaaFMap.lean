/-
  What fn.Map, fn.Filter, fn.MayFilter, fn.MayReduce and fn.Route do to the world: each returns its plain answer, and what was there stays as it was.
-/
import Derived.Test.YthkkjhjbojbbaaaFCon
namespace Go.Proofs.Ythkkjhjbojbbaaa
set_option maxRecDepth 100000
open Go.RowKit Go.Sort
set_option linter.unusedVariables false
set_option linter.unusedSimpArgs false

attribute [local go_sem ↓] mapAt_1 mapAt_2 mapAt_3 mapAt_4 mapAt_5 mapF_0 mapF_1
theorem wpList_store_rec {ops : Array Oper} {rest : List Oper} {o : Oper} {a : Act} {w : World} {Q : Exit → Act → World → Prop} (hgd : o.guard = none) (x y : Operand) (ho : o.op = .store 23 x y) (b : Nat) (t : Rc)
    (hx : a.eval x = .pointer (some ⟨b, 0, none⟩)) (hy : a.eval y = .agg #[.int .i64 t.k, .int .i64 t.v]) (hb : Blk w b) (h : wpList Try.prog ops Q rest (a.put o.dst undef) (w.setRow b #[.int .i64 t.k, .int .i64 t.v])) : wpList Try.prog ops Q (o :: rest) a w :=
  wpList_plain hgd fun K hK => wp_store_rec x y ho hx hy hb (hK _ _ h)
set_option maxHeartbeats 1000000 in
theorem map_no (a b : Int) (r : Rc) (hm : mayMapB a b = false) (w : World) :
    Calls Try.prog 17 #[.int .i64 a, .int .i64 b, .agg #[.int .i64 r.k, .int .i64 r.v]] w fun e w' => e = .returned (.agg #[.int .i64 r.k, .int .i64 r.v]) ∧ Grow w w' := by
  have KX : Hid (Box ((w.alloc (.cells #[.int .i64 r.k, .int .i64 r.v] 23)).alloc (.cells #[.int .i64 0, .int .i64 0] 23)) w.heap.size r) := hide ((Box.new _ _).later (Grow.alloc' _ _))
  have G0 : Hid (Grow w ((w.alloc (.cells #[.int .i64 r.k, .int .i64 r.v] 23)).alloc (.cells #[.int .i64 0, .int .i64 0] 23))) := hide (Grow.trans' (Grow.alloc' _ _) (Grow.alloc' _ _))
  have hz : (w.alloc (.cells #[.int .i64 r.k, .int .i64 r.v] 23)).heap.size = w.heap.size + 1 := by simp
  have KR : Hid (Blk ((w.alloc (.cells #[.int .i64 r.k, .int .i64 r.v] 23)).alloc (.cells #[.int .i64 0, .int .i64 0] 23)) (w.heap.size + 1)) := hide (by rw [← hz]; exact Blk.new _ _ _)
  have C := hide (mayMap_at a b hm ((w.alloc (.cells #[.int .i64 r.k, .int .i64 r.v] 23)).alloc (.cells #[.int .i64 0, .int .i64 0] 23)))
  clear hz hm
  go_enter Try.func17, Try.ntmps17
  go_wp2_with fail
  refine (C.out).mono ?_
  rintro e w1 ⟨rfl, hb⟩
  have G1 := hide (Grow.trans' G0.out hb)
  have KR1 := hide (KR.out.later hb)
  obtain ⟨p0, p1⟩ := KX.out.later hb
  clear hb C KX KR G0
  go_wp2_with (refine wpList_store_rec rfl _ _ rfl (w.heap.size + 1) r rfl rfl KR1.out ?_)
  have HB := KR1.out.box r
  refine bodyPost_ret (results_rec (fn := Try.f17) (i := 6) rfl _ _ (b := w.heap.size + 1) (t := r) rfl HB) rfl ⟨rfl, below_setRow G1.out (Nat.le_succ _) _⟩
set_option maxHeartbeats 1000000 in
theorem map_1 (b : Int) (r : Rc) (hm : mayMapB 1 b = true) (hw : IntKind.i64.wrap (r.v + b) = r.v + b) (w : World) :
    Calls Try.prog 17 #[.int .i64 1, .int .i64 b, .agg #[.int .i64 r.k, .int .i64 r.v]] w fun e w' => e = .returned (.agg #[.int .i64 (⟨r.k, heldI (r.v + b)⟩ : Rc).k, .int .i64 (⟨r.k, heldI (r.v + b)⟩ : Rc).v]) ∧ Grow w w' := by
  have KX : Hid (Box ((w.alloc (.cells #[.int .i64 r.k, .int .i64 r.v] 23)).alloc (.cells #[.int .i64 0, .int .i64 0] 23)) w.heap.size r) := hide ((Box.new _ _).later (Grow.alloc' _ _))
  have G0 : Hid (Grow w ((w.alloc (.cells #[.int .i64 r.k, .int .i64 r.v] 23)).alloc (.cells #[.int .i64 0, .int .i64 0] 23))) := hide (Grow.trans' (Grow.alloc' _ _) (Grow.alloc' _ _))
  have hz : (w.alloc (.cells #[.int .i64 r.k, .int .i64 r.v] 23)).heap.size = w.heap.size + 1 := by simp
  have KR : Hid (Blk ((w.alloc (.cells #[.int .i64 r.k, .int .i64 r.v] 23)).alloc (.cells #[.int .i64 0, .int .i64 0] 23)) (w.heap.size + 1)) := hide (by rw [← hz]; exact Blk.new _ _ _)
  have C := hide (mayMap_at 1 b hm ((w.alloc (.cells #[.int .i64 r.k, .int .i64 r.v] 23)).alloc (.cells #[.int .i64 0, .int .i64 0] 23)))
  clear hz hm
  go_enter Try.func17, Try.ntmps17
  go_wp2_with fail
  refine (C.out).mono ?_
  rintro e w1 ⟨rfl, hq⟩
  have G1 := hide (Grow.trans' G0.out hq)
  have KR1 := hide (KR.out.later hq)
  have KX1 := hide (KX.out.later hq)
  clear hq C KX KR G0
  go_wp2_with fail
  refine wp_region_end (fun i vF wF => match i with | 0 => vF = .agg #[.int .i64 0, .nilFunc, .int .i64 (-1000), .func (.func 41) #[] #[], .int .i64 (-1000), .func (.func 43) #[] #[], .int .i64 1, .func (.func 44) #[] #[], .int .i64 (-1000), .func (.func 45) #[] #[], .int .i64 (-1000), .func (.func 46) #[] #[]] | 1 => vF = .int .i64 1 | 2 => vF = .agg #[.int .i64 (-1000), .func (.func 41) #[] #[]] | 3 => vF = .func (.func 41) #[] #[] | 4 => vF = .int .i64 b | 5 => vF = .agg #[.int .i64 r.k, .int .i64 r.v] | 6 => vF = .agg #[.int .i64 (⟨r.k, heldI (r.v + b)⟩ : Rc).k, .int .i64 (⟨r.k, heldI (r.v + b)⟩ : Rc).v] | _ => True) 7 _ rfl rfl rfl (by kernel_rfl) (by kernel_rfl) ?_ ?_ ?_
  · intro k v w1 w2 hg h
    match k with
    | 0 => exact h
    | 1 => exact h
    | 2 => exact h
    | 3 => exact h
    | 4 => exact h
    | 5 => exact h
    | 6 => exact h
    | k + 7 => exact trivial
  · refine ⟨?_, ?_, ?_, ?_, ?_, ?_, ?_, trivial⟩
    · refine stepOne_run trivial ?_
      intro a' w' hg hs hd
      have ec : ∀ v, a'.eval (.const v) = v := fun _ => rfl
      have ef : ∀ g, a'.eval (.func g) = .func (.func g) #[] #[] := fun _ => rfl
      clear hd hs
      refine wpc ?_ (Calls.mono (mappings_any _) fun e w2 ⟨he, hb⟩ => ⟨_, he, _, rfl, hb, rfl⟩)
      (generalize a'.eval = ev at ec ef ⊢; simp [execOp, go_sem, *])
    · refine stepOne_run trivial ?_
      intro a' w' hg hs hd
      have e0 : a'.eval (.tmp 0) = .int .i64 1 := hs.rest 0 rfl
      have ec : ∀ v, a'.eval (.const v) = v := fun _ => rfl
      have ef : ∀ g, a'.eval (.func g) = .func (.func g) #[] #[] := fun _ => rfl
      clear hd hs
      refine wpv (v := .int .i64 1) ?_ ⟨_, rfl, Grow.rfl' _, rfl⟩
      (generalize a'.eval = ev at ec ef e0 ⊢; simp [execOp, go_sem, *])
    · refine stepOne_run trivial ?_
      intro a' w' hg hs hd
      have e12 : a'.eval (.tmp 12) = .agg #[.int .i64 0, .nilFunc, .int .i64 (-1000), .func (.func 41) #[] #[], .int .i64 (-1000), .func (.func 43) #[] #[], .int .i64 1, .func (.func 44) #[] #[], .int .i64 (-1000), .func (.func 45) #[] #[], .int .i64 (-1000), .func (.func 46) #[] #[]] := hd ⟨0, Ground.data⟩ (by simp) rfl
      have e13 : a'.eval (.tmp 13) = .int .i64 1 := hd ⟨1, Ground.data⟩ (by simp) rfl
      have ec : ∀ v, a'.eval (.const v) = v := fun _ => rfl
      have ef : ∀ g, a'.eval (.func g) = .func (.func g) #[] #[] := fun _ => rfl
      clear hd hs
      refine wpv (v := .agg #[.int .i64 (-1000), .func (.func 41) #[] #[]]) ?_ ⟨_, rfl, Grow.rfl' _, rfl⟩
      (generalize a'.eval = ev at ec ef e12 e13 ⊢; simp [execOp, go_sem, *])
    · refine stepOne_run trivial ?_
      intro a' w' hg hs hd
      have e14 : a'.eval (.tmp 14) = .agg #[.int .i64 (-1000), .func (.func 41) #[] #[]] := hd ⟨2, Ground.data⟩ (by simp) rfl
      have ec : ∀ v, a'.eval (.const v) = v := fun _ => rfl
      have ef : ∀ g, a'.eval (.func g) = .func (.func g) #[] #[] := fun _ => rfl
      clear hd hs
      refine wpv (v := .func (.func 41) #[] #[]) ?_ ⟨_, rfl, Grow.rfl' _, rfl⟩
      (generalize a'.eval = ev at ec ef e14 ⊢; simp [execOp, go_sem, *])
    · refine stepOne_run trivial ?_
      intro a' w' hg hs hd
      have e1 : a'.eval (.tmp 1) = .int .i64 b := hs.rest 1 rfl
      have ec : ∀ v, a'.eval (.const v) = v := fun _ => rfl
      have ef : ∀ g, a'.eval (.func g) = .func (.func g) #[] #[] := fun _ => rfl
      clear hd hs
      refine wpv (v := .int .i64 b) ?_ ⟨_, rfl, Grow.rfl' _, rfl⟩
      (generalize a'.eval = ev at ec ef e1 ⊢; simp [execOp, go_sem, *])
    · refine stepOne_run trivial ?_
      intro a' w' hg hs hd
      have e5 : a'.eval (.tmp 5) = .pointer (some ⟨w.heap.size, 0, none⟩) := hs.rest 5 rfl
      have ec : ∀ v, a'.eval (.const v) = v := fun _ => rfl
      have ef : ∀ g, a'.eval (.func g) = .func (.func g) #[] #[] := fun _ => rfl
      obtain ⟨x0, x1⟩ := KX1.out.later hg
      clear hd hs
      refine wpv (v := .agg #[.int .i64 r.k, .int .i64 r.v]) ?_ ⟨_, rfl, Grow.rfl' _, rfl⟩
      (generalize a'.eval = ev at ec ef e5 ⊢; simp [execOp, go_sem, *])
    · refine stepOne_run trivial ?_
      intro a' w' hg hs hd
      have e15 : a'.eval (.tmp 15) = .func (.func 41) #[] #[] := hd ⟨3, Ground.data⟩ (by simp) rfl
      have e16 : a'.eval (.tmp 16) = .int .i64 b := hd ⟨4, Ground.data⟩ (by simp) rfl
      have e17 : a'.eval (.tmp 17) = .agg #[.int .i64 r.k, .int .i64 r.v] := hd ⟨5, Ground.data⟩ (by simp) rfl
      have ec : ∀ v, a'.eval (.const v) = v := fun _ => rfl
      have ef : ∀ g, a'.eval (.func g) = .func (.func g) #[] #[] := fun _ => rfl
      clear hd hs
      refine wpc ?_ (Calls.mono (mapC1 b r hw _) fun e w2 ⟨he, hb⟩ => ⟨_, he, _, rfl, hb, rfl⟩)
      (generalize a'.eval = ev at ec ef e15 e16 e17 ⊢; simp [execOp, go_sem, *])
  · intro a' w' hg hs hd
    have e6 : a'.eval (.tmp 6) = .pointer (some ⟨w.heap.size + 1, 0, none⟩) := hs.rest 6 rfl
    have e18 : a'.eval (.tmp 18) = .agg #[.int .i64 (⟨r.k, heldI (r.v + b)⟩ : Rc).k, .int .i64 (⟨r.k, heldI (r.v + b)⟩ : Rc).v] := hd 6 (by omega)
    have ec : ∀ v, a'.eval (.const v) = v := fun _ => rfl
    have ef : ∀ g, a'.eval (.func g) = .func (.func g) #[] #[] := fun _ => rfl
    refine wp_store_rec _ _ rfl (t := ⟨r.k, heldI (r.v + b)⟩) e6 e18 (KR1.out.later hg) ?_
    go_wp2_with fail
    have HB := (KR1.out.later hg).box ⟨r.k, heldI (r.v + b)⟩
    dsimp only at HB
    have HR := results_rec (fn := Try.f17) (i := 6) rfl a'.tmps _ e6 HB
    exact bodyPost_ret HR hs.defers ⟨rfl, below_setRow (Grow.trans' G1.out hg) (Nat.le_succ _) _⟩
set_option maxHeartbeats 1000000 in
theorem map_2 (b : Int) (r : Rc) (hm : mayMapB 2 b = true) (hw : IntKind.i64.wrap (r.v * b) = r.v * b) (w : World) :
    Calls Try.prog 17 #[.int .i64 2, .int .i64 b, .agg #[.int .i64 r.k, .int .i64 r.v]] w fun e w' => e = .returned (.agg #[.int .i64 (⟨r.k, heldI (r.v * b)⟩ : Rc).k, .int .i64 (⟨r.k, heldI (r.v * b)⟩ : Rc).v]) ∧ Grow w w' := by
  have KX : Hid (Box ((w.alloc (.cells #[.int .i64 r.k, .int .i64 r.v] 23)).alloc (.cells #[.int .i64 0, .int .i64 0] 23)) w.heap.size r) := hide ((Box.new _ _).later (Grow.alloc' _ _))
  have G0 : Hid (Grow w ((w.alloc (.cells #[.int .i64 r.k, .int .i64 r.v] 23)).alloc (.cells #[.int .i64 0, .int .i64 0] 23))) := hide (Grow.trans' (Grow.alloc' _ _) (Grow.alloc' _ _))
  have hz : (w.alloc (.cells #[.int .i64 r.k, .int .i64 r.v] 23)).heap.size = w.heap.size + 1 := by simp
  have KR : Hid (Blk ((w.alloc (.cells #[.int .i64 r.k, .int .i64 r.v] 23)).alloc (.cells #[.int .i64 0, .int .i64 0] 23)) (w.heap.size + 1)) := hide (by rw [← hz]; exact Blk.new _ _ _)
  have C := hide (mayMap_at 2 b hm ((w.alloc (.cells #[.int .i64 r.k, .int .i64 r.v] 23)).alloc (.cells #[.int .i64 0, .int .i64 0] 23)))
  clear hz hm
  go_enter Try.func17, Try.ntmps17
  go_wp2_with fail
  refine (C.out).mono ?_
  rintro e w1 ⟨rfl, hq⟩
  have G1 := hide (Grow.trans' G0.out hq)
  have KR1 := hide (KR.out.later hq)
  have KX1 := hide (KX.out.later hq)
  clear hq C KX KR G0
  go_wp2_with fail
  refine wp_region_end (fun i vF wF => match i with | 0 => vF = .agg #[.int .i64 0, .nilFunc, .int .i64 (-1000), .func (.func 41) #[] #[], .int .i64 (-1000), .func (.func 43) #[] #[], .int .i64 1, .func (.func 44) #[] #[], .int .i64 (-1000), .func (.func 45) #[] #[], .int .i64 (-1000), .func (.func 46) #[] #[]] | 1 => vF = .int .i64 2 | 2 => vF = .agg #[.int .i64 (-1000), .func (.func 43) #[] #[]] | 3 => vF = .func (.func 43) #[] #[] | 4 => vF = .int .i64 b | 5 => vF = .agg #[.int .i64 r.k, .int .i64 r.v] | 6 => vF = .agg #[.int .i64 (⟨r.k, heldI (r.v * b)⟩ : Rc).k, .int .i64 (⟨r.k, heldI (r.v * b)⟩ : Rc).v] | _ => True) 7 _ rfl rfl rfl (by kernel_rfl) (by kernel_rfl) ?_ ?_ ?_
  · intro k v w1 w2 hg h
    match k with
    | 0 => exact h
    | 1 => exact h
    | 2 => exact h
    | 3 => exact h
    | 4 => exact h
    | 5 => exact h
    | 6 => exact h
    | k + 7 => exact trivial
  · refine ⟨?_, ?_, ?_, ?_, ?_, ?_, ?_, trivial⟩
    · refine stepOne_run trivial ?_
      intro a' w' hg hs hd
      have ec : ∀ v, a'.eval (.const v) = v := fun _ => rfl
      have ef : ∀ g, a'.eval (.func g) = .func (.func g) #[] #[] := fun _ => rfl
      clear hd hs
      refine wpc ?_ (Calls.mono (mappings_any _) fun e w2 ⟨he, hb⟩ => ⟨_, he, _, rfl, hb, rfl⟩)
      (generalize a'.eval = ev at ec ef ⊢; simp [execOp, go_sem, *])
    · refine stepOne_run trivial ?_
      intro a' w' hg hs hd
      have e0 : a'.eval (.tmp 0) = .int .i64 2 := hs.rest 0 rfl
      have ec : ∀ v, a'.eval (.const v) = v := fun _ => rfl
      have ef : ∀ g, a'.eval (.func g) = .func (.func g) #[] #[] := fun _ => rfl
      clear hd hs
      refine wpv (v := .int .i64 2) ?_ ⟨_, rfl, Grow.rfl' _, rfl⟩
      (generalize a'.eval = ev at ec ef e0 ⊢; simp [execOp, go_sem, *])
    · refine stepOne_run trivial ?_
      intro a' w' hg hs hd
      have e12 : a'.eval (.tmp 12) = .agg #[.int .i64 0, .nilFunc, .int .i64 (-1000), .func (.func 41) #[] #[], .int .i64 (-1000), .func (.func 43) #[] #[], .int .i64 1, .func (.func 44) #[] #[], .int .i64 (-1000), .func (.func 45) #[] #[], .int .i64 (-1000), .func (.func 46) #[] #[]] := hd ⟨0, Ground.data⟩ (by simp) rfl
      have e13 : a'.eval (.tmp 13) = .int .i64 2 := hd ⟨1, Ground.data⟩ (by simp) rfl
      have ec : ∀ v, a'.eval (.const v) = v := fun _ => rfl
      have ef : ∀ g, a'.eval (.func g) = .func (.func g) #[] #[] := fun _ => rfl
      clear hd hs
      refine wpv (v := .agg #[.int .i64 (-1000), .func (.func 43) #[] #[]]) ?_ ⟨_, rfl, Grow.rfl' _, rfl⟩
      (generalize a'.eval = ev at ec ef e12 e13 ⊢; simp [execOp, go_sem, *])
    · refine stepOne_run trivial ?_
      intro a' w' hg hs hd
      have e14 : a'.eval (.tmp 14) = .agg #[.int .i64 (-1000), .func (.func 43) #[] #[]] := hd ⟨2, Ground.data⟩ (by simp) rfl
      have ec : ∀ v, a'.eval (.const v) = v := fun _ => rfl
      have ef : ∀ g, a'.eval (.func g) = .func (.func g) #[] #[] := fun _ => rfl
      clear hd hs
      refine wpv (v := .func (.func 43) #[] #[]) ?_ ⟨_, rfl, Grow.rfl' _, rfl⟩
      (generalize a'.eval = ev at ec ef e14 ⊢; simp [execOp, go_sem, *])
    · refine stepOne_run trivial ?_
      intro a' w' hg hs hd
      have e1 : a'.eval (.tmp 1) = .int .i64 b := hs.rest 1 rfl
      have ec : ∀ v, a'.eval (.const v) = v := fun _ => rfl
      have ef : ∀ g, a'.eval (.func g) = .func (.func g) #[] #[] := fun _ => rfl
      clear hd hs
      refine wpv (v := .int .i64 b) ?_ ⟨_, rfl, Grow.rfl' _, rfl⟩
      (generalize a'.eval = ev at ec ef e1 ⊢; simp [execOp, go_sem, *])
    · refine stepOne_run trivial ?_
      intro a' w' hg hs hd
      have e5 : a'.eval (.tmp 5) = .pointer (some ⟨w.heap.size, 0, none⟩) := hs.rest 5 rfl
      have ec : ∀ v, a'.eval (.const v) = v := fun _ => rfl
      have ef : ∀ g, a'.eval (.func g) = .func (.func g) #[] #[] := fun _ => rfl
      obtain ⟨x0, x1⟩ := KX1.out.later hg
      clear hd hs
      refine wpv (v := .agg #[.int .i64 r.k, .int .i64 r.v]) ?_ ⟨_, rfl, Grow.rfl' _, rfl⟩
      (generalize a'.eval = ev at ec ef e5 ⊢; simp [execOp, go_sem, *])
    · refine stepOne_run trivial ?_
      intro a' w' hg hs hd
      have e15 : a'.eval (.tmp 15) = .func (.func 43) #[] #[] := hd ⟨3, Ground.data⟩ (by simp) rfl
      have e16 : a'.eval (.tmp 16) = .int .i64 b := hd ⟨4, Ground.data⟩ (by simp) rfl
      have e17 : a'.eval (.tmp 17) = .agg #[.int .i64 r.k, .int .i64 r.v] := hd ⟨5, Ground.data⟩ (by simp) rfl
      have ec : ∀ v, a'.eval (.const v) = v := fun _ => rfl
      have ef : ∀ g, a'.eval (.func g) = .func (.func g) #[] #[] := fun _ => rfl
      clear hd hs
      refine wpc ?_ (Calls.mono (mapC2 b r hw _) fun e w2 ⟨he, hb⟩ => ⟨_, he, _, rfl, hb, rfl⟩)
      (generalize a'.eval = ev at ec ef e15 e16 e17 ⊢; simp [execOp, go_sem, *])
  · intro a' w' hg hs hd
    have e6 : a'.eval (.tmp 6) = .pointer (some ⟨w.heap.size + 1, 0, none⟩) := hs.rest 6 rfl
    have e18 : a'.eval (.tmp 18) = .agg #[.int .i64 (⟨r.k, heldI (r.v * b)⟩ : Rc).k, .int .i64 (⟨r.k, heldI (r.v * b)⟩ : Rc).v] := hd 6 (by omega)
    have ec : ∀ v, a'.eval (.const v) = v := fun _ => rfl
    have ef : ∀ g, a'.eval (.func g) = .func (.func g) #[] #[] := fun _ => rfl
    refine wp_store_rec _ _ rfl (t := ⟨r.k, heldI (r.v * b)⟩) e6 e18 (KR1.out.later hg) ?_
    go_wp2_with fail
    have HB := (KR1.out.later hg).box ⟨r.k, heldI (r.v * b)⟩
    dsimp only at HB
    have HR := results_rec (fn := Try.f17) (i := 6) rfl a'.tmps _ e6 HB
    exact bodyPost_ret HR hs.defers ⟨rfl, below_setRow (Grow.trans' G1.out hg) (Nat.le_succ _) _⟩
set_option maxHeartbeats 1000000 in
theorem map_3 (b : Int) (r : Rc) (hm : mayMapB 3 b = true) (hb : 1 ≤ b) (hB : b ≤ 1000) (w : World) :
    Calls Try.prog 17 #[.int .i64 3, .int .i64 b, .agg #[.int .i64 r.k, .int .i64 r.v]] w fun e w' => e = .returned (.agg #[.int .i64 (⟨modI r.v b, r.v⟩ : Rc).k, .int .i64 (⟨modI r.v b, r.v⟩ : Rc).v]) ∧ Grow w w' := by
  have KX : Hid (Box ((w.alloc (.cells #[.int .i64 r.k, .int .i64 r.v] 23)).alloc (.cells #[.int .i64 0, .int .i64 0] 23)) w.heap.size r) := hide ((Box.new _ _).later (Grow.alloc' _ _))
  have G0 : Hid (Grow w ((w.alloc (.cells #[.int .i64 r.k, .int .i64 r.v] 23)).alloc (.cells #[.int .i64 0, .int .i64 0] 23))) := hide (Grow.trans' (Grow.alloc' _ _) (Grow.alloc' _ _))
  have hz : (w.alloc (.cells #[.int .i64 r.k, .int .i64 r.v] 23)).heap.size = w.heap.size + 1 := by simp
  have KR : Hid (Blk ((w.alloc (.cells #[.int .i64 r.k, .int .i64 r.v] 23)).alloc (.cells #[.int .i64 0, .int .i64 0] 23)) (w.heap.size + 1)) := hide (by rw [← hz]; exact Blk.new _ _ _)
  have C := hide (mayMap_at 3 b hm ((w.alloc (.cells #[.int .i64 r.k, .int .i64 r.v] 23)).alloc (.cells #[.int .i64 0, .int .i64 0] 23)))
  clear hz hm
  go_enter Try.func17, Try.ntmps17
  go_wp2_with fail
  refine (C.out).mono ?_
  rintro e w1 ⟨rfl, hq⟩
  have G1 := hide (Grow.trans' G0.out hq)
  have KR1 := hide (KR.out.later hq)
  have KX1 := hide (KX.out.later hq)
  clear hq C KX KR G0
  go_wp2_with fail
  refine wp_region_end (fun i vF wF => match i with | 0 => vF = .agg #[.int .i64 0, .nilFunc, .int .i64 (-1000), .func (.func 41) #[] #[], .int .i64 (-1000), .func (.func 43) #[] #[], .int .i64 1, .func (.func 44) #[] #[], .int .i64 (-1000), .func (.func 45) #[] #[], .int .i64 (-1000), .func (.func 46) #[] #[]] | 1 => vF = .int .i64 3 | 2 => vF = .agg #[.int .i64 1, .func (.func 44) #[] #[]] | 3 => vF = .func (.func 44) #[] #[] | 4 => vF = .int .i64 b | 5 => vF = .agg #[.int .i64 r.k, .int .i64 r.v] | 6 => vF = .agg #[.int .i64 (⟨modI r.v b, r.v⟩ : Rc).k, .int .i64 (⟨modI r.v b, r.v⟩ : Rc).v] | _ => True) 7 _ rfl rfl rfl (by kernel_rfl) (by kernel_rfl) ?_ ?_ ?_
  · intro k v w1 w2 hg h
    match k with
    | 0 => exact h
    | 1 => exact h
    | 2 => exact h
    | 3 => exact h
    | 4 => exact h
    | 5 => exact h
    | 6 => exact h
    | k + 7 => exact trivial
  · refine ⟨?_, ?_, ?_, ?_, ?_, ?_, ?_, trivial⟩
    · refine stepOne_run trivial ?_
      intro a' w' hg hs hd
      have ec : ∀ v, a'.eval (.const v) = v := fun _ => rfl
      have ef : ∀ g, a'.eval (.func g) = .func (.func g) #[] #[] := fun _ => rfl
      clear hd hs
      refine wpc ?_ (Calls.mono (mappings_any _) fun e w2 ⟨he, hb⟩ => ⟨_, he, _, rfl, hb, rfl⟩)
      (generalize a'.eval = ev at ec ef ⊢; simp [execOp, go_sem, *])
    · refine stepOne_run trivial ?_
      intro a' w' hg hs hd
      have e0 : a'.eval (.tmp 0) = .int .i64 3 := hs.rest 0 rfl
      have ec : ∀ v, a'.eval (.const v) = v := fun _ => rfl
      have ef : ∀ g, a'.eval (.func g) = .func (.func g) #[] #[] := fun _ => rfl
      clear hd hs
      refine wpv (v := .int .i64 3) ?_ ⟨_, rfl, Grow.rfl' _, rfl⟩
      (generalize a'.eval = ev at ec ef e0 ⊢; simp [execOp, go_sem, *])
    · refine stepOne_run trivial ?_
      intro a' w' hg hs hd
      have e12 : a'.eval (.tmp 12) = .agg #[.int .i64 0, .nilFunc, .int .i64 (-1000), .func (.func 41) #[] #[], .int .i64 (-1000), .func (.func 43) #[] #[], .int .i64 1, .func (.func 44) #[] #[], .int .i64 (-1000), .func (.func 45) #[] #[], .int .i64 (-1000), .func (.func 46) #[] #[]] := hd ⟨0, Ground.data⟩ (by simp) rfl
      have e13 : a'.eval (.tmp 13) = .int .i64 3 := hd ⟨1, Ground.data⟩ (by simp) rfl
      have ec : ∀ v, a'.eval (.const v) = v := fun _ => rfl
      have ef : ∀ g, a'.eval (.func g) = .func (.func g) #[] #[] := fun _ => rfl
      clear hd hs
      refine wpv (v := .agg #[.int .i64 1, .func (.func 44) #[] #[]]) ?_ ⟨_, rfl, Grow.rfl' _, rfl⟩
      (generalize a'.eval = ev at ec ef e12 e13 ⊢; simp [execOp, go_sem, *])
    · refine stepOne_run trivial ?_
      intro a' w' hg hs hd
      have e14 : a'.eval (.tmp 14) = .agg #[.int .i64 1, .func (.func 44) #[] #[]] := hd ⟨2, Ground.data⟩ (by simp) rfl
      have ec : ∀ v, a'.eval (.const v) = v := fun _ => rfl
      have ef : ∀ g, a'.eval (.func g) = .func (.func g) #[] #[] := fun _ => rfl
      clear hd hs
      refine wpv (v := .func (.func 44) #[] #[]) ?_ ⟨_, rfl, Grow.rfl' _, rfl⟩
      (generalize a'.eval = ev at ec ef e14 ⊢; simp [execOp, go_sem, *])
    · refine stepOne_run trivial ?_
      intro a' w' hg hs hd
      have e1 : a'.eval (.tmp 1) = .int .i64 b := hs.rest 1 rfl
      have ec : ∀ v, a'.eval (.const v) = v := fun _ => rfl
      have ef : ∀ g, a'.eval (.func g) = .func (.func g) #[] #[] := fun _ => rfl
      clear hd hs
      refine wpv (v := .int .i64 b) ?_ ⟨_, rfl, Grow.rfl' _, rfl⟩
      (generalize a'.eval = ev at ec ef e1 ⊢; simp [execOp, go_sem, *])
    · refine stepOne_run trivial ?_
      intro a' w' hg hs hd
      have e5 : a'.eval (.tmp 5) = .pointer (some ⟨w.heap.size, 0, none⟩) := hs.rest 5 rfl
      have ec : ∀ v, a'.eval (.const v) = v := fun _ => rfl
      have ef : ∀ g, a'.eval (.func g) = .func (.func g) #[] #[] := fun _ => rfl
      obtain ⟨x0, x1⟩ := KX1.out.later hg
      clear hd hs
      refine wpv (v := .agg #[.int .i64 r.k, .int .i64 r.v]) ?_ ⟨_, rfl, Grow.rfl' _, rfl⟩
      (generalize a'.eval = ev at ec ef e5 ⊢; simp [execOp, go_sem, *])
    · refine stepOne_run trivial ?_
      intro a' w' hg hs hd
      have e15 : a'.eval (.tmp 15) = .func (.func 44) #[] #[] := hd ⟨3, Ground.data⟩ (by simp) rfl
      have e16 : a'.eval (.tmp 16) = .int .i64 b := hd ⟨4, Ground.data⟩ (by simp) rfl
      have e17 : a'.eval (.tmp 17) = .agg #[.int .i64 r.k, .int .i64 r.v] := hd ⟨5, Ground.data⟩ (by simp) rfl
      have ec : ∀ v, a'.eval (.const v) = v := fun _ => rfl
      have ef : ∀ g, a'.eval (.func g) = .func (.func g) #[] #[] := fun _ => rfl
      clear hd hs
      refine wpc ?_ (Calls.mono (mapC3 b r hb hB _) fun e w2 ⟨he, hb⟩ => ⟨_, he, _, rfl, hb, rfl⟩)
      (generalize a'.eval = ev at ec ef e15 e16 e17 ⊢; simp [execOp, go_sem, *])
  · intro a' w' hg hs hd
    have e6 : a'.eval (.tmp 6) = .pointer (some ⟨w.heap.size + 1, 0, none⟩) := hs.rest 6 rfl
    have e18 : a'.eval (.tmp 18) = .agg #[.int .i64 (⟨modI r.v b, r.v⟩ : Rc).k, .int .i64 (⟨modI r.v b, r.v⟩ : Rc).v] := hd 6 (by omega)
    have ec : ∀ v, a'.eval (.const v) = v := fun _ => rfl
    have ef : ∀ g, a'.eval (.func g) = .func (.func g) #[] #[] := fun _ => rfl
    refine wp_store_rec _ _ rfl (t := ⟨modI r.v b, r.v⟩) e6 e18 (KR1.out.later hg) ?_
    go_wp2_with fail
    have HB := (KR1.out.later hg).box ⟨modI r.v b, r.v⟩
    dsimp only at HB
    have HR := results_rec (fn := Try.f17) (i := 6) rfl a'.tmps _ e6 HB
    exact bodyPost_ret HR hs.defers ⟨rfl, below_setRow (Grow.trans' G1.out hg) (Nat.le_succ _) _⟩
set_option maxHeartbeats 1000000 in
theorem map_4 (b : Int) (r : Rc) (hm : mayMapB 4 b = true)  (w : World) :
    Calls Try.prog 17 #[.int .i64 4, .int .i64 b, .agg #[.int .i64 r.k, .int .i64 r.v]] w fun e w' => e = .returned (.agg #[.int .i64 (⟨r.v, r.k⟩ : Rc).k, .int .i64 (⟨r.v, r.k⟩ : Rc).v]) ∧ Grow w w' := by
  have KX : Hid (Box ((w.alloc (.cells #[.int .i64 r.k, .int .i64 r.v] 23)).alloc (.cells #[.int .i64 0, .int .i64 0] 23)) w.heap.size r) := hide ((Box.new _ _).later (Grow.alloc' _ _))
  have G0 : Hid (Grow w ((w.alloc (.cells #[.int .i64 r.k, .int .i64 r.v] 23)).alloc (.cells #[.int .i64 0, .int .i64 0] 23))) := hide (Grow.trans' (Grow.alloc' _ _) (Grow.alloc' _ _))
  have hz : (w.alloc (.cells #[.int .i64 r.k, .int .i64 r.v] 23)).heap.size = w.heap.size + 1 := by simp
  have KR : Hid (Blk ((w.alloc (.cells #[.int .i64 r.k, .int .i64 r.v] 23)).alloc (.cells #[.int .i64 0, .int .i64 0] 23)) (w.heap.size + 1)) := hide (by rw [← hz]; exact Blk.new _ _ _)
  have C := hide (mayMap_at 4 b hm ((w.alloc (.cells #[.int .i64 r.k, .int .i64 r.v] 23)).alloc (.cells #[.int .i64 0, .int .i64 0] 23)))
  clear hz hm
  go_enter Try.func17, Try.ntmps17
  go_wp2_with fail
  refine (C.out).mono ?_
  rintro e w1 ⟨rfl, hq⟩
  have G1 := hide (Grow.trans' G0.out hq)
  have KR1 := hide (KR.out.later hq)
  have KX1 := hide (KX.out.later hq)
  clear hq C KX KR G0
  go_wp2_with fail
  refine wp_region_end (fun i vF wF => match i with | 0 => vF = .agg #[.int .i64 0, .nilFunc, .int .i64 (-1000), .func (.func 41) #[] #[], .int .i64 (-1000), .func (.func 43) #[] #[], .int .i64 1, .func (.func 44) #[] #[], .int .i64 (-1000), .func (.func 45) #[] #[], .int .i64 (-1000), .func (.func 46) #[] #[]] | 1 => vF = .int .i64 4 | 2 => vF = .agg #[.int .i64 (-1000), .func (.func 45) #[] #[]] | 3 => vF = .func (.func 45) #[] #[] | 4 => vF = .int .i64 b | 5 => vF = .agg #[.int .i64 r.k, .int .i64 r.v] | 6 => vF = .agg #[.int .i64 (⟨r.v, r.k⟩ : Rc).k, .int .i64 (⟨r.v, r.k⟩ : Rc).v] | _ => True) 7 _ rfl rfl rfl (by kernel_rfl) (by kernel_rfl) ?_ ?_ ?_
  · intro k v w1 w2 hg h
    match k with
    | 0 => exact h
    | 1 => exact h
    | 2 => exact h
    | 3 => exact h
    | 4 => exact h
    | 5 => exact h
    | 6 => exact h
    | k + 7 => exact trivial
  · refine ⟨?_, ?_, ?_, ?_, ?_, ?_, ?_, trivial⟩
    · refine stepOne_run trivial ?_
      intro a' w' hg hs hd
      have ec : ∀ v, a'.eval (.const v) = v := fun _ => rfl
      have ef : ∀ g, a'.eval (.func g) = .func (.func g) #[] #[] := fun _ => rfl
      clear hd hs
      refine wpc ?_ (Calls.mono (mappings_any _) fun e w2 ⟨he, hb⟩ => ⟨_, he, _, rfl, hb, rfl⟩)
      (generalize a'.eval = ev at ec ef ⊢; simp [execOp, go_sem, *])
    · refine stepOne_run trivial ?_
      intro a' w' hg hs hd
      have e0 : a'.eval (.tmp 0) = .int .i64 4 := hs.rest 0 rfl
      have ec : ∀ v, a'.eval (.const v) = v := fun _ => rfl
      have ef : ∀ g, a'.eval (.func g) = .func (.func g) #[] #[] := fun _ => rfl
      clear hd hs
      refine wpv (v := .int .i64 4) ?_ ⟨_, rfl, Grow.rfl' _, rfl⟩
      (generalize a'.eval = ev at ec ef e0 ⊢; simp [execOp, go_sem, *])
    · refine stepOne_run trivial ?_
      intro a' w' hg hs hd
      have e12 : a'.eval (.tmp 12) = .agg #[.int .i64 0, .nilFunc, .int .i64 (-1000), .func (.func 41) #[] #[], .int .i64 (-1000), .func (.func 43) #[] #[], .int .i64 1, .func (.func 44) #[] #[], .int .i64 (-1000), .func (.func 45) #[] #[], .int .i64 (-1000), .func (.func 46) #[] #[]] := hd ⟨0, Ground.data⟩ (by simp) rfl
      have e13 : a'.eval (.tmp 13) = .int .i64 4 := hd ⟨1, Ground.data⟩ (by simp) rfl
      have ec : ∀ v, a'.eval (.const v) = v := fun _ => rfl
      have ef : ∀ g, a'.eval (.func g) = .func (.func g) #[] #[] := fun _ => rfl
      clear hd hs
      refine wpv (v := .agg #[.int .i64 (-1000), .func (.func 45) #[] #[]]) ?_ ⟨_, rfl, Grow.rfl' _, rfl⟩
      (generalize a'.eval = ev at ec ef e12 e13 ⊢; simp [execOp, go_sem, *])
    · refine stepOne_run trivial ?_
      intro a' w' hg hs hd
      have e14 : a'.eval (.tmp 14) = .agg #[.int .i64 (-1000), .func (.func 45) #[] #[]] := hd ⟨2, Ground.data⟩ (by simp) rfl
      have ec : ∀ v, a'.eval (.const v) = v := fun _ => rfl
      have ef : ∀ g, a'.eval (.func g) = .func (.func g) #[] #[] := fun _ => rfl
      clear hd hs
      refine wpv (v := .func (.func 45) #[] #[]) ?_ ⟨_, rfl, Grow.rfl' _, rfl⟩
      (generalize a'.eval = ev at ec ef e14 ⊢; simp [execOp, go_sem, *])
    · refine stepOne_run trivial ?_
      intro a' w' hg hs hd
      have e1 : a'.eval (.tmp 1) = .int .i64 b := hs.rest 1 rfl
      have ec : ∀ v, a'.eval (.const v) = v := fun _ => rfl
      have ef : ∀ g, a'.eval (.func g) = .func (.func g) #[] #[] := fun _ => rfl
      clear hd hs
      refine wpv (v := .int .i64 b) ?_ ⟨_, rfl, Grow.rfl' _, rfl⟩
      (generalize a'.eval = ev at ec ef e1 ⊢; simp [execOp, go_sem, *])
    · refine stepOne_run trivial ?_
      intro a' w' hg hs hd
      have e5 : a'.eval (.tmp 5) = .pointer (some ⟨w.heap.size, 0, none⟩) := hs.rest 5 rfl
      have ec : ∀ v, a'.eval (.const v) = v := fun _ => rfl
      have ef : ∀ g, a'.eval (.func g) = .func (.func g) #[] #[] := fun _ => rfl
      obtain ⟨x0, x1⟩ := KX1.out.later hg
      clear hd hs
      refine wpv (v := .agg #[.int .i64 r.k, .int .i64 r.v]) ?_ ⟨_, rfl, Grow.rfl' _, rfl⟩
      (generalize a'.eval = ev at ec ef e5 ⊢; simp [execOp, go_sem, *])
    · refine stepOne_run trivial ?_
      intro a' w' hg hs hd
      have e15 : a'.eval (.tmp 15) = .func (.func 45) #[] #[] := hd ⟨3, Ground.data⟩ (by simp) rfl
      have e16 : a'.eval (.tmp 16) = .int .i64 b := hd ⟨4, Ground.data⟩ (by simp) rfl
      have e17 : a'.eval (.tmp 17) = .agg #[.int .i64 r.k, .int .i64 r.v] := hd ⟨5, Ground.data⟩ (by simp) rfl
      have ec : ∀ v, a'.eval (.const v) = v := fun _ => rfl
      have ef : ∀ g, a'.eval (.func g) = .func (.func g) #[] #[] := fun _ => rfl
      clear hd hs
      refine wpc ?_ (Calls.mono (mapC4 b r _) fun e w2 ⟨he, hb⟩ => ⟨_, he, _, rfl, hb, rfl⟩)
      (generalize a'.eval = ev at ec ef e15 e16 e17 ⊢; simp [execOp, go_sem, *])
  · intro a' w' hg hs hd
    have e6 : a'.eval (.tmp 6) = .pointer (some ⟨w.heap.size + 1, 0, none⟩) := hs.rest 6 rfl
    have e18 : a'.eval (.tmp 18) = .agg #[.int .i64 (⟨r.v, r.k⟩ : Rc).k, .int .i64 (⟨r.v, r.k⟩ : Rc).v] := hd 6 (by omega)
    have ec : ∀ v, a'.eval (.const v) = v := fun _ => rfl
    have ef : ∀ g, a'.eval (.func g) = .func (.func g) #[] #[] := fun _ => rfl
    refine wp_store_rec _ _ rfl (t := ⟨r.v, r.k⟩) e6 e18 (KR1.out.later hg) ?_
    go_wp2_with fail
    have HB := (KR1.out.later hg).box ⟨r.v, r.k⟩
    dsimp only at HB
    have HR := results_rec (fn := Try.f17) (i := 6) rfl a'.tmps _ e6 HB
    exact bodyPost_ret HR hs.defers ⟨rfl, below_setRow (Grow.trans' G1.out hg) (Nat.le_succ _) _⟩
set_option maxHeartbeats 1000000 in
theorem map_5 (b : Int) (r : Rc) (hm : mayMapB 5 b = true)  (w : World) :
    Calls Try.prog 17 #[.int .i64 5, .int .i64 b, .agg #[.int .i64 r.k, .int .i64 r.v]] w fun e w' => e = .returned (.agg #[.int .i64 (⟨r.k, b⟩ : Rc).k, .int .i64 (⟨r.k, b⟩ : Rc).v]) ∧ Grow w w' := by
  have KX : Hid (Box ((w.alloc (.cells #[.int .i64 r.k, .int .i64 r.v] 23)).alloc (.cells #[.int .i64 0, .int .i64 0] 23)) w.heap.size r) := hide ((Box.new _ _).later (Grow.alloc' _ _))
  have G0 : Hid (Grow w ((w.alloc (.cells #[.int .i64 r.k, .int .i64 r.v] 23)).alloc (.cells #[.int .i64 0, .int .i64 0] 23))) := hide (Grow.trans' (Grow.alloc' _ _) (Grow.alloc' _ _))
  have hz : (w.alloc (.cells #[.int .i64 r.k, .int .i64 r.v] 23)).heap.size = w.heap.size + 1 := by simp
  have KR : Hid (Blk ((w.alloc (.cells #[.int .i64 r.k, .int .i64 r.v] 23)).alloc (.cells #[.int .i64 0, .int .i64 0] 23)) (w.heap.size + 1)) := hide (by rw [← hz]; exact Blk.new _ _ _)
  have C := hide (mayMap_at 5 b hm ((w.alloc (.cells #[.int .i64 r.k, .int .i64 r.v] 23)).alloc (.cells #[.int .i64 0, .int .i64 0] 23)))
  clear hz hm
  go_enter Try.func17, Try.ntmps17
  go_wp2_with fail
  refine (C.out).mono ?_
  rintro e w1 ⟨rfl, hq⟩
  have G1 := hide (Grow.trans' G0.out hq)
  have KR1 := hide (KR.out.later hq)
  have KX1 := hide (KX.out.later hq)
  clear hq C KX KR G0
  go_wp2_with fail
  refine wp_region_end (fun i vF wF => match i with | 0 => vF = .agg #[.int .i64 0, .nilFunc, .int .i64 (-1000), .func (.func 41) #[] #[], .int .i64 (-1000), .func (.func 43) #[] #[], .int .i64 1, .func (.func 44) #[] #[], .int .i64 (-1000), .func (.func 45) #[] #[], .int .i64 (-1000), .func (.func 46) #[] #[]] | 1 => vF = .int .i64 5 | 2 => vF = .agg #[.int .i64 (-1000), .func (.func 46) #[] #[]] | 3 => vF = .func (.func 46) #[] #[] | 4 => vF = .int .i64 b | 5 => vF = .agg #[.int .i64 r.k, .int .i64 r.v] | 6 => vF = .agg #[.int .i64 (⟨r.k, b⟩ : Rc).k, .int .i64 (⟨r.k, b⟩ : Rc).v] | _ => True) 7 _ rfl rfl rfl (by kernel_rfl) (by kernel_rfl) ?_ ?_ ?_
  · intro k v w1 w2 hg h
    match k with
    | 0 => exact h
    | 1 => exact h
    | 2 => exact h
    | 3 => exact h
    | 4 => exact h
    | 5 => exact h
    | 6 => exact h
    | k + 7 => exact trivial
  · refine ⟨?_, ?_, ?_, ?_, ?_, ?_, ?_, trivial⟩
    · refine stepOne_run trivial ?_
      intro a' w' hg hs hd
      have ec : ∀ v, a'.eval (.const v) = v := fun _ => rfl
      have ef : ∀ g, a'.eval (.func g) = .func (.func g) #[] #[] := fun _ => rfl
      clear hd hs
      refine wpc ?_ (Calls.mono (mappings_any _) fun e w2 ⟨he, hb⟩ => ⟨_, he, _, rfl, hb, rfl⟩)
      (generalize a'.eval = ev at ec ef ⊢; simp [execOp, go_sem, *])
    · refine stepOne_run trivial ?_
      intro a' w' hg hs hd
      have e0 : a'.eval (.tmp 0) = .int .i64 5 := hs.rest 0 rfl
      have ec : ∀ v, a'.eval (.const v) = v := fun _ => rfl
      have ef : ∀ g, a'.eval (.func g) = .func (.func g) #[] #[] := fun _ => rfl
      clear hd hs
      refine wpv (v := .int .i64 5) ?_ ⟨_, rfl, Grow.rfl' _, rfl⟩
      (generalize a'.eval = ev at ec ef e0 ⊢; simp [execOp, go_sem, *])
    · refine stepOne_run trivial ?_
      intro a' w' hg hs hd
      have e12 : a'.eval (.tmp 12) = .agg #[.int .i64 0, .nilFunc, .int .i64 (-1000), .func (.func 41) #[] #[], .int .i64 (-1000), .func (.func 43) #[] #[], .int .i64 1, .func (.func 44) #[] #[], .int .i64 (-1000), .func (.func 45) #[] #[], .int .i64 (-1000), .func (.func 46) #[] #[]] := hd ⟨0, Ground.data⟩ (by simp) rfl
      have e13 : a'.eval (.tmp 13) = .int .i64 5 := hd ⟨1, Ground.data⟩ (by simp) rfl
      have ec : ∀ v, a'.eval (.const v) = v := fun _ => rfl
      have ef : ∀ g, a'.eval (.func g) = .func (.func g) #[] #[] := fun _ => rfl
      clear hd hs
      refine wpv (v := .agg #[.int .i64 (-1000), .func (.func 46) #[] #[]]) ?_ ⟨_, rfl, Grow.rfl' _, rfl⟩
      (generalize a'.eval = ev at ec ef e12 e13 ⊢; simp [execOp, go_sem, *])
    · refine stepOne_run trivial ?_
      intro a' w' hg hs hd
      have e14 : a'.eval (.tmp 14) = .agg #[.int .i64 (-1000), .func (.func 46) #[] #[]] := hd ⟨2, Ground.data⟩ (by simp) rfl
      have ec : ∀ v, a'.eval (.const v) = v := fun _ => rfl
      have ef : ∀ g, a'.eval (.func g) = .func (.func g) #[] #[] := fun _ => rfl
      clear hd hs
      refine wpv (v := .func (.func 46) #[] #[]) ?_ ⟨_, rfl, Grow.rfl' _, rfl⟩
      (generalize a'.eval = ev at ec ef e14 ⊢; simp [execOp, go_sem, *])
    · refine stepOne_run trivial ?_
      intro a' w' hg hs hd
      have e1 : a'.eval (.tmp 1) = .int .i64 b := hs.rest 1 rfl
      have ec : ∀ v, a'.eval (.const v) = v := fun _ => rfl
      have ef : ∀ g, a'.eval (.func g) = .func (.func g) #[] #[] := fun _ => rfl
      clear hd hs
      refine wpv (v := .int .i64 b) ?_ ⟨_, rfl, Grow.rfl' _, rfl⟩
      (generalize a'.eval = ev at ec ef e1 ⊢; simp [execOp, go_sem, *])
    · refine stepOne_run trivial ?_
      intro a' w' hg hs hd
      have e5 : a'.eval (.tmp 5) = .pointer (some ⟨w.heap.size, 0, none⟩) := hs.rest 5 rfl
      have ec : ∀ v, a'.eval (.const v) = v := fun _ => rfl
      have ef : ∀ g, a'.eval (.func g) = .func (.func g) #[] #[] := fun _ => rfl
      obtain ⟨x0, x1⟩ := KX1.out.later hg
      clear hd hs
      refine wpv (v := .agg #[.int .i64 r.k, .int .i64 r.v]) ?_ ⟨_, rfl, Grow.rfl' _, rfl⟩
      (generalize a'.eval = ev at ec ef e5 ⊢; simp [execOp, go_sem, *])
    · refine stepOne_run trivial ?_
      intro a' w' hg hs hd
      have e15 : a'.eval (.tmp 15) = .func (.func 46) #[] #[] := hd ⟨3, Ground.data⟩ (by simp) rfl
      have e16 : a'.eval (.tmp 16) = .int .i64 b := hd ⟨4, Ground.data⟩ (by simp) rfl
      have e17 : a'.eval (.tmp 17) = .agg #[.int .i64 r.k, .int .i64 r.v] := hd ⟨5, Ground.data⟩ (by simp) rfl
      have ec : ∀ v, a'.eval (.const v) = v := fun _ => rfl
      have ef : ∀ g, a'.eval (.func g) = .func (.func g) #[] #[] := fun _ => rfl
      clear hd hs
      refine wpc ?_ (Calls.mono (mapC5 b r _) fun e w2 ⟨he, hb⟩ => ⟨_, he, _, rfl, hb, rfl⟩)
      (generalize a'.eval = ev at ec ef e15 e16 e17 ⊢; simp [execOp, go_sem, *])
  · intro a' w' hg hs hd
    have e6 : a'.eval (.tmp 6) = .pointer (some ⟨w.heap.size + 1, 0, none⟩) := hs.rest 6 rfl
    have e18 : a'.eval (.tmp 18) = .agg #[.int .i64 (⟨r.k, b⟩ : Rc).k, .int .i64 (⟨r.k, b⟩ : Rc).v] := hd 6 (by omega)
    have ec : ∀ v, a'.eval (.const v) = v := fun _ => rfl
    have ef : ∀ g, a'.eval (.func g) = .func (.func g) #[] #[] := fun _ => rfl
    refine wp_store_rec _ _ rfl (t := ⟨r.k, b⟩) e6 e18 (KR1.out.later hg) ?_
    go_wp2_with fail
    have HB := (KR1.out.later hg).box ⟨r.k, b⟩
    dsimp only at HB
    have HR := results_rec (fn := Try.f17) (i := 6) rfl a'.tmps _ e6 HB
    exact bodyPost_ret HR hs.defers ⟨rfl, below_setRow (Grow.trans' G1.out hg) (Nat.le_succ _) _⟩
/-- Of a record that may be. -/
theorem map_any (a b : Int) (r : Rc) (hr : mayR r = true) (w : World) :
    Calls Try.prog 17 #[.int .i64 a, .int .i64 b, .agg #[.int .i64 r.k, .int .i64 r.v]] w fun e w' => e = .returned (.agg #[.int .i64 (mapR a b r).k, .int .i64 (mapR a b r).v]) ∧ Grow w w' := by
  cases hm : mayMapB a b
  · have : mapR a b r = r := by unfold mapR; rw [if_pos hm]
    rw [this]
    exact map_no a b r hm w
  · have hr' := (mayR_iff r).1 hr
    have hm' := hm
    simp only [mayMapB, Bool.and_eq_true, decide_eq_true_eq, Bool.or_eq_true] at hm'
    have h1 : ¬ mayMapB a b = false := by rw [hm]; simp
    have : a = 1 ∨ a = 2 ∨ a = 3 ∨ a = 4 ∨ a = 5 := by omega
    unfold mapR
    rw [if_neg h1]
    rcases this with rfl | rfl | rfl | rfl | rfl
    · exact map_1 b r hm (IntWalk.i64_in _ ⟨by omega, by omega⟩) w
    · have h2 : -1099511627776000 ≤ r.v * b ∧ r.v * b ≤ 1099511627776000 := by
        have hb1 : -1000 ≤ b := by omega
        have hb2 : b ≤ 1000 := by omega
        have e1 : 0 ≤ (1099511627776 - r.v) * (1000 - b) := Int.mul_nonneg (by omega) (by omega)
        have e2 : 0 ≤ (1099511627776 + r.v) * (1000 + b) := Int.mul_nonneg (by omega) (by omega)
        have e3 : 0 ≤ (1099511627776 - r.v) * (1000 + b) := Int.mul_nonneg (by omega) (by omega)
        have e4 : 0 ≤ (1099511627776 + r.v) * (1000 - b) := Int.mul_nonneg (by omega) (by omega)
        simp only [Int.sub_mul, Int.add_mul, Int.mul_sub, Int.mul_add] at e1 e2 e3 e4
        omega
      exact map_2 b r hm (IntWalk.i64_in _ ⟨by omega, by omega⟩) w
    · exact map_3 b r hm (by omega) (by omega) w
    · exact map_4 b r hm w
    · exact map_5 b r hm w

end Go.Proofs.Ythkkjhjbojbbaaa
