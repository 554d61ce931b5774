/-
  What gcode's reader does to the world, on: a node, and an edge, whose numbers are taken one behind the other.
-/
import Derived.Test.YtjebipagehhkjaaGreatKRd
namespace Go.Proofs.YtjebipagehhkjaaGreat
set_option maxRecDepth 100000
open Go.ChangeShapes Go.WideShapes Go.ChangeAt Go.RowKit Go.Deep Go.Sort
set_option linter.unusedVariables false
set_option linter.unusedSimpArgs false

theorem wp_put_N {o : Oper} {a : Act} {w : World} {K : Act → World → Prop} {Q : Exit → Act → World → Prop} (x y : Operand) (ho : o.op = .store 37 x y) {b : Nat} {t : Nd}
    (hx : a.eval x = .pointer (some ⟨b, 0, none⟩)) (hy : a.eval y = .agg #[.int .i64 t.k, .int .i64 t.a, .int .i64 t.b, .int .i64 t.d]) (hb : BlkN w b)
    (h : ∀ w2, w.grownBy w2 (some b) → BoxN w2 b t → K (a.put o.dst undef) w2) : o.wp Tryz.prog a w K Q := by
  have hb' := hb
  obtain ⟨cs, hb, hs⟩ := hb
  exact wp_store_row 37 x y ho b _ hx hy _ _ hb (by kernel_rfl) (by rw [hs]; rfl) (by simp [Value.oneCell']) (h _ ⟨rfl, rfl, rfl, by simp [World.setRow], fun k _ hk => setRow_other w b k _ (fun e => hk (by rw [e]))⟩ (hb'.box t))
/-- So many bytes are taken, while a block of the call's own waits. -/
structure StN (W w0 : World) (b R : Nat) (d : List UInt8) (sh : Bool) (k : Nat) (w : World) : Prop where
  r : Rd W w b (d.drop k) (sh || decide (d.length < k))
  blk : BlkN w R
  t : Turn XR w0 w
theorem StN.start {W w0 w : World} {b R : Nat} {d : List UInt8} {sh : Bool} (hR : Rd W w0 b d sh) (hB : BlkN w0 R) (hg : Grow w0 w) : StN W w0 b R d sh 0 w :=
  ⟨by simpa using hR.later hg, hB.later hg, Turn.of_grow hg⟩
theorem StN.next {W w0 w w2 : World} {b R : Nat} {d : List UInt8} {sh : Bool} {k j : Nat} (h : StN W w0 b R d sh k w) (hR : Rd W w2 b ((d.drop k).drop j) ((sh || decide (d.length < k)) || decide ((d.drop k).length < j))) (hT : Turn XR w w2) (hj : 0 < j) : StN W w0 b R d sh (k + j) w2 := by
  have e1 : (d.drop k).drop j = d.drop (k + j) := by rw [List.drop_drop]
  have e2 : ((sh || decide (d.length < k)) || decide ((d.drop k).length < j)) = (sh || decide (d.length < k + j)) := by
    rw [List.length_drop, Bool.or_assoc]
    congr 1
    by_cases h1 : d.length < k <;> by_cases h2 : d.length - k < j <;> by_cases h3 : d.length < k + j <;> simp [h1, h2, h3] <;> omega
  rw [e1, e2] at hR
  exact ⟨hR, BlkN.turn hT (by decide) h.blk, h.t.trans hT⟩
theorem wp_put_E {o : Oper} {a : Act} {w : World} {K : Act → World → Prop} {Q : Exit → Act → World → Prop} (x y : Operand) (ho : o.op = .store 39 x y) {b : Nat} {t : Ed}
    (hx : a.eval x = .pointer (some ⟨b, 0, none⟩)) (hy : a.eval y = .agg #[.int .i64 t.f, .int .i64 t.t, .int .i64 t.p]) (hb : BlkE w b)
    (h : ∀ w2, w.grownBy w2 (some b) → BoxE w2 b t → K (a.put o.dst undef) w2) : o.wp Tryz.prog a w K Q := by
  have hb' := hb
  obtain ⟨cs, hb, hs⟩ := hb
  exact wp_store_row 39 x y ho b _ hx hy _ _ hb (by kernel_rfl) (by rw [hs]; rfl) (by simp [Value.oneCell']) (h _ ⟨rfl, rfl, rfl, by simp [World.setRow], fun k _ hk => setRow_other w b k _ (fun e => hk (by rw [e]))⟩ (hb'.box t))
/-- So many bytes are taken, while a block of the call's own waits. -/
structure StE (W w0 : World) (b R : Nat) (d : List UInt8) (sh : Bool) (k : Nat) (w : World) : Prop where
  r : Rd W w b (d.drop k) (sh || decide (d.length < k))
  blk : BlkE w R
  t : Turn XR w0 w
theorem StE.start {W w0 w : World} {b R : Nat} {d : List UInt8} {sh : Bool} (hR : Rd W w0 b d sh) (hB : BlkE w0 R) (hg : Grow w0 w) : StE W w0 b R d sh 0 w :=
  ⟨by simpa using hR.later hg, hB.later hg, Turn.of_grow hg⟩
theorem StE.next {W w0 w w2 : World} {b R : Nat} {d : List UInt8} {sh : Bool} {k j : Nat} (h : StE W w0 b R d sh k w) (hR : Rd W w2 b ((d.drop k).drop j) ((sh || decide (d.length < k)) || decide ((d.drop k).length < j))) (hT : Turn XR w w2) (hj : 0 < j) : StE W w0 b R d sh (k + j) w2 := by
  have e1 : (d.drop k).drop j = d.drop (k + j) := by rw [List.drop_drop]
  have e2 : ((sh || decide (d.length < k)) || decide ((d.drop k).length < j)) = (sh || decide (d.length < k + j)) := by
    rw [List.length_drop, Bool.or_assoc]
    congr 1
    by_cases h1 : d.length < k <;> by_cases h2 : d.length - k < j <;> by_cases h3 : d.length < k + j <;> simp [h1, h2, h3] <;> omega
  rw [e1, e2] at hR
  exact ⟨hR, BlkE.turn hT (by decide) h.blk, h.t.trans hT⟩
theorem Turn.put {X : TypeId → Bool} {w w1 w2 : World} {R : Nat} (h : Turn X w w1) (hg : w1.grownBy w2 (some R)) (hR : w.heap.size ≤ R) : Turn X w w2 :=
  ⟨Nat.le_trans h.size hg.size, fun k hk => by
    have e := hg.block k (Nat.lt_of_lt_of_le hk h.size) (fun e => by cases e; omega)
    rcases h.block k hk with h1 | h1
    · exact .inl (e.trans h1)
    · exact .inr h1⟩
theorem Rd.at_ne {W w : World} {b : Nat} {d : List UInt8} {sh : Bool} (h : Rd W w b d sh) : b < w.heap.size := by
  obtain ⟨_, _, s, n, c, hC, _⟩ := h
  exact hC.lt
set_option maxHeartbeats 4000000 in
theorem rdnode_any (W w : World) (b : Nat) (d : List UInt8) (sh : Bool) (hR : Rd W w b d sh) {x : Nd} (hx : ndAt d 0 = x) :
    Calls Tryz.prog 24 #[.pointer (some ⟨b, 0, none⟩)] w fun r w' => r = .returned (.agg #[.int .i64 x.k, .int .i64 x.a, .int .i64 x.b, .int .i64 x.d]) ∧ Rd W w' b (d.drop 6) (sh || decide (d.length < 6)) ∧ Turn XR w w' := by
  have HX := hide hx
  have HB0 : Hid (BlkN (w.alloc (.cells #[.int .i64 0, .int .i64 0, .int .i64 0, .int .i64 0] 37)) w.heap.size) := hide (BlkN.new w)
  have HR0 := hide (hR.later (Grow.alloc' w (.cells #[.int .i64 0, .int .i64 0, .int .i64 0, .int .i64 0] 37)))
  have HT0 : Hid (Turn XR w (w.alloc (.cells #[.int .i64 0, .int .i64 0, .int .i64 0, .int .i64 0] 37))) := hide (Turn.of_grow (Grow.alloc' _ _))
  have HNE : Hid (b ≠ w.heap.size) := hide (by have := hR.at_ne; omega)
  have HLB := hide hR.lb
  have HGW := hide hR.g.size
  clear hx hR
  go_enter Tryz.func24, Tryz.ntmps24
  go_wp2_with fail
  generalize w.alloc (.cells #[.int .i64 0, .int .i64 0, .int .i64 0, .int .i64 0] 37) = w0 at *
  obtain ⟨R, hRR⟩ : ∃ R, R = w.heap.size := ⟨_, rfl⟩
  rw [← hRR] at HB0 HNE HGW ⊢
  have HWR : Hid (w.heap.size ≤ R) := hide (by omega)
  clear hRR
  obtain ⟨z0, hz0⟩ : ∃ z : Int, ((atB (d.drop 0) 0).toNat : Int) = z := ⟨_, rfl⟩
  have HZ0 := hide hz0
  clear hz0
  obtain ⟨z1, hz1⟩ : ∃ z : Int, ((atB (d.drop 1) 0).toNat : Int) = z := ⟨_, rfl⟩
  have HZ1 := hide hz1
  clear hz1
  obtain ⟨z2, hz2⟩ : ∃ z : Int, num (atB (d.drop 2) 0) (atB (d.drop 2) 1) = z := ⟨_, rfl⟩
  have HZ2 := hide hz2
  clear hz2
  obtain ⟨z3, hz3⟩ : ∃ z : Int, num (atB (d.drop 4) 0) (atB (d.drop 4) 1) = z := ⟨_, rfl⟩
  have HZ3 := hide hz3
  clear hz3
  let FF : Nat → Value → Prop := fun i vF => match i with | 0 => vF = .pointer (some ⟨b, 0, none⟩) | 1 => vF = .pointer (some ⟨b, 0, none⟩) | 2 => vF = .pointer (some ⟨b, 0, none⟩) | 3 => vF = .int .i64 z0 | 4 => vF = .pointer (some ⟨b, 0, none⟩) | 5 => vF = .pointer (some ⟨b, 0, none⟩) | 6 => vF = .pointer (some ⟨b, 0, none⟩) | 7 => vF = .int .i64 z1 | 8 => vF = .pointer (some ⟨b, 0, none⟩) | 9 => vF = .pointer (some ⟨b, 0, none⟩) | 10 => vF = .pointer (some ⟨b, 0, none⟩) | 11 => vF = .int .i64 z2 | 12 => vF = .pointer (some ⟨b, 0, none⟩) | 13 => vF = .pointer (some ⟨b, 0, none⟩) | 14 => vF = .pointer (some ⟨b, 0, none⟩) | 15 => vF = .int .i64 z3 | 16 => vF = .agg #[.int .i64 z0, .int .i64 z2, .int .i64 z3, .int .i64 z1] | _ => True
  let CC : Nat → Value → World → Prop := fun p u w' => StN W w0 b R d sh (match p with | 0 => 0 | 1 => 1 | 2 => 2 | 3 => 4 | _ => 6) w'
  refine wp_region_endC FF CC [3, 7, 11, 15] 17 _ rfl rfl rfl (by kernel_rfl) (by kernel_rfl) (by kernel_rfl) (fun w' hg _ => StN.start HR0.out HB0.out hg) ?_ ?_
  · refine ⟨?_, ?_, ?_, ?_, ?_, ?_, ?_, ?_, ?_, ?_, ?_, ?_, ?_, ?_, ?_, ?_, ?_, trivial⟩
    · refine stepC_plain rfl (by decide) ?_
      intro a' w' hC hs hd
      have e0 : a'.eval (.tmp 0) = .pointer (some ⟨b, 0, none⟩) := hs.rest 0 rfl
      have ec : ∀ v, a'.eval (.const v) = v := fun _ => rfl
      have ef : ∀ g, a'.eval (.func g) = .func (.func g) #[] #[] := fun _ => rfl
      clear hd hs
      refine wpv (v := .pointer (some ⟨b, 0, none⟩)) (w' := w') ?_ ⟨_, rfl, rfl, rfl⟩
      (generalize a'.eval = ev at ec ef e0 ⊢; simp [execOp, go_sem, *])
    · refine stepC_plain rfl (by decide) ?_
      intro a' w' hC hs hd
      have e3 : a'.eval (.tmp 3) = .pointer (some ⟨b, 0, none⟩) := hd ⟨0, Ground.data⟩ (by simp) rfl
      have ec : ∀ v, a'.eval (.const v) = v := fun _ => rfl
      have ef : ∀ g, a'.eval (.func g) = .func (.func g) #[] #[] := fun _ => rfl
      clear hd hs
      refine wpv (v := .pointer (some ⟨b, 0, none⟩)) (w' := w') ?_ ⟨_, rfl, rfl, rfl⟩
      (generalize a'.eval = ev at ec ef e3 ⊢; simp [execOp, go_sem, *])
    · refine stepC_plain rfl (by decide) ?_
      intro a' w' hC hs hd
      have e4 : a'.eval (.tmp 4) = .pointer (some ⟨b, 0, none⟩) := hd ⟨1, Ground.data⟩ (by simp) rfl
      have ec : ∀ v, a'.eval (.const v) = v := fun _ => rfl
      have ef : ∀ g, a'.eval (.func g) = .func (.func g) #[] #[] := fun _ => rfl
      clear hd hs
      refine wpv (v := .pointer (some ⟨b, 0, none⟩)) (w' := w') ?_ ⟨_, rfl, rfl, rfl⟩
      (generalize a'.eval = ev at ec ef e4 ⊢; simp [execOp, go_sem, *])
    · refine stepC_turn (q := 0) rfl rfl ?_
      intro a' w' u hC hs hd hu
      have e5 : a'.eval (.tmp 5) = .pointer (some ⟨b, 0, none⟩) := hd ⟨2, Ground.data⟩ (by simp) rfl
      have ec : ∀ v, a'.eval (.const v) = v := fun _ => rfl
      have ef : ∀ g, a'.eval (.func g) = .func (.func g) #[] #[] := fun _ => rfl
      clear hd hs hu
      have hS : StN W w0 b R d sh 0 w' := hC
      refine wpc ?_ ((rsmall_any W w' b _ _ hS.r).mono ?_)
      · (generalize a'.eval = ev at ec ef e5 ⊢; simp [execOp, go_sem, *])
      rintro e w2 ⟨he, hR2, hT2⟩
      exact ⟨_, he, _, rfl, congrArg (Value.int .i64) HZ0.out, StN.next (j := 1) hS hR2 hT2 (by omega)⟩
    · refine stepC_plain rfl (by decide) ?_
      intro a' w' hC hs hd
      have e0 : a'.eval (.tmp 0) = .pointer (some ⟨b, 0, none⟩) := hs.rest 0 rfl
      have ec : ∀ v, a'.eval (.const v) = v := fun _ => rfl
      have ef : ∀ g, a'.eval (.func g) = .func (.func g) #[] #[] := fun _ => rfl
      clear hd hs
      refine wpv (v := .pointer (some ⟨b, 0, none⟩)) (w' := w') ?_ ⟨_, rfl, rfl, rfl⟩
      (generalize a'.eval = ev at ec ef e0 ⊢; simp [execOp, go_sem, *])
    · refine stepC_plain rfl (by decide) ?_
      intro a' w' hC hs hd
      have e7 : a'.eval (.tmp 7) = .pointer (some ⟨b, 0, none⟩) := hd ⟨4, Ground.data⟩ (by simp) rfl
      have ec : ∀ v, a'.eval (.const v) = v := fun _ => rfl
      have ef : ∀ g, a'.eval (.func g) = .func (.func g) #[] #[] := fun _ => rfl
      clear hd hs
      refine wpv (v := .pointer (some ⟨b, 0, none⟩)) (w' := w') ?_ ⟨_, rfl, rfl, rfl⟩
      (generalize a'.eval = ev at ec ef e7 ⊢; simp [execOp, go_sem, *])
    · refine stepC_plain rfl (by decide) ?_
      intro a' w' hC hs hd
      have e8 : a'.eval (.tmp 8) = .pointer (some ⟨b, 0, none⟩) := hd ⟨5, Ground.data⟩ (by simp) rfl
      have ec : ∀ v, a'.eval (.const v) = v := fun _ => rfl
      have ef : ∀ g, a'.eval (.func g) = .func (.func g) #[] #[] := fun _ => rfl
      clear hd hs
      refine wpv (v := .pointer (some ⟨b, 0, none⟩)) (w' := w') ?_ ⟨_, rfl, rfl, rfl⟩
      (generalize a'.eval = ev at ec ef e8 ⊢; simp [execOp, go_sem, *])
    · refine stepC_turn (q := 1) rfl rfl ?_
      intro a' w' u hC hs hd hu
      have e9 : a'.eval (.tmp 9) = .pointer (some ⟨b, 0, none⟩) := hd ⟨6, Ground.data⟩ (by simp) rfl
      have ec : ∀ v, a'.eval (.const v) = v := fun _ => rfl
      have ef : ∀ g, a'.eval (.func g) = .func (.func g) #[] #[] := fun _ => rfl
      clear hd hs hu
      have hS : StN W w0 b R d sh 1 w' := hC
      refine wpc ?_ ((rsmall_any W w' b _ _ hS.r).mono ?_)
      · (generalize a'.eval = ev at ec ef e9 ⊢; simp [execOp, go_sem, *])
      rintro e w2 ⟨he, hR2, hT2⟩
      exact ⟨_, he, _, rfl, congrArg (Value.int .i64) HZ1.out, StN.next (j := 1) hS hR2 hT2 (by omega)⟩
    · refine stepC_plain rfl (by decide) ?_
      intro a' w' hC hs hd
      have e0 : a'.eval (.tmp 0) = .pointer (some ⟨b, 0, none⟩) := hs.rest 0 rfl
      have ec : ∀ v, a'.eval (.const v) = v := fun _ => rfl
      have ef : ∀ g, a'.eval (.func g) = .func (.func g) #[] #[] := fun _ => rfl
      clear hd hs
      refine wpv (v := .pointer (some ⟨b, 0, none⟩)) (w' := w') ?_ ⟨_, rfl, rfl, rfl⟩
      (generalize a'.eval = ev at ec ef e0 ⊢; simp [execOp, go_sem, *])
    · refine stepC_plain rfl (by decide) ?_
      intro a' w' hC hs hd
      have e11 : a'.eval (.tmp 11) = .pointer (some ⟨b, 0, none⟩) := hd ⟨8, Ground.data⟩ (by simp) rfl
      have ec : ∀ v, a'.eval (.const v) = v := fun _ => rfl
      have ef : ∀ g, a'.eval (.func g) = .func (.func g) #[] #[] := fun _ => rfl
      clear hd hs
      refine wpv (v := .pointer (some ⟨b, 0, none⟩)) (w' := w') ?_ ⟨_, rfl, rfl, rfl⟩
      (generalize a'.eval = ev at ec ef e11 ⊢; simp [execOp, go_sem, *])
    · refine stepC_plain rfl (by decide) ?_
      intro a' w' hC hs hd
      have e12 : a'.eval (.tmp 12) = .pointer (some ⟨b, 0, none⟩) := hd ⟨9, Ground.data⟩ (by simp) rfl
      have ec : ∀ v, a'.eval (.const v) = v := fun _ => rfl
      have ef : ∀ g, a'.eval (.func g) = .func (.func g) #[] #[] := fun _ => rfl
      clear hd hs
      refine wpv (v := .pointer (some ⟨b, 0, none⟩)) (w' := w') ?_ ⟨_, rfl, rfl, rfl⟩
      (generalize a'.eval = ev at ec ef e12 ⊢; simp [execOp, go_sem, *])
    · refine stepC_turn (q := 2) rfl rfl ?_
      intro a' w' u hC hs hd hu
      have e13 : a'.eval (.tmp 13) = .pointer (some ⟨b, 0, none⟩) := hd ⟨10, Ground.data⟩ (by simp) rfl
      have ec : ∀ v, a'.eval (.const v) = v := fun _ => rfl
      have ef : ∀ g, a'.eval (.func g) = .func (.func g) #[] #[] := fun _ => rfl
      clear hd hs hu
      have hS : StN W w0 b R d sh 2 w' := hC
      refine wpc ?_ ((rwide_any W w' b _ _ hS.r).mono ?_)
      · (generalize a'.eval = ev at ec ef e13 ⊢; simp [execOp, go_sem, *])
      rintro e w2 ⟨he, hR2, hT2⟩
      exact ⟨_, he, _, rfl, congrArg (Value.int .i64) HZ2.out, StN.next (j := 2) hS hR2 hT2 (by omega)⟩
    · refine stepC_plain rfl (by decide) ?_
      intro a' w' hC hs hd
      have e0 : a'.eval (.tmp 0) = .pointer (some ⟨b, 0, none⟩) := hs.rest 0 rfl
      have ec : ∀ v, a'.eval (.const v) = v := fun _ => rfl
      have ef : ∀ g, a'.eval (.func g) = .func (.func g) #[] #[] := fun _ => rfl
      clear hd hs
      refine wpv (v := .pointer (some ⟨b, 0, none⟩)) (w' := w') ?_ ⟨_, rfl, rfl, rfl⟩
      (generalize a'.eval = ev at ec ef e0 ⊢; simp [execOp, go_sem, *])
    · refine stepC_plain rfl (by decide) ?_
      intro a' w' hC hs hd
      have e15 : a'.eval (.tmp 15) = .pointer (some ⟨b, 0, none⟩) := hd ⟨12, Ground.data⟩ (by simp) rfl
      have ec : ∀ v, a'.eval (.const v) = v := fun _ => rfl
      have ef : ∀ g, a'.eval (.func g) = .func (.func g) #[] #[] := fun _ => rfl
      clear hd hs
      refine wpv (v := .pointer (some ⟨b, 0, none⟩)) (w' := w') ?_ ⟨_, rfl, rfl, rfl⟩
      (generalize a'.eval = ev at ec ef e15 ⊢; simp [execOp, go_sem, *])
    · refine stepC_plain rfl (by decide) ?_
      intro a' w' hC hs hd
      have e16 : a'.eval (.tmp 16) = .pointer (some ⟨b, 0, none⟩) := hd ⟨13, Ground.data⟩ (by simp) rfl
      have ec : ∀ v, a'.eval (.const v) = v := fun _ => rfl
      have ef : ∀ g, a'.eval (.func g) = .func (.func g) #[] #[] := fun _ => rfl
      clear hd hs
      refine wpv (v := .pointer (some ⟨b, 0, none⟩)) (w' := w') ?_ ⟨_, rfl, rfl, rfl⟩
      (generalize a'.eval = ev at ec ef e16 ⊢; simp [execOp, go_sem, *])
    · refine stepC_turn (q := 3) rfl rfl ?_
      intro a' w' u hC hs hd hu
      have e17 : a'.eval (.tmp 17) = .pointer (some ⟨b, 0, none⟩) := hd ⟨14, Ground.data⟩ (by simp) rfl
      have ec : ∀ v, a'.eval (.const v) = v := fun _ => rfl
      have ef : ∀ g, a'.eval (.func g) = .func (.func g) #[] #[] := fun _ => rfl
      clear hd hs hu
      have hS : StN W w0 b R d sh 4 w' := hC
      refine wpc ?_ ((rwide_any W w' b _ _ hS.r).mono ?_)
      · (generalize a'.eval = ev at ec ef e17 ⊢; simp [execOp, go_sem, *])
      rintro e w2 ⟨he, hR2, hT2⟩
      exact ⟨_, he, _, rfl, congrArg (Value.int .i64) HZ3.out, StN.next (j := 2) hS hR2 hT2 (by omega)⟩
    · refine stepC_plain rfl (by decide) ?_
      intro a' w' hC hs hd
      have e6 : a'.eval (.tmp 6) = .int .i64 z0 := hd ⟨3, Ground.data⟩ (by simp) rfl
      have e10 : a'.eval (.tmp 10) = .int .i64 z1 := hd ⟨7, Ground.data⟩ (by simp) rfl
      have e14 : a'.eval (.tmp 14) = .int .i64 z2 := hd ⟨11, Ground.data⟩ (by simp) rfl
      have e18 : a'.eval (.tmp 18) = .int .i64 z3 := hd ⟨15, Ground.data⟩ (by simp) rfl
      have ec : ∀ v, a'.eval (.const v) = v := fun _ => rfl
      have ef : ∀ g, a'.eval (.func g) = .func (.func g) #[] #[] := fun _ => rfl
      clear hd hs
      refine wpv (v := .agg #[.int .i64 z0, .int .i64 z2, .int .i64 z3, .int .i64 z1]) (w' := w') ?_ ⟨_, rfl, rfl, rfl⟩
      (generalize a'.eval = ev at ec ef e6 e10 e14 e18 ⊢; simp [execOp, go_sem, *])
  · intro a' w' u hC hs hd hu
    have e2 : a'.eval (.tmp 2) = .pointer (some ⟨R, 0, none⟩) := hs.rest 2 rfl
    have e19 : a'.eval (.tmp 19) = .agg #[.int .i64 z0, .int .i64 z2, .int .i64 z3, .int .i64 z1] := hd 16 (by omega)
    have ec : ∀ v, a'.eval (.const v) = v := fun _ => rfl
    have ef : ∀ g, a'.eval (.func g) = .func (.func g) #[] #[] := fun _ => rfl
    have hS : StN W w0 b R d sh 6 w' := hC
    refine wp_put_N _ _ rfl (t := ⟨z0, z2, z3, z1⟩) e2 e19 hS.blk ?_
    intro w4 hg4 hb4
    have hxx : (⟨z0, z2, z3, z1⟩ : Nd) = x := by
      rw [← HX.out, ← HZ0.out, ← HZ1.out, ← HZ2.out, ← HZ3.out]
      simp only [ndAt, atB_drop]
    have HBX := hide (hxx ▸ hb4)
    have HR4 : Hid (Rd W w4 b (d.drop 6) (sh || decide (d.length < 6))) := hide (hS.r.same (grow_by hS.r.g hg4 (by have := HGW.out; omega)) (hg4.block b hS.r.at_ne (fun e => HNE.out (Option.some.inj e))))
    have HT4 := hide ((HT0.out.trans hS.t).put hg4 HWR.out)
    clear hxx hb4 hg4 hS hC e19 ec ef
    rw [frame_eq hs [false, false, false, true, true, true, true, true, true, true, true, true, true, true, true, true, true, true, true, true] (by kernel_rfl)]; simp only [mergeL]; clear hs hd hu; generalize a'.tmps = TT at *; try go_frame
    go_wp2_with fail
    exact bodyPost_ret (resultsN (fn := Tryz.f24) (i := 2) rfl _ _ (b := R) (t := x) rfl HBX.out) rfl ⟨rfl, HR4.out, HT4.out⟩
set_option maxHeartbeats 4000000 in
theorem rdedge_any (W w : World) (b : Nat) (d : List UInt8) (sh : Bool) (hR : Rd W w b d sh) {x : Ed} (hx : edAt d 0 = x) :
    Calls Tryz.prog 25 #[.pointer (some ⟨b, 0, none⟩)] w fun r w' => r = .returned (.agg #[.int .i64 x.f, .int .i64 x.t, .int .i64 x.p]) ∧ Rd W w' b (d.drop 3) (sh || decide (d.length < 3)) ∧ Turn XR w w' := by
  have HX := hide hx
  have HB0 : Hid (BlkE (w.alloc (.cells #[.int .i64 0, .int .i64 0, .int .i64 0] 39)) w.heap.size) := hide (BlkE.new w)
  have HR0 := hide (hR.later (Grow.alloc' w (.cells #[.int .i64 0, .int .i64 0, .int .i64 0] 39)))
  have HT0 : Hid (Turn XR w (w.alloc (.cells #[.int .i64 0, .int .i64 0, .int .i64 0] 39))) := hide (Turn.of_grow (Grow.alloc' _ _))
  have HNE : Hid (b ≠ w.heap.size) := hide (by have := hR.at_ne; omega)
  have HLB := hide hR.lb
  have HGW := hide hR.g.size
  clear hx hR
  go_enter Tryz.func25, Tryz.ntmps25
  go_wp2_with fail
  generalize w.alloc (.cells #[.int .i64 0, .int .i64 0, .int .i64 0] 39) = w0 at *
  obtain ⟨R, hRR⟩ : ∃ R, R = w.heap.size := ⟨_, rfl⟩
  rw [← hRR] at HB0 HNE HGW ⊢
  have HWR : Hid (w.heap.size ≤ R) := hide (by omega)
  clear hRR
  obtain ⟨z0, hz0⟩ : ∃ z : Int, ((atB (d.drop 0) 0).toNat : Int) = z := ⟨_, rfl⟩
  have HZ0 := hide hz0
  clear hz0
  obtain ⟨z1, hz1⟩ : ∃ z : Int, ((atB (d.drop 1) 0).toNat : Int) = z := ⟨_, rfl⟩
  have HZ1 := hide hz1
  clear hz1
  obtain ⟨z2, hz2⟩ : ∃ z : Int, ((atB (d.drop 2) 0).toNat : Int) = z := ⟨_, rfl⟩
  have HZ2 := hide hz2
  clear hz2
  let FF : Nat → Value → Prop := fun i vF => match i with | 0 => vF = .pointer (some ⟨b, 0, none⟩) | 1 => vF = .pointer (some ⟨b, 0, none⟩) | 2 => vF = .pointer (some ⟨b, 0, none⟩) | 3 => vF = .int .i64 z0 | 4 => vF = .pointer (some ⟨b, 0, none⟩) | 5 => vF = .pointer (some ⟨b, 0, none⟩) | 6 => vF = .pointer (some ⟨b, 0, none⟩) | 7 => vF = .int .i64 z1 | 8 => vF = .pointer (some ⟨b, 0, none⟩) | 9 => vF = .pointer (some ⟨b, 0, none⟩) | 10 => vF = .pointer (some ⟨b, 0, none⟩) | 11 => vF = .int .i64 z2 | 12 => vF = .agg #[.int .i64 z0, .int .i64 z1, .int .i64 z2] | _ => True
  let CC : Nat → Value → World → Prop := fun p u w' => StE W w0 b R d sh (match p with | 0 => 0 | 1 => 1 | 2 => 2 | _ => 3) w'
  refine wp_region_endC FF CC [3, 7, 11] 13 _ rfl rfl rfl (by kernel_rfl) (by kernel_rfl) (by kernel_rfl) (fun w' hg _ => StE.start HR0.out HB0.out hg) ?_ ?_
  · refine ⟨?_, ?_, ?_, ?_, ?_, ?_, ?_, ?_, ?_, ?_, ?_, ?_, ?_, trivial⟩
    · refine stepC_plain rfl (by decide) ?_
      intro a' w' hC hs hd
      have e0 : a'.eval (.tmp 0) = .pointer (some ⟨b, 0, none⟩) := hs.rest 0 rfl
      have ec : ∀ v, a'.eval (.const v) = v := fun _ => rfl
      have ef : ∀ g, a'.eval (.func g) = .func (.func g) #[] #[] := fun _ => rfl
      clear hd hs
      refine wpv (v := .pointer (some ⟨b, 0, none⟩)) (w' := w') ?_ ⟨_, rfl, rfl, rfl⟩
      (generalize a'.eval = ev at ec ef e0 ⊢; simp [execOp, go_sem, *])
    · refine stepC_plain rfl (by decide) ?_
      intro a' w' hC hs hd
      have e3 : a'.eval (.tmp 3) = .pointer (some ⟨b, 0, none⟩) := hd ⟨0, Ground.data⟩ (by simp) rfl
      have ec : ∀ v, a'.eval (.const v) = v := fun _ => rfl
      have ef : ∀ g, a'.eval (.func g) = .func (.func g) #[] #[] := fun _ => rfl
      clear hd hs
      refine wpv (v := .pointer (some ⟨b, 0, none⟩)) (w' := w') ?_ ⟨_, rfl, rfl, rfl⟩
      (generalize a'.eval = ev at ec ef e3 ⊢; simp [execOp, go_sem, *])
    · refine stepC_plain rfl (by decide) ?_
      intro a' w' hC hs hd
      have e4 : a'.eval (.tmp 4) = .pointer (some ⟨b, 0, none⟩) := hd ⟨1, Ground.data⟩ (by simp) rfl
      have ec : ∀ v, a'.eval (.const v) = v := fun _ => rfl
      have ef : ∀ g, a'.eval (.func g) = .func (.func g) #[] #[] := fun _ => rfl
      clear hd hs
      refine wpv (v := .pointer (some ⟨b, 0, none⟩)) (w' := w') ?_ ⟨_, rfl, rfl, rfl⟩
      (generalize a'.eval = ev at ec ef e4 ⊢; simp [execOp, go_sem, *])
    · refine stepC_turn (q := 0) rfl rfl ?_
      intro a' w' u hC hs hd hu
      have e5 : a'.eval (.tmp 5) = .pointer (some ⟨b, 0, none⟩) := hd ⟨2, Ground.data⟩ (by simp) rfl
      have ec : ∀ v, a'.eval (.const v) = v := fun _ => rfl
      have ef : ∀ g, a'.eval (.func g) = .func (.func g) #[] #[] := fun _ => rfl
      clear hd hs hu
      have hS : StE W w0 b R d sh 0 w' := hC
      refine wpc ?_ ((rsmall_any W w' b _ _ hS.r).mono ?_)
      · (generalize a'.eval = ev at ec ef e5 ⊢; simp [execOp, go_sem, *])
      rintro e w2 ⟨he, hR2, hT2⟩
      exact ⟨_, he, _, rfl, congrArg (Value.int .i64) HZ0.out, StE.next (j := 1) hS hR2 hT2 (by omega)⟩
    · refine stepC_plain rfl (by decide) ?_
      intro a' w' hC hs hd
      have e0 : a'.eval (.tmp 0) = .pointer (some ⟨b, 0, none⟩) := hs.rest 0 rfl
      have ec : ∀ v, a'.eval (.const v) = v := fun _ => rfl
      have ef : ∀ g, a'.eval (.func g) = .func (.func g) #[] #[] := fun _ => rfl
      clear hd hs
      refine wpv (v := .pointer (some ⟨b, 0, none⟩)) (w' := w') ?_ ⟨_, rfl, rfl, rfl⟩
      (generalize a'.eval = ev at ec ef e0 ⊢; simp [execOp, go_sem, *])
    · refine stepC_plain rfl (by decide) ?_
      intro a' w' hC hs hd
      have e7 : a'.eval (.tmp 7) = .pointer (some ⟨b, 0, none⟩) := hd ⟨4, Ground.data⟩ (by simp) rfl
      have ec : ∀ v, a'.eval (.const v) = v := fun _ => rfl
      have ef : ∀ g, a'.eval (.func g) = .func (.func g) #[] #[] := fun _ => rfl
      clear hd hs
      refine wpv (v := .pointer (some ⟨b, 0, none⟩)) (w' := w') ?_ ⟨_, rfl, rfl, rfl⟩
      (generalize a'.eval = ev at ec ef e7 ⊢; simp [execOp, go_sem, *])
    · refine stepC_plain rfl (by decide) ?_
      intro a' w' hC hs hd
      have e8 : a'.eval (.tmp 8) = .pointer (some ⟨b, 0, none⟩) := hd ⟨5, Ground.data⟩ (by simp) rfl
      have ec : ∀ v, a'.eval (.const v) = v := fun _ => rfl
      have ef : ∀ g, a'.eval (.func g) = .func (.func g) #[] #[] := fun _ => rfl
      clear hd hs
      refine wpv (v := .pointer (some ⟨b, 0, none⟩)) (w' := w') ?_ ⟨_, rfl, rfl, rfl⟩
      (generalize a'.eval = ev at ec ef e8 ⊢; simp [execOp, go_sem, *])
    · refine stepC_turn (q := 1) rfl rfl ?_
      intro a' w' u hC hs hd hu
      have e9 : a'.eval (.tmp 9) = .pointer (some ⟨b, 0, none⟩) := hd ⟨6, Ground.data⟩ (by simp) rfl
      have ec : ∀ v, a'.eval (.const v) = v := fun _ => rfl
      have ef : ∀ g, a'.eval (.func g) = .func (.func g) #[] #[] := fun _ => rfl
      clear hd hs hu
      have hS : StE W w0 b R d sh 1 w' := hC
      refine wpc ?_ ((rsmall_any W w' b _ _ hS.r).mono ?_)
      · (generalize a'.eval = ev at ec ef e9 ⊢; simp [execOp, go_sem, *])
      rintro e w2 ⟨he, hR2, hT2⟩
      exact ⟨_, he, _, rfl, congrArg (Value.int .i64) HZ1.out, StE.next (j := 1) hS hR2 hT2 (by omega)⟩
    · refine stepC_plain rfl (by decide) ?_
      intro a' w' hC hs hd
      have e0 : a'.eval (.tmp 0) = .pointer (some ⟨b, 0, none⟩) := hs.rest 0 rfl
      have ec : ∀ v, a'.eval (.const v) = v := fun _ => rfl
      have ef : ∀ g, a'.eval (.func g) = .func (.func g) #[] #[] := fun _ => rfl
      clear hd hs
      refine wpv (v := .pointer (some ⟨b, 0, none⟩)) (w' := w') ?_ ⟨_, rfl, rfl, rfl⟩
      (generalize a'.eval = ev at ec ef e0 ⊢; simp [execOp, go_sem, *])
    · refine stepC_plain rfl (by decide) ?_
      intro a' w' hC hs hd
      have e11 : a'.eval (.tmp 11) = .pointer (some ⟨b, 0, none⟩) := hd ⟨8, Ground.data⟩ (by simp) rfl
      have ec : ∀ v, a'.eval (.const v) = v := fun _ => rfl
      have ef : ∀ g, a'.eval (.func g) = .func (.func g) #[] #[] := fun _ => rfl
      clear hd hs
      refine wpv (v := .pointer (some ⟨b, 0, none⟩)) (w' := w') ?_ ⟨_, rfl, rfl, rfl⟩
      (generalize a'.eval = ev at ec ef e11 ⊢; simp [execOp, go_sem, *])
    · refine stepC_plain rfl (by decide) ?_
      intro a' w' hC hs hd
      have e12 : a'.eval (.tmp 12) = .pointer (some ⟨b, 0, none⟩) := hd ⟨9, Ground.data⟩ (by simp) rfl
      have ec : ∀ v, a'.eval (.const v) = v := fun _ => rfl
      have ef : ∀ g, a'.eval (.func g) = .func (.func g) #[] #[] := fun _ => rfl
      clear hd hs
      refine wpv (v := .pointer (some ⟨b, 0, none⟩)) (w' := w') ?_ ⟨_, rfl, rfl, rfl⟩
      (generalize a'.eval = ev at ec ef e12 ⊢; simp [execOp, go_sem, *])
    · refine stepC_turn (q := 2) rfl rfl ?_
      intro a' w' u hC hs hd hu
      have e13 : a'.eval (.tmp 13) = .pointer (some ⟨b, 0, none⟩) := hd ⟨10, Ground.data⟩ (by simp) rfl
      have ec : ∀ v, a'.eval (.const v) = v := fun _ => rfl
      have ef : ∀ g, a'.eval (.func g) = .func (.func g) #[] #[] := fun _ => rfl
      clear hd hs hu
      have hS : StE W w0 b R d sh 2 w' := hC
      refine wpc ?_ ((rsmall_any W w' b _ _ hS.r).mono ?_)
      · (generalize a'.eval = ev at ec ef e13 ⊢; simp [execOp, go_sem, *])
      rintro e w2 ⟨he, hR2, hT2⟩
      exact ⟨_, he, _, rfl, congrArg (Value.int .i64) HZ2.out, StE.next (j := 1) hS hR2 hT2 (by omega)⟩
    · refine stepC_plain rfl (by decide) ?_
      intro a' w' hC hs hd
      have e6 : a'.eval (.tmp 6) = .int .i64 z0 := hd ⟨3, Ground.data⟩ (by simp) rfl
      have e10 : a'.eval (.tmp 10) = .int .i64 z1 := hd ⟨7, Ground.data⟩ (by simp) rfl
      have e14 : a'.eval (.tmp 14) = .int .i64 z2 := hd ⟨11, Ground.data⟩ (by simp) rfl
      have ec : ∀ v, a'.eval (.const v) = v := fun _ => rfl
      have ef : ∀ g, a'.eval (.func g) = .func (.func g) #[] #[] := fun _ => rfl
      clear hd hs
      refine wpv (v := .agg #[.int .i64 z0, .int .i64 z1, .int .i64 z2]) (w' := w') ?_ ⟨_, rfl, rfl, rfl⟩
      (generalize a'.eval = ev at ec ef e6 e10 e14 ⊢; simp [execOp, go_sem, *])
  · intro a' w' u hC hs hd hu
    have e2 : a'.eval (.tmp 2) = .pointer (some ⟨R, 0, none⟩) := hs.rest 2 rfl
    have e15 : a'.eval (.tmp 15) = .agg #[.int .i64 z0, .int .i64 z1, .int .i64 z2] := hd 12 (by omega)
    have ec : ∀ v, a'.eval (.const v) = v := fun _ => rfl
    have ef : ∀ g, a'.eval (.func g) = .func (.func g) #[] #[] := fun _ => rfl
    have hS : StE W w0 b R d sh 3 w' := hC
    refine wp_put_E _ _ rfl (t := ⟨z0, z1, z2⟩) e2 e15 hS.blk ?_
    intro w4 hg4 hb4
    have hxx : (⟨z0, z1, z2⟩ : Ed) = x := by
      rw [← HX.out, ← HZ0.out, ← HZ1.out, ← HZ2.out]
      simp only [edAt, atB_drop]
    have HBX := hide (hxx ▸ hb4)
    have HR4 : Hid (Rd W w4 b (d.drop 3) (sh || decide (d.length < 3))) := hide (hS.r.same (grow_by hS.r.g hg4 (by have := HGW.out; omega)) (hg4.block b hS.r.at_ne (fun e => HNE.out (Option.some.inj e))))
    have HT4 := hide ((HT0.out.trans hS.t).put hg4 HWR.out)
    clear hxx hb4 hg4 hS hC e15 ec ef
    rw [frame_eq hs [false, false, false, true, true, true, true, true, true, true, true, true, true, true, true, true] (by kernel_rfl)]; simp only [mergeL]; clear hs hd hu; generalize a'.tmps = TT at *; try go_frame
    go_wp2_with fail
    exact bodyPost_ret (resultsE (fn := Tryz.f25) (i := 2) rfl _ _ (b := R) (t := x) rfl HBX.out) rfl ⟨rfl, HR4.out, HT4.out⟩
end Go.Proofs.YtjebipagehhkjaaGreat
