/-
  What the document's own Add does to the world: of every row and one more its chain, and whether the one was missing; what was there stays as it was.
-/
import Derived.Test.YtkpecibbpogedaaRTm
import Derived.Test.YtkpecibbpogedaaRCov
import Derived.Test.YtkpecibbpogedaaInvK
namespace Go.Proofs.Ytkpecibbpogedaa
set_option maxRecDepth 100000
open Go.RowKit
set_option linter.unusedVariables false

set_option maxHeartbeats 1000000 in
theorem refAddT_false (s : Option Addr) (n cap : Nat) (d : List Tm) (x : Tm) (w : World) (hbig : n ≤ 8000) (hd : IsTms w s n cap d) (hp : kinT.may x = false) :
    Calls Try.prog 12 #[.slice s n cap, .agg #[.int .i64 x.e, .int .i64 x.d, .int .i64 x.x, .int .i64 x.y, .int .i64 x.z]] w fun e w' => ∃ v, e = .returned v ∧ Grow w w' ∧ IsAddT (chainO kinT (d ++ [x])) (false && !coverB kinT d x) v w' := by
  obtain ⟨q, hq⟩ : ∃ q, coverB kinT d x = q := ⟨_, rfl⟩
  rw [hq]
  have HP := hide hp
  have HQ := hide hq
  have G0 : Hid (Grow w (w.alloc (.cells #[.int .i64 x.e, .int .i64 x.d, .int .i64 x.x, .int .i64 x.y, .int .i64 x.z] 25))) := hide (Grow.alloc' _ _)
  have HD0 := hide (hd.later G0.out)
  have KX : Hid (Box (w.alloc (.cells #[.int .i64 x.e, .int .i64 x.d, .int .i64 x.x, .int .i64 x.y, .int .i64 x.z] 25)) w.heap.size x) := hide (Box.new _ _)
  clear hd hp hq
  go_enter Try.func12, Try.ntmps12
  go_wp2_with fail
  generalize w.alloc (.cells #[.int .i64 x.e, .int .i64 x.d, .int .i64 x.x, .int .i64 x.y, .int .i64 x.z] 25) = wa at *
  obtain ⟨x0, x1, x2, x3, x4⟩ := KX.out
  go_wp2_with fail
  refine (refMayT_at x HP.out wa).mono ?_
  rintro e wb ⟨rfl, hb⟩
  have G1 := hide (Grow.trans' G0.out hb)
  have HD1 := hide (HD0.out.later hb)
  have KX0 := hide (KX.out.later hb)
  clear hb x0 x1 x2 x3 x4 KX HD0 G0
  obtain ⟨x0, x1, x2, x3, x4⟩ := KX0.out
  go_wp2_with fail
  refine (refCovT_any s n cap d x HQ.out wb (by omega) HD1.out).mono ?_
  rintro e w0 ⟨rfl, hb⟩
  have G2 := hide (Grow.trans' G1.out hb)
  have HD := hide (HD1.out.later hb)
  have KX1 := hide (KX0.out.later hb)
  clear hb x0 x1 x2 x3 x4 KX0 HD1 G1
  go_wp2_with fail
  let FF : Nat → Value → World → Prop := fun i vF wF => match i with | 0 => LitT w0.heap.size vF wF | 1 => vF = .slice s n cap | 2 => OwnRowT w0.heap.size d vF wF | 3 => vF = .agg #[.int .i64 x.e, .int .i64 x.d, .int .i64 x.x, .int .i64 x.y, .int .i64 x.z] | 4 => IsRowT [x] vF wF | 5 => OwnRowT w0.heap.size (d ++ [x]) vF wF | 6 => IsRowT (chainO kinT (d ++ [x])) vF wF | 7 => vF = .bool false | 8 => vF = .bool false | 9 => True | 10 => True | 11 => vF = Value.bool false | 12 => IsRowT (chainO kinT (d ++ [x])) vF wF | 13 => vF = Value.bool false | _ => True
  have hstab : ∀ k v w1 w2, Grow w1 w2 → FF k v w1 → FF k v w2 := by
    intro k v w1 w2 hg h
    match k with
    | 0 => exact LitT.later hg h
    | 1 => exact h
    | 2 => exact OwnRowT.later hg h
    | 3 => exact h
    | 4 => exact IsRowT.later hg h
    | 5 => exact OwnRowT.later hg h
    | 6 => exact IsRowT.later hg h
    | 7 => exact h
    | 8 => exact h
    | 9 => exact h
    | 10 => exact h
    | 11 => exact h
    | 12 => exact IsRowT.later hg h
    | 13 => exact h
    | k + 14 => exact trivial
  refine wp_region_invK FF (fun i => match i with | 0 => some 2 | 2 => some 5 | 4 => some 5 | _ => none) (by kernel_rfl) (by kernel_rfl) ?_ ?_
  · refine ⟨?_, ?_, ?_, ?_, ?_, ?_, ?_, ?_, ?_, ?_, ?_, ?_, ?_, ?_, trivial⟩
    · refine stepK_run hstab trivial (by intro j b h; cases h) ?_
      intro a' w' hg hs hd
      have ec : ∀ v, a'.eval (.const v) = v := fun _ => rfl
      have ef : ∀ g, a'.eval (.func g) = .func (.func g) #[] #[] := fun _ => rfl
      clear hd hs
      refine wpv (v := .slice (some ⟨w'.heap.size, 0, none⟩) 0 0) (w' := w'.alloc (.cells #[] 25)) ?_ ⟨_, rfl, Grow.alloc' _ _, litT_new _ w0.heap.size hg.size⟩
      (generalize a'.eval = ev at ec ef ⊢; simp [execOp, go_sem, *])
    · refine stepK_run hstab trivial (by intro j b h; cases h) ?_
      intro a' w' hg hs hd
      have e0 : a'.eval (.tmp 0) = .slice s n cap := hs.rest 0 rfl
      have ec : ∀ v, a'.eval (.const v) = v := fun _ => rfl
      have ef : ∀ g, a'.eval (.func g) = .func (.func g) #[] #[] := fun _ => rfl
      clear hd hs
      refine wpv (v := .slice s n cap) ?_ ⟨_, rfl, Grow.rfl' _, rfl⟩
      (generalize a'.eval = ev at ec ef e0 ⊢; simp [execOp, go_sem, *])
    · refine stepK_run hstab trivial (by intro j b h; cases h) ?_
      intro a' w' hg hs hd
      obtain ⟨g13, e13, h13⟩ : LitT w0.heap.size (a'.eval (.tmp 13)) w' := hd ⟨0, Ground.data⟩ (by simp) rfl rfl
      have e14 : a'.eval (.tmp 14) = .slice s n cap := hd ⟨1, Ground.data⟩ (by simp) rfl rfl
      have ec : ∀ v, a'.eval (.const v) = v := fun _ => rfl
      have ef : ∀ g, a'.eval (.func g) = .func (.func g) #[] #[] := fun _ => rfl
      clear hd hs
      obtain ⟨s2, c2, w2, hrun, hown, hgb⟩ := run_ap0_tm w' 22 w0.heap.size g13 d h13 s n cap (HD.out.later hg) (by omega) hg.size
      refine wpv (v := .slice s2 _ c2) (w' := w2) ?_ ⟨_, rfl, hgb, ⟨s2, _, c2, rfl, hown⟩⟩
      unfold execOp; simp only [resolve, invoke, builtin, Sem.run_bind, Sem.run_pure, Result.andThen_ok, List.map_toArray, List.map_cons, List.map_nil, e13, e14, hrun]
    · refine stepK_run hstab trivial (by intro j b h; cases h) ?_
      intro a' w' hg hs hd
      have e3 : a'.eval (.tmp 3) = .pointer (some ⟨w.heap.size, 0, none⟩) := hs.rest 3 rfl
      have ec : ∀ v, a'.eval (.const v) = v := fun _ => rfl
      have ef : ∀ g, a'.eval (.func g) = .func (.func g) #[] #[] := fun _ => rfl
      clear hd hs
      obtain ⟨x0, x1, x2, x3, x4⟩ := KX1.out.later hg
      refine wpv (v := .agg #[.int .i64 x.e, .int .i64 x.d, .int .i64 x.x, .int .i64 x.y, .int .i64 x.z]) ?_ ⟨_, rfl, Grow.rfl' _, rfl⟩
      (generalize a'.eval = ev at ec ef e3 ⊢; simp [execOp, go_sem, *])
    · refine stepK_run hstab trivial (by intro j b h; cases h) ?_
      intro a' w' hg hs hd
      have e16 : a'.eval (.tmp 16) = .agg #[.int .i64 x.e, .int .i64 x.d, .int .i64 x.x, .int .i64 x.y, .int .i64 x.z] := hd ⟨3, Ground.data⟩ (by simp) rfl rfl
      have ec : ∀ v, a'.eval (.const v) = v := fun _ => rfl
      have ef : ∀ g, a'.eval (.func g) = .func (.func g) #[] #[] := fun _ => rfl
      clear hd hs
      refine wpv (v := .slice (some ⟨w'.heap.size, 0, none⟩) 1 1) (w' := w'.alloc ((.cells #[.int .i64 x.e, .int .i64 x.d, .int .i64 x.x, .int .i64 x.y, .int .i64 x.z] 25))) ?_ ⟨_, rfl, Grow.alloc' _ _, isRowT_one _ x⟩
      (generalize a'.eval = ev at ec ef e16 ⊢; simp [execOp, go_sem, *])
    · refine stepK_take rfl ?_
      intro a' w' hg hs hd
      obtain ⟨sc15, nc15, cc15, e15, h15⟩ : OwnRowT w0.heap.size d (a'.eval (.tmp 15)) w' := hd ⟨2, Ground.data⟩ (by simp) rfl rfl
      obtain ⟨sb17, nb17, cb17, e17, h17⟩ : IsRowT [x] (a'.eval (.tmp 17)) w' := hd ⟨4, Ground.data⟩ (by simp) rfl rfl
      have ec : ∀ v, a'.eval (.const v) = v := fun _ => rfl
      have ef : ∀ g, a'.eval (.func g) = .func (.func g) #[] #[] := fun _ => rfl
      clear hd hs
      obtain ⟨s2, c2, w2, hrun, hown, hgb⟩ := run_apv_tm w' 22 w0.heap.size sc15 nc15 cc15 d [x] h15 sb17 nb17 cb17 h17 (by have a1 := h15.1; have a2 := HD.out.1; have a3 := h17.1; simp at a3; omega) hg.size
      refine wpv (v := .slice s2 _ c2) (w' := w2) ?_ ⟨_, rfl, hgb.grow hg (Nat.le_refl _), ⟨s2, _, c2, rfl, hown⟩, ?_⟩
      rotate_left
      · intro j u hj h
        match j with
        | 0 => cases hj
        | 1 => exact h
        | 2 => cases hj
        | 3 => exact h
        | 4 => cases hj
        | 5 => cases hj
        | 6 => cases hj
        | 7 => exact h
        | 8 => exact h
        | 9 => exact h
        | 10 => exact h
        | 11 => exact h
        | 12 => cases hj
        | 13 => exact h
        | j + 14 => exact trivial
      · unfold execOp; simp only [resolve, invoke, builtin, Sem.run_bind, Sem.run_pure, Result.andThen_ok, List.map_toArray, List.map_cons, List.map_nil, e15, e17, hrun]
    · refine stepK_run hstab trivial (by intro j b h; cases h) ?_
      intro a' w' hg hs hd
      obtain ⟨sa18, na18, ca18, e18, h18⟩ : OwnRowT w0.heap.size (d ++ [x]) (a'.eval (.tmp 18)) w' := hd ⟨5, Ground.data⟩ (by simp) rfl rfl
      have ec : ∀ v, a'.eval (.const v) = v := fun _ => rfl
      have ef : ∀ g, a'.eval (.func g) = .func (.func g) #[] #[] := fun _ => rfl
      clear hd hs
      refine wpc ?_ (Calls.mono (refTimes_any sa18 na18 ca18 (d ++ [x]) w' (by have a1 := h18.1; have a2 := HD.out.1; simp at a1; omega) h18.is) fun e w2 ⟨v, he, hb, hv⟩ => ⟨v, he, _, rfl, hb, hv⟩)
      (generalize a'.eval = ev at ec ef e18 ⊢; simp [execOp, go_sem, *])
    · refine stepK_run hstab trivial (by intro j b h; cases h) ?_
      intro a' w' hg hs hd
      have e6 : a'.eval (.tmp 6) = .bool false := hs.rest 6 rfl
      have ec : ∀ v, a'.eval (.const v) = v := fun _ => rfl
      have ef : ∀ g, a'.eval (.func g) = .func (.func g) #[] #[] := fun _ => rfl
      clear hd hs
      refine wpv (v := .bool false) ?_ ⟨_, rfl, Grow.rfl' _, rfl⟩
      (generalize a'.eval = ev at ec ef e6 ⊢; simp [execOp, go_sem, *])
    · refine stepK_run hstab trivial (by intro j b h; cases h) ?_
      intro a' w' hg hs hd
      have e20 : a'.eval (.tmp 20) = .bool false := hd ⟨7, Ground.data⟩ (by simp) rfl rfl
      have ec : ∀ v, a'.eval (.const v) = v := fun _ => rfl
      have ef : ∀ g, a'.eval (.func g) = .func (.func g) #[] #[] := fun _ => rfl
      clear hd hs
      refine wpv (v := .bool false) ?_ ⟨_, rfl, Grow.rfl' _, rfl⟩
      (generalize a'.eval = ev at ec ef e20 ⊢; simp [execOp, go_sem, *])
    · exact stepK_skip (j := 8) (b := true) rfl ⟨⟨8, Ground.guard⟩, by simp, rfl, rfl⟩ rfl (fun _ _ h => h) (fun _ _ => trivial)
    · exact stepK_skip (j := 8) (b := true) rfl ⟨⟨8, Ground.guard⟩, by simp, rfl, rfl⟩ rfl (fun _ _ h => h) (fun _ _ => trivial)
    · refine stepK_run hstab trivial (by intro j b h; cases h) ?_
      intro a' w' hg hs hd
      have e21 : a'.eval (.tmp 21) = .bool false := hd ⟨8, Ground.data⟩ (by simp) rfl rfl
      have ec : ∀ v, a'.eval (.const v) = v := fun _ => rfl
      have ef : ∀ g, a'.eval (.func g) = .func (.func g) #[] #[] := fun _ => rfl
      clear hd hs
      refine wpv (v := Value.bool false) ?_ ⟨_, rfl, Grow.rfl' _, rfl⟩
      (generalize a'.eval = ev at ec ef e21 ⊢; simp [execOp, go_sem, *])
    · refine stepK_run hstab trivial (by intro j b h; cases h) ?_
      intro a' w' hg hs hd
      have hq : IsRowT (chainO kinT (d ++ [x])) (a'.eval (.tmp 19)) w' := hd ⟨6, Ground.data⟩ (by simp) rfl rfl
      have ec : ∀ v, a'.eval (.const v) = v := fun _ => rfl
      have ef : ∀ g, a'.eval (.func g) = .func (.func g) #[] #[] := fun _ => rfl
      clear hd hs
      refine wpv (v := a'.eval (.tmp 19)) ?_ ⟨_, rfl, Grow.rfl' _, hq⟩
      simp [execOp, go_sem]
    · refine stepK_run hstab trivial (by intro j b h; cases h) ?_
      intro a' w' hg hs hd
      have e24 : a'.eval (.tmp 24) = Value.bool false := hd ⟨11, Ground.data⟩ (by simp) rfl rfl
      have ec : ∀ v, a'.eval (.const v) = v := fun _ => rfl
      have ef : ∀ g, a'.eval (.func g) = .func (.func g) #[] #[] := fun _ => rfl
      clear hd hs
      refine wpv (v := Value.bool false) ?_ ⟨_, rfl, Grow.rfl' _, rfl⟩
      (generalize a'.eval = ev at ec ef e24 ⊢; simp [execOp, go_sem, *])
  · intro a' w' hg hs hd
    obtain ⟨sf, nf, cf, e4, h4⟩ : IsRowT (chainO kinT (d ++ [x])) (a'.eval (.tmp 4)) w' := hd 12 (by simp) (by intro k h; cases h)
    have e5 : a'.eval (.tmp 5) = .bool (false && !q) := hd 13 (by simp) (by intro k h; cases h)
    go_wp2_with fail
    refine bodyPost_ret (v := .tuple #[.slice sf nf cf, .bool (false && !q)]) ?_ (by rw [hs.defers]) ⟨_, rfl, Grow.trans' G2.out hg, sf, nf, cf, rfl, h4⟩
    clear hd hs hstab
    simp [Act.eval] at e4 e5
    simp [results, Try.results12, go_sem]
    exact ⟨e4, e5⟩
set_option maxHeartbeats 1000000 in
theorem refAddT_true (s : Option Addr) (n cap : Nat) (d : List Tm) (x : Tm) (w : World) (hbig : n ≤ 8000) (hd : IsTms w s n cap d) (hp : kinT.may x = true) :
    Calls Try.prog 12 #[.slice s n cap, .agg #[.int .i64 x.e, .int .i64 x.d, .int .i64 x.x, .int .i64 x.y, .int .i64 x.z]] w fun e w' => ∃ v, e = .returned v ∧ Grow w w' ∧ IsAddT (chainO kinT (d ++ [x])) (true && !coverB kinT d x) v w' := by
  obtain ⟨q, hq⟩ : ∃ q, coverB kinT d x = q := ⟨_, rfl⟩
  rw [hq]
  have HP := hide hp
  have HQ := hide hq
  have G0 : Hid (Grow w (w.alloc (.cells #[.int .i64 x.e, .int .i64 x.d, .int .i64 x.x, .int .i64 x.y, .int .i64 x.z] 25))) := hide (Grow.alloc' _ _)
  have HD0 := hide (hd.later G0.out)
  have KX : Hid (Box (w.alloc (.cells #[.int .i64 x.e, .int .i64 x.d, .int .i64 x.x, .int .i64 x.y, .int .i64 x.z] 25)) w.heap.size x) := hide (Box.new _ _)
  clear hd hp hq
  go_enter Try.func12, Try.ntmps12
  go_wp2_with fail
  generalize w.alloc (.cells #[.int .i64 x.e, .int .i64 x.d, .int .i64 x.x, .int .i64 x.y, .int .i64 x.z] 25) = wa at *
  obtain ⟨x0, x1, x2, x3, x4⟩ := KX.out
  go_wp2_with fail
  refine (refMayT_at x HP.out wa).mono ?_
  rintro e wb ⟨rfl, hb⟩
  have G1 := hide (Grow.trans' G0.out hb)
  have HD1 := hide (HD0.out.later hb)
  have KX0 := hide (KX.out.later hb)
  clear hb x0 x1 x2 x3 x4 KX HD0 G0
  obtain ⟨x0, x1, x2, x3, x4⟩ := KX0.out
  go_wp2_with fail
  refine (refCovT_any s n cap d x HQ.out wb (by omega) HD1.out).mono ?_
  rintro e w0 ⟨rfl, hb⟩
  have G2 := hide (Grow.trans' G1.out hb)
  have HD := hide (HD1.out.later hb)
  have KX1 := hide (KX0.out.later hb)
  clear hb x0 x1 x2 x3 x4 KX0 HD1 G1
  go_wp2_with fail
  let FF : Nat → Value → World → Prop := fun i vF wF => match i with | 0 => LitT w0.heap.size vF wF | 1 => vF = .slice s n cap | 2 => OwnRowT w0.heap.size d vF wF | 3 => vF = .agg #[.int .i64 x.e, .int .i64 x.d, .int .i64 x.x, .int .i64 x.y, .int .i64 x.z] | 4 => IsRowT [x] vF wF | 5 => OwnRowT w0.heap.size (d ++ [x]) vF wF | 6 => IsRowT (chainO kinT (d ++ [x])) vF wF | 7 => vF = .bool true | 8 => vF = .bool true | 9 => vF = .bool q | 10 => vF = .bool !q | 11 => vF = .bool !q | 12 => IsRowT (chainO kinT (d ++ [x])) vF wF | 13 => vF = .bool !q | _ => True
  have hstab : ∀ k v w1 w2, Grow w1 w2 → FF k v w1 → FF k v w2 := by
    intro k v w1 w2 hg h
    match k with
    | 0 => exact LitT.later hg h
    | 1 => exact h
    | 2 => exact OwnRowT.later hg h
    | 3 => exact h
    | 4 => exact IsRowT.later hg h
    | 5 => exact OwnRowT.later hg h
    | 6 => exact IsRowT.later hg h
    | 7 => exact h
    | 8 => exact h
    | 9 => exact h
    | 10 => exact h
    | 11 => exact h
    | 12 => exact IsRowT.later hg h
    | 13 => exact h
    | k + 14 => exact trivial
  refine wp_region_invK FF (fun i => match i with | 0 => some 2 | 2 => some 5 | 4 => some 5 | _ => none) (by kernel_rfl) (by kernel_rfl) ?_ ?_
  · refine ⟨?_, ?_, ?_, ?_, ?_, ?_, ?_, ?_, ?_, ?_, ?_, ?_, ?_, ?_, trivial⟩
    · refine stepK_run hstab trivial (by intro j b h; cases h) ?_
      intro a' w' hg hs hd
      have ec : ∀ v, a'.eval (.const v) = v := fun _ => rfl
      have ef : ∀ g, a'.eval (.func g) = .func (.func g) #[] #[] := fun _ => rfl
      clear hd hs
      refine wpv (v := .slice (some ⟨w'.heap.size, 0, none⟩) 0 0) (w' := w'.alloc (.cells #[] 25)) ?_ ⟨_, rfl, Grow.alloc' _ _, litT_new _ w0.heap.size hg.size⟩
      (generalize a'.eval = ev at ec ef ⊢; simp [execOp, go_sem, *])
    · refine stepK_run hstab trivial (by intro j b h; cases h) ?_
      intro a' w' hg hs hd
      have e0 : a'.eval (.tmp 0) = .slice s n cap := hs.rest 0 rfl
      have ec : ∀ v, a'.eval (.const v) = v := fun _ => rfl
      have ef : ∀ g, a'.eval (.func g) = .func (.func g) #[] #[] := fun _ => rfl
      clear hd hs
      refine wpv (v := .slice s n cap) ?_ ⟨_, rfl, Grow.rfl' _, rfl⟩
      (generalize a'.eval = ev at ec ef e0 ⊢; simp [execOp, go_sem, *])
    · refine stepK_run hstab trivial (by intro j b h; cases h) ?_
      intro a' w' hg hs hd
      obtain ⟨g13, e13, h13⟩ : LitT w0.heap.size (a'.eval (.tmp 13)) w' := hd ⟨0, Ground.data⟩ (by simp) rfl rfl
      have e14 : a'.eval (.tmp 14) = .slice s n cap := hd ⟨1, Ground.data⟩ (by simp) rfl rfl
      have ec : ∀ v, a'.eval (.const v) = v := fun _ => rfl
      have ef : ∀ g, a'.eval (.func g) = .func (.func g) #[] #[] := fun _ => rfl
      clear hd hs
      obtain ⟨s2, c2, w2, hrun, hown, hgb⟩ := run_ap0_tm w' 22 w0.heap.size g13 d h13 s n cap (HD.out.later hg) (by omega) hg.size
      refine wpv (v := .slice s2 _ c2) (w' := w2) ?_ ⟨_, rfl, hgb, ⟨s2, _, c2, rfl, hown⟩⟩
      unfold execOp; simp only [resolve, invoke, builtin, Sem.run_bind, Sem.run_pure, Result.andThen_ok, List.map_toArray, List.map_cons, List.map_nil, e13, e14, hrun]
    · refine stepK_run hstab trivial (by intro j b h; cases h) ?_
      intro a' w' hg hs hd
      have e3 : a'.eval (.tmp 3) = .pointer (some ⟨w.heap.size, 0, none⟩) := hs.rest 3 rfl
      have ec : ∀ v, a'.eval (.const v) = v := fun _ => rfl
      have ef : ∀ g, a'.eval (.func g) = .func (.func g) #[] #[] := fun _ => rfl
      clear hd hs
      obtain ⟨x0, x1, x2, x3, x4⟩ := KX1.out.later hg
      refine wpv (v := .agg #[.int .i64 x.e, .int .i64 x.d, .int .i64 x.x, .int .i64 x.y, .int .i64 x.z]) ?_ ⟨_, rfl, Grow.rfl' _, rfl⟩
      (generalize a'.eval = ev at ec ef e3 ⊢; simp [execOp, go_sem, *])
    · refine stepK_run hstab trivial (by intro j b h; cases h) ?_
      intro a' w' hg hs hd
      have e16 : a'.eval (.tmp 16) = .agg #[.int .i64 x.e, .int .i64 x.d, .int .i64 x.x, .int .i64 x.y, .int .i64 x.z] := hd ⟨3, Ground.data⟩ (by simp) rfl rfl
      have ec : ∀ v, a'.eval (.const v) = v := fun _ => rfl
      have ef : ∀ g, a'.eval (.func g) = .func (.func g) #[] #[] := fun _ => rfl
      clear hd hs
      refine wpv (v := .slice (some ⟨w'.heap.size, 0, none⟩) 1 1) (w' := w'.alloc ((.cells #[.int .i64 x.e, .int .i64 x.d, .int .i64 x.x, .int .i64 x.y, .int .i64 x.z] 25))) ?_ ⟨_, rfl, Grow.alloc' _ _, isRowT_one _ x⟩
      (generalize a'.eval = ev at ec ef e16 ⊢; simp [execOp, go_sem, *])
    · refine stepK_take rfl ?_
      intro a' w' hg hs hd
      obtain ⟨sc15, nc15, cc15, e15, h15⟩ : OwnRowT w0.heap.size d (a'.eval (.tmp 15)) w' := hd ⟨2, Ground.data⟩ (by simp) rfl rfl
      obtain ⟨sb17, nb17, cb17, e17, h17⟩ : IsRowT [x] (a'.eval (.tmp 17)) w' := hd ⟨4, Ground.data⟩ (by simp) rfl rfl
      have ec : ∀ v, a'.eval (.const v) = v := fun _ => rfl
      have ef : ∀ g, a'.eval (.func g) = .func (.func g) #[] #[] := fun _ => rfl
      clear hd hs
      obtain ⟨s2, c2, w2, hrun, hown, hgb⟩ := run_apv_tm w' 22 w0.heap.size sc15 nc15 cc15 d [x] h15 sb17 nb17 cb17 h17 (by have a1 := h15.1; have a2 := HD.out.1; have a3 := h17.1; simp at a3; omega) hg.size
      refine wpv (v := .slice s2 _ c2) (w' := w2) ?_ ⟨_, rfl, hgb.grow hg (Nat.le_refl _), ⟨s2, _, c2, rfl, hown⟩, ?_⟩
      rotate_left
      · intro j u hj h
        match j with
        | 0 => cases hj
        | 1 => exact h
        | 2 => cases hj
        | 3 => exact h
        | 4 => cases hj
        | 5 => cases hj
        | 6 => cases hj
        | 7 => exact h
        | 8 => exact h
        | 9 => exact h
        | 10 => exact h
        | 11 => exact h
        | 12 => cases hj
        | 13 => exact h
        | j + 14 => exact trivial
      · unfold execOp; simp only [resolve, invoke, builtin, Sem.run_bind, Sem.run_pure, Result.andThen_ok, List.map_toArray, List.map_cons, List.map_nil, e15, e17, hrun]
    · refine stepK_run hstab trivial (by intro j b h; cases h) ?_
      intro a' w' hg hs hd
      obtain ⟨sa18, na18, ca18, e18, h18⟩ : OwnRowT w0.heap.size (d ++ [x]) (a'.eval (.tmp 18)) w' := hd ⟨5, Ground.data⟩ (by simp) rfl rfl
      have ec : ∀ v, a'.eval (.const v) = v := fun _ => rfl
      have ef : ∀ g, a'.eval (.func g) = .func (.func g) #[] #[] := fun _ => rfl
      clear hd hs
      refine wpc ?_ (Calls.mono (refTimes_any sa18 na18 ca18 (d ++ [x]) w' (by have a1 := h18.1; have a2 := HD.out.1; simp at a1; omega) h18.is) fun e w2 ⟨v, he, hb, hv⟩ => ⟨v, he, _, rfl, hb, hv⟩)
      (generalize a'.eval = ev at ec ef e18 ⊢; simp [execOp, go_sem, *])
    · refine stepK_run hstab trivial (by intro j b h; cases h) ?_
      intro a' w' hg hs hd
      have e6 : a'.eval (.tmp 6) = .bool true := hs.rest 6 rfl
      have ec : ∀ v, a'.eval (.const v) = v := fun _ => rfl
      have ef : ∀ g, a'.eval (.func g) = .func (.func g) #[] #[] := fun _ => rfl
      clear hd hs
      refine wpv (v := .bool true) ?_ ⟨_, rfl, Grow.rfl' _, rfl⟩
      (generalize a'.eval = ev at ec ef e6 ⊢; simp [execOp, go_sem, *])
    · refine stepK_run hstab trivial (by intro j b h; cases h) ?_
      intro a' w' hg hs hd
      have e20 : a'.eval (.tmp 20) = .bool true := hd ⟨7, Ground.data⟩ (by simp) rfl rfl
      have ec : ∀ v, a'.eval (.const v) = v := fun _ => rfl
      have ef : ∀ g, a'.eval (.func g) = .func (.func g) #[] #[] := fun _ => rfl
      clear hd hs
      refine wpv (v := .bool true) ?_ ⟨_, rfl, Grow.rfl' _, rfl⟩
      (generalize a'.eval = ev at ec ef e20 ⊢; simp [execOp, go_sem, *])
    · refine stepK_run hstab ⟨⟨⟨8, Ground.guard⟩, by simp, rfl, rfl⟩, fun _ _ h => h⟩ (by intro j b h; cases h; rfl) ?_
      intro a' w' hg hs hd
      have e7 : a'.eval (.tmp 7) = .bool q := hs.rest 7 rfl
      have ec : ∀ v, a'.eval (.const v) = v := fun _ => rfl
      have ef : ∀ g, a'.eval (.func g) = .func (.func g) #[] #[] := fun _ => rfl
      clear hd hs
      refine wpv (v := .bool q) ?_ ⟨_, rfl, Grow.rfl' _, rfl⟩
      (generalize a'.eval = ev at ec ef e7 ⊢; simp [execOp, go_sem, *])
    · refine stepK_run hstab ⟨⟨⟨8, Ground.guard⟩, by simp, rfl, rfl⟩, fun _ _ h => h⟩ (by intro j b h; cases h; rfl) ?_
      intro a' w' hg hs hd
      have e22 : a'.eval (.tmp 22) = .bool q := hd ⟨9, Ground.data⟩ (by simp) rfl rfl
      have ec : ∀ v, a'.eval (.const v) = v := fun _ => rfl
      have ef : ∀ g, a'.eval (.func g) = .func (.func g) #[] #[] := fun _ => rfl
      clear hd hs
      refine wpv (v := .bool !q) ?_ ⟨_, rfl, Grow.rfl' _, rfl⟩
      (generalize a'.eval = ev at ec ef e22 ⊢; simp [execOp, go_sem, *])
    · refine stepK_run hstab trivial (by intro j b h; cases h) ?_
      intro a' w' hg hs hd
      have e21 : a'.eval (.tmp 21) = .bool true := hd ⟨8, Ground.data⟩ (by simp) rfl rfl
      have e23 : a'.eval (.tmp 23) = .bool !q := hd ⟨10, Ground.data⟩ (by simp) rfl rfl
      have ec : ∀ v, a'.eval (.const v) = v := fun _ => rfl
      have ef : ∀ g, a'.eval (.func g) = .func (.func g) #[] #[] := fun _ => rfl
      clear hd hs
      refine wpv (v := .bool !q) ?_ ⟨_, rfl, Grow.rfl' _, rfl⟩
      (generalize a'.eval = ev at ec ef e21 e23 ⊢; simp [execOp, go_sem, *])
    · refine stepK_run hstab trivial (by intro j b h; cases h) ?_
      intro a' w' hg hs hd
      have hq : IsRowT (chainO kinT (d ++ [x])) (a'.eval (.tmp 19)) w' := hd ⟨6, Ground.data⟩ (by simp) rfl rfl
      have ec : ∀ v, a'.eval (.const v) = v := fun _ => rfl
      have ef : ∀ g, a'.eval (.func g) = .func (.func g) #[] #[] := fun _ => rfl
      clear hd hs
      refine wpv (v := a'.eval (.tmp 19)) ?_ ⟨_, rfl, Grow.rfl' _, hq⟩
      simp [execOp, go_sem]
    · refine stepK_run hstab trivial (by intro j b h; cases h) ?_
      intro a' w' hg hs hd
      have e24 : a'.eval (.tmp 24) = .bool !q := hd ⟨11, Ground.data⟩ (by simp) rfl rfl
      have ec : ∀ v, a'.eval (.const v) = v := fun _ => rfl
      have ef : ∀ g, a'.eval (.func g) = .func (.func g) #[] #[] := fun _ => rfl
      clear hd hs
      refine wpv (v := .bool !q) ?_ ⟨_, rfl, Grow.rfl' _, rfl⟩
      (generalize a'.eval = ev at ec ef e24 ⊢; simp [execOp, go_sem, *])
  · intro a' w' hg hs hd
    obtain ⟨sf, nf, cf, e4, h4⟩ : IsRowT (chainO kinT (d ++ [x])) (a'.eval (.tmp 4)) w' := hd 12 (by simp) (by intro k h; cases h)
    have e5 : a'.eval (.tmp 5) = .bool (true && !q) := hd 13 (by simp) (by intro k h; cases h)
    go_wp2_with fail
    refine bodyPost_ret (v := .tuple #[.slice sf nf cf, .bool (true && !q)]) ?_ (by rw [hs.defers]) ⟨_, rfl, Grow.trans' G2.out hg, sf, nf, cf, rfl, h4⟩
    clear hd hs hstab
    simp [Act.eval] at e4 e5
    simp [results, Try.results12, go_sem]
    exact ⟨e4, e5⟩
theorem refAddT_any (s : Option Addr) (n cap : Nat) (d : List Tm) (x : Tm) (w : World) (hbig : n ≤ 8000) (hd : IsTms w s n cap d) :
    Calls Try.prog 12 #[.slice s n cap, .agg #[.int .i64 x.e, .int .i64 x.d, .int .i64 x.x, .int .i64 x.y, .int .i64 x.z]] w fun e w' => ∃ v, e = .returned v ∧ Grow w w' ∧ IsAddT (chainO kinT (d ++ [x])) (kinT.may x && !coverB kinT d x) v w' := by
  cases hp : kinT.may x
  · exact refAddT_false s n cap d x w hbig hd hp
  · exact refAddT_true s n cap d x w hbig hd hp

end Go.Proofs.Ytkpecibbpogedaa
