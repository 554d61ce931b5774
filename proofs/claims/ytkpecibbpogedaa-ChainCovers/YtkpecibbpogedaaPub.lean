/-
  What chain's own functions do to the world: Times, Sums, Covers, CoversSum, Add, AddSum of every row; what was there stays as it was.
-/
import Derived.Test.YtkpecibbpogedaaAdd
namespace Go.Proofs.Ytkpecibbpogedaa
set_option maxRecDepth 100000
open Go.RowKit
set_option linter.unusedVariables false

set_option maxHeartbeats 400000 in
theorem chainT_any (s : Option Addr) (n cap : Nat) (d : List Tm) (w : World) (hbig : n ≤ 100000) (hd : IsTms w s n cap d) :
    Calls Try.prog 14 #[.slice s n cap] w fun e w' => ∃ v, e = .returned v ∧ Grow w w' ∧ IsRowT (chainO kinT d) v w' := by
  have HD := hide hd
  clear hd
  go_enter Try.func14, Try.ntmps14
  go_wp2_with fail
  refine (mkT_any _).mono ?_
  rintro e w1 ⟨rfl, hb⟩
  have G := hide hb
  have H1 := hide (HD.out.later hb)
  clear hb
  go_wp2_with fail
  refine (lowT_row s n cap d w1 hbig H1.out).mono ?_
  rintro e w2 ⟨v, rfl, hb, hr⟩
  obtain ⟨s', m, c', rfl, hI⟩ := hr
  have G2 := hide (Grow.trans' G.out hb)
  have H2 := hide hI
  clear hb hI
  go_wp2_with fail
  go_ret
  exact ⟨_, rfl, G2.out, s', m, c', rfl, H2.out⟩

set_option maxHeartbeats 400000 in
theorem chainM_any (s : Option Addr) (n cap : Nat) (d : List Sm) (w : World) (hbig : n ≤ 100000) (hd : IsSms w s n cap d) :
    Calls Try.prog 22 #[.slice s n cap] w fun e w' => ∃ v, e = .returned v ∧ Grow w w' ∧ IsRowM (chainO kinS d) v w' := by
  have HD := hide hd
  clear hd
  go_enter Try.func22, Try.ntmps22
  go_wp2_with fail
  refine (mkM_any _).mono ?_
  rintro e w1 ⟨rfl, hb⟩
  have G := hide hb
  have H1 := hide (HD.out.later hb)
  clear hb
  go_wp2_with fail
  refine (lowM_row s n cap d w1 hbig H1.out).mono ?_
  rintro e w2 ⟨v, rfl, hb, hr⟩
  obtain ⟨s', m, c', rfl, hI⟩ := hr
  have G2 := hide (Grow.trans' G.out hb)
  have H2 := hide hI
  clear hb hI
  go_wp2_with fail
  go_ret
  exact ⟨_, rfl, G2.out, s', m, c', rfl, H2.out⟩

set_option maxHeartbeats 1000000 in
theorem coversT_any (s : Option Addr) (n cap : Nat) (d : List Tm) (x : Tm) {p : Bool} (hp : coverB kinT d x = p) (w : World) (hbig : n ≤ 1000000) (hd : IsTms w s n cap d) :
    Calls Try.prog 16 #[.slice s n cap, .agg #[.int .i64 x.e, .int .i64 x.d, .int .i64 x.x, .int .i64 x.y, .int .i64 x.z]] w fun e w' => e = .returned (.bool p) ∧ Grow w w' := by
  have HP := hide hp
  have G0 : Hid (Grow w (w.alloc (.cells #[.int .i64 x.e, .int .i64 x.d, .int .i64 x.x, .int .i64 x.y, .int .i64 x.z] 25))) := hide (Grow.alloc' _ _)
  have HD := hide (hd.later G0.out)
  have KX : Hid (Box (w.alloc (.cells #[.int .i64 x.e, .int .i64 x.d, .int .i64 x.x, .int .i64 x.y, .int .i64 x.z] 25)) w.heap.size x) := hide (Box.new _ _)
  clear hd hp
  go_enter Try.func16, Try.ntmps16
  go_wp2_with fail
  generalize w.alloc (.cells #[.int .i64 x.e, .int .i64 x.d, .int .i64 x.x, .int .i64 x.y, .int .i64 x.z] 25) = w0 at *
  let FF : Nat → Value → World → Prop := fun i vF wF => match i with | 0 => vF = .agg #[.func (.func 48) #[] #[], .func (.func 49) #[] #[], .func (.func 50) #[] #[]] | 1 => vF = .slice s n cap | 2 => vF = .agg #[.int .i64 x.e, .int .i64 x.d, .int .i64 x.x, .int .i64 x.y, .int .i64 x.z] | 3 => vF = .bool p | 4 => vF = .bool p | _ => True
  have hstab : ∀ k v w1 w2, Grow w1 w2 → FF k v w1 → FF k v w2 := by
    intro k v w1 w2 hg h
    match k with
    | 0 => exact h
    | 1 => exact h
    | 2 => exact h
    | 3 => exact h
    | 4 => exact h
    | k + 5 => exact trivial
  refine wp_region_invK FF (fun _ => none) (by kernel_rfl) (by kernel_rfl) ?_ ?_
  · refine ⟨?_, ?_, ?_, ?_, ?_, trivial⟩
    · refine stepK_run hstab trivial (by intro j b h; cases h) ?_
      intro a' w' hg hs hd
      have ec : ∀ v, a'.eval (.const v) = v := fun _ => rfl
      have ef : ∀ g, a'.eval (.func g) = .func (.func g) #[] #[] := fun _ => rfl
      clear hd hs
      refine wpc ?_ (Calls.mono (mkT_any w') fun e w2 ⟨he, hb⟩ => ⟨_, he, _, rfl, hb, rfl⟩)
      (generalize a'.eval = ev at ec ef ⊢; simp [execOp, go_sem, *])
    · refine stepK_run hstab trivial (by intro j b h; cases h) ?_
      intro a' w' hg hs hd
      have e0 : a'.eval (.tmp 0) = .slice s n cap := hs.rest 0 rfl
      have ec : ∀ v, a'.eval (.const v) = v := fun _ => rfl
      have ef : ∀ g, a'.eval (.func g) = .func (.func g) #[] #[] := fun _ => rfl
      clear hd hs
      refine wpv (v := .slice s n cap) ?_ ⟨_, rfl, Grow.rfl' _, rfl⟩
      (generalize a'.eval = ev at ec ef e0 ⊢; simp [execOp, go_sem, *])
    · refine stepK_run hstab trivial (by intro j b h; cases h) ?_
      intro a' w' hg hs hd
      have e3 : a'.eval (.tmp 3) = .pointer (some ⟨w.heap.size, 0, none⟩) := hs.rest 3 rfl
      have ec : ∀ v, a'.eval (.const v) = v := fun _ => rfl
      have ef : ∀ g, a'.eval (.func g) = .func (.func g) #[] #[] := fun _ => rfl
      clear hd hs
      obtain ⟨x0, x1, x2, x3, x4⟩ := KX.out.later hg
      refine wpv (v := .agg #[.int .i64 x.e, .int .i64 x.d, .int .i64 x.x, .int .i64 x.y, .int .i64 x.z]) ?_ ⟨_, rfl, Grow.rfl' _, rfl⟩
      (generalize a'.eval = ev at ec ef e3 ⊢; simp [execOp, go_sem, *])
    · refine stepK_run hstab trivial (by intro j b h; cases h) ?_
      intro a' w' hg hs hd
      have e5 : a'.eval (.tmp 5) = .agg #[.func (.func 48) #[] #[], .func (.func 49) #[] #[], .func (.func 50) #[] #[]] := hd ⟨0, Ground.data⟩ (by simp) rfl rfl
      have e6 : a'.eval (.tmp 6) = .slice s n cap := hd ⟨1, Ground.data⟩ (by simp) rfl rfl
      have e7 : a'.eval (.tmp 7) = .agg #[.int .i64 x.e, .int .i64 x.d, .int .i64 x.x, .int .i64 x.y, .int .i64 x.z] := hd ⟨2, Ground.data⟩ (by simp) rfl rfl
      have ec : ∀ v, a'.eval (.const v) = v := fun _ => rfl
      have ef : ∀ g, a'.eval (.func g) = .func (.func g) #[] #[] := fun _ => rfl
      clear hd hs
      refine wpc ?_ (Calls.mono (covT_at s n cap d x HP.out w' (by omega) (HD.out.later hg)) fun e w2 ⟨he, hb⟩ => ⟨_, he, _, rfl, hb, rfl⟩)
      (generalize a'.eval = ev at ec ef e5 e6 e7 ⊢; simp [execOp, go_sem, *])
    · refine stepK_run hstab trivial (by intro j b h; cases h) ?_
      intro a' w' hg hs hd
      have e8 : a'.eval (.tmp 8) = .bool p := hd ⟨3, Ground.data⟩ (by simp) rfl rfl
      have ec : ∀ v, a'.eval (.const v) = v := fun _ => rfl
      have ef : ∀ g, a'.eval (.func g) = .func (.func g) #[] #[] := fun _ => rfl
      clear hd hs
      refine wpv (v := .bool p) ?_ ⟨_, rfl, Grow.rfl' _, rfl⟩
      (generalize a'.eval = ev at ec ef e8 ⊢; simp [execOp, go_sem, *])
  · intro a' w' hg hs hd
    have e4 : a'.eval (.tmp 4) = .bool p := hd 4 (by simp) (by intro k h; cases h)
    go_wp2_with fail
    refine bodyPost_ret (v := .bool p) ?_ (by rw [hs.defers]) ⟨rfl, Grow.trans' G0.out hg⟩
    clear hd hs hstab
    simpa [results, Try.results16, Act.eval] using e4
set_option maxHeartbeats 1000000 in
theorem coversM_any (s : Option Addr) (n cap : Nat) (d : List Sm) (x : Sm) {p : Bool} (hp : coverB kinS d x = p) (w : World) (hbig : n ≤ 1000000) (hd : IsSms w s n cap d) :
    Calls Try.prog 24 #[.slice s n cap, .agg #[.int .i64 x.f, .int .i64 x.t, .int .i64 x.k, .int .i64 x.ep, .int .i64 x.x, .int .i64 x.y, .int .i64 x.z]] w fun e w' => e = .returned (.bool p) ∧ Grow w w' := by
  have HP := hide hp
  have G0 : Hid (Grow w (w.alloc (.cells #[.int .i64 x.f, .int .i64 x.t, .int .i64 x.k, .int .i64 x.ep, .int .i64 x.x, .int .i64 x.y, .int .i64 x.z] 34))) := hide (Grow.alloc' _ _)
  have HD := hide (hd.later G0.out)
  have KX : Hid (SBox (w.alloc (.cells #[.int .i64 x.f, .int .i64 x.t, .int .i64 x.k, .int .i64 x.ep, .int .i64 x.x, .int .i64 x.y, .int .i64 x.z] 34)) w.heap.size x) := hide (SBox.new _ _)
  clear hd hp
  go_enter Try.func24, Try.ntmps24
  go_wp2_with fail
  generalize w.alloc (.cells #[.int .i64 x.f, .int .i64 x.t, .int .i64 x.k, .int .i64 x.ep, .int .i64 x.x, .int .i64 x.y, .int .i64 x.z] 34) = w0 at *
  let FF : Nat → Value → World → Prop := fun i vF wF => match i with | 0 => vF = .agg #[.func (.func 56) #[] #[], .func (.func 57) #[] #[], .func (.func 58) #[] #[]] | 1 => vF = .slice s n cap | 2 => vF = .agg #[.int .i64 x.f, .int .i64 x.t, .int .i64 x.k, .int .i64 x.ep, .int .i64 x.x, .int .i64 x.y, .int .i64 x.z] | 3 => vF = .bool p | 4 => vF = .bool p | _ => True
  have hstab : ∀ k v w1 w2, Grow w1 w2 → FF k v w1 → FF k v w2 := by
    intro k v w1 w2 hg h
    match k with
    | 0 => exact h
    | 1 => exact h
    | 2 => exact h
    | 3 => exact h
    | 4 => exact h
    | k + 5 => exact trivial
  refine wp_region_invK FF (fun _ => none) (by kernel_rfl) (by kernel_rfl) ?_ ?_
  · refine ⟨?_, ?_, ?_, ?_, ?_, trivial⟩
    · refine stepK_run hstab trivial (by intro j b h; cases h) ?_
      intro a' w' hg hs hd
      have ec : ∀ v, a'.eval (.const v) = v := fun _ => rfl
      have ef : ∀ g, a'.eval (.func g) = .func (.func g) #[] #[] := fun _ => rfl
      clear hd hs
      refine wpc ?_ (Calls.mono (mkM_any w') fun e w2 ⟨he, hb⟩ => ⟨_, he, _, rfl, hb, rfl⟩)
      (generalize a'.eval = ev at ec ef ⊢; simp [execOp, go_sem, *])
    · refine stepK_run hstab trivial (by intro j b h; cases h) ?_
      intro a' w' hg hs hd
      have e0 : a'.eval (.tmp 0) = .slice s n cap := hs.rest 0 rfl
      have ec : ∀ v, a'.eval (.const v) = v := fun _ => rfl
      have ef : ∀ g, a'.eval (.func g) = .func (.func g) #[] #[] := fun _ => rfl
      clear hd hs
      refine wpv (v := .slice s n cap) ?_ ⟨_, rfl, Grow.rfl' _, rfl⟩
      (generalize a'.eval = ev at ec ef e0 ⊢; simp [execOp, go_sem, *])
    · refine stepK_run hstab trivial (by intro j b h; cases h) ?_
      intro a' w' hg hs hd
      have e3 : a'.eval (.tmp 3) = .pointer (some ⟨w.heap.size, 0, none⟩) := hs.rest 3 rfl
      have ec : ∀ v, a'.eval (.const v) = v := fun _ => rfl
      have ef : ∀ g, a'.eval (.func g) = .func (.func g) #[] #[] := fun _ => rfl
      clear hd hs
      obtain ⟨x0, x1, x2, x3, x4, x5, x6⟩ := KX.out.later hg
      refine wpv (v := .agg #[.int .i64 x.f, .int .i64 x.t, .int .i64 x.k, .int .i64 x.ep, .int .i64 x.x, .int .i64 x.y, .int .i64 x.z]) ?_ ⟨_, rfl, Grow.rfl' _, rfl⟩
      (generalize a'.eval = ev at ec ef e3 ⊢; simp [execOp, go_sem, *])
    · refine stepK_run hstab trivial (by intro j b h; cases h) ?_
      intro a' w' hg hs hd
      have e5 : a'.eval (.tmp 5) = .agg #[.func (.func 56) #[] #[], .func (.func 57) #[] #[], .func (.func 58) #[] #[]] := hd ⟨0, Ground.data⟩ (by simp) rfl rfl
      have e6 : a'.eval (.tmp 6) = .slice s n cap := hd ⟨1, Ground.data⟩ (by simp) rfl rfl
      have e7 : a'.eval (.tmp 7) = .agg #[.int .i64 x.f, .int .i64 x.t, .int .i64 x.k, .int .i64 x.ep, .int .i64 x.x, .int .i64 x.y, .int .i64 x.z] := hd ⟨2, Ground.data⟩ (by simp) rfl rfl
      have ec : ∀ v, a'.eval (.const v) = v := fun _ => rfl
      have ef : ∀ g, a'.eval (.func g) = .func (.func g) #[] #[] := fun _ => rfl
      clear hd hs
      refine wpc ?_ (Calls.mono (covM_at s n cap d x HP.out w' (by omega) (HD.out.later hg)) fun e w2 ⟨he, hb⟩ => ⟨_, he, _, rfl, hb, rfl⟩)
      (generalize a'.eval = ev at ec ef e5 e6 e7 ⊢; simp [execOp, go_sem, *])
    · refine stepK_run hstab trivial (by intro j b h; cases h) ?_
      intro a' w' hg hs hd
      have e8 : a'.eval (.tmp 8) = .bool p := hd ⟨3, Ground.data⟩ (by simp) rfl rfl
      have ec : ∀ v, a'.eval (.const v) = v := fun _ => rfl
      have ef : ∀ g, a'.eval (.func g) = .func (.func g) #[] #[] := fun _ => rfl
      clear hd hs
      refine wpv (v := .bool p) ?_ ⟨_, rfl, Grow.rfl' _, rfl⟩
      (generalize a'.eval = ev at ec ef e8 ⊢; simp [execOp, go_sem, *])
  · intro a' w' hg hs hd
    have e4 : a'.eval (.tmp 4) = .bool p := hd 4 (by simp) (by intro k h; cases h)
    go_wp2_with fail
    refine bodyPost_ret (v := .bool p) ?_ (by rw [hs.defers]) ⟨rfl, Grow.trans' G0.out hg⟩
    clear hd hs hstab
    simpa [results, Try.results24, Act.eval] using e4
theorem addT_at (s : Option Addr) (n cap : Nat) (d : List Tm) (x : Tm) {p : Bool} (hp : p = (kinT.may x && !coverB kinT d x)) (w : World) (hbig : n ≤ 90000) (hd : IsTms w s n cap d) :
    Calls Try.prog 33 #[.agg #[.func (.func 48) #[] #[], .func (.func 49) #[] #[], .func (.func 50) #[] #[]], .slice s n cap, .agg #[.int .i64 x.e, .int .i64 x.d, .int .i64 x.x, .int .i64 x.y, .int .i64 x.z]] w
      fun e w' => ∃ v, e = .returned v ∧ Grow w w' ∧ IsAddT (chainO kinT (d ++ [x])) p v w' := by
  rw [hp]; exact addT_any s n cap d x w hbig hd
set_option maxHeartbeats 1000000 in
theorem moreT_any (s : Option Addr) (n cap : Nat) (d : List Tm) (x : Tm) (w : World) (hbig : n ≤ 90000) (hd : IsTms w s n cap d) :
    Calls Try.prog 11 #[.slice s n cap, .agg #[.int .i64 x.e, .int .i64 x.d, .int .i64 x.x, .int .i64 x.y, .int .i64 x.z]] w fun e w' => ∃ v, e = .returned v ∧ Grow w w' ∧ IsAddT (chainO kinT (d ++ [x])) (kinT.may x && !coverB kinT d x) v w' := by
  obtain ⟨p, hp⟩ : ∃ p, p = (kinT.may x && !coverB kinT d x) := ⟨_, rfl⟩
  rw [← hp]
  have HP := hide hp
  have G0 : Hid (Grow w (w.alloc (.cells #[.int .i64 x.e, .int .i64 x.d, .int .i64 x.x, .int .i64 x.y, .int .i64 x.z] 25))) := hide (Grow.alloc' _ _)
  have HD := hide (hd.later G0.out)
  have KX : Hid (Box (w.alloc (.cells #[.int .i64 x.e, .int .i64 x.d, .int .i64 x.x, .int .i64 x.y, .int .i64 x.z] 25)) w.heap.size x) := hide (Box.new _ _)
  clear hd hp
  go_enter Try.func11, Try.ntmps11
  go_wp2_with fail
  generalize w.alloc (.cells #[.int .i64 x.e, .int .i64 x.d, .int .i64 x.x, .int .i64 x.y, .int .i64 x.z] 25) = w0 at *
  let FF : Nat → Value → World → Prop := fun i vF wF => match i with | 0 => vF = .agg #[.func (.func 48) #[] #[], .func (.func 49) #[] #[], .func (.func 50) #[] #[]] | 1 => vF = .slice s n cap | 2 => vF = .agg #[.int .i64 x.e, .int .i64 x.d, .int .i64 x.x, .int .i64 x.y, .int .i64 x.z] | 3 => IsAddT (chainO kinT (d ++ [x])) p vF wF | 4 => IsRowT (chainO kinT (d ++ [x])) vF wF | 5 => vF = .bool p | 6 => IsRowT (chainO kinT (d ++ [x])) vF wF | 7 => vF = .bool p | _ => True
  have hstab : ∀ k v w1 w2, Grow w1 w2 → FF k v w1 → FF k v w2 := by
    intro k v w1 w2 hg h
    match k with
    | 0 => exact h
    | 1 => exact h
    | 2 => exact h
    | 3 => exact IsAddT.later hg h
    | 4 => exact IsRowT.later hg h
    | 5 => exact h
    | 6 => exact IsRowT.later hg h
    | 7 => exact h
    | k + 8 => exact trivial
  refine wp_region_invK FF (fun _ => none) (by kernel_rfl) (by kernel_rfl) ?_ ?_
  · refine ⟨?_, ?_, ?_, ?_, ?_, ?_, ?_, ?_, trivial⟩
    · refine stepK_run hstab trivial (by intro j b h; cases h) ?_
      intro a' w' hg hs hd
      have ec : ∀ v, a'.eval (.const v) = v := fun _ => rfl
      have ef : ∀ g, a'.eval (.func g) = .func (.func g) #[] #[] := fun _ => rfl
      clear hd hs
      refine wpc ?_ (Calls.mono (mkT_any w') fun e w2 ⟨he, hb⟩ => ⟨_, he, _, rfl, hb, rfl⟩)
      (generalize a'.eval = ev at ec ef ⊢; simp [execOp, go_sem, *])
    · refine stepK_run hstab trivial (by intro j b h; cases h) ?_
      intro a' w' hg hs hd
      have e0 : a'.eval (.tmp 0) = .slice s n cap := hs.rest 0 rfl
      have ec : ∀ v, a'.eval (.const v) = v := fun _ => rfl
      have ef : ∀ g, a'.eval (.func g) = .func (.func g) #[] #[] := fun _ => rfl
      clear hd hs
      refine wpv (v := .slice s n cap) ?_ ⟨_, rfl, Grow.rfl' _, rfl⟩
      (generalize a'.eval = ev at ec ef e0 ⊢; simp [execOp, go_sem, *])
    · refine stepK_run hstab trivial (by intro j b h; cases h) ?_
      intro a' w' hg hs hd
      have e3 : a'.eval (.tmp 3) = .pointer (some ⟨w.heap.size, 0, none⟩) := hs.rest 3 rfl
      have ec : ∀ v, a'.eval (.const v) = v := fun _ => rfl
      have ef : ∀ g, a'.eval (.func g) = .func (.func g) #[] #[] := fun _ => rfl
      clear hd hs
      obtain ⟨x0, x1, x2, x3, x4⟩ := KX.out.later hg
      refine wpv (v := .agg #[.int .i64 x.e, .int .i64 x.d, .int .i64 x.x, .int .i64 x.y, .int .i64 x.z]) ?_ ⟨_, rfl, Grow.rfl' _, rfl⟩
      (generalize a'.eval = ev at ec ef e3 ⊢; simp [execOp, go_sem, *])
    · refine stepK_run hstab trivial (by intro j b h; cases h) ?_
      intro a' w' hg hs hd
      have e6 : a'.eval (.tmp 6) = .agg #[.func (.func 48) #[] #[], .func (.func 49) #[] #[], .func (.func 50) #[] #[]] := hd ⟨0, Ground.data⟩ (by simp) rfl rfl
      have e7 : a'.eval (.tmp 7) = .slice s n cap := hd ⟨1, Ground.data⟩ (by simp) rfl rfl
      have e8 : a'.eval (.tmp 8) = .agg #[.int .i64 x.e, .int .i64 x.d, .int .i64 x.x, .int .i64 x.y, .int .i64 x.z] := hd ⟨2, Ground.data⟩ (by simp) rfl rfl
      have ec : ∀ v, a'.eval (.const v) = v := fun _ => rfl
      have ef : ∀ g, a'.eval (.func g) = .func (.func g) #[] #[] := fun _ => rfl
      clear hd hs
      refine wpc ?_ (Calls.mono (addT_at s n cap d x HP.out w' hbig (HD.out.later hg)) fun e w2 ⟨v, he, hb, hv⟩ => ⟨v, he, _, rfl, hb, hv⟩)
      (generalize a'.eval = ev at ec ef e6 e7 e8 ⊢; simp [execOp, go_sem, *])
    · refine stepK_run hstab trivial (by intro j b h; cases h) ?_
      intro a' w' hg hs hd
      obtain ⟨sa9, na9, ca9, e9, h9⟩ : IsAddT (chainO kinT (d ++ [x])) p (a'.eval (.tmp 9)) w' := hd ⟨3, Ground.data⟩ (by simp) rfl rfl
      have ec : ∀ v, a'.eval (.const v) = v := fun _ => rfl
      have ef : ∀ g, a'.eval (.func g) = .func (.func g) #[] #[] := fun _ => rfl
      clear hd hs
      skip
      refine wpv (v := .slice sa9 na9 ca9) ?_ ⟨_, rfl, Grow.rfl' _, ⟨_, _, _, rfl, h9⟩⟩
      (generalize a'.eval = ev at ec ef e9 ⊢; simp [execOp, go_sem, *])
    · refine stepK_run hstab trivial (by intro j b h; cases h) ?_
      intro a' w' hg hs hd
      obtain ⟨sa9, na9, ca9, e9, h9⟩ : IsAddT (chainO kinT (d ++ [x])) p (a'.eval (.tmp 9)) w' := hd ⟨3, Ground.data⟩ (by simp) rfl rfl
      have ec : ∀ v, a'.eval (.const v) = v := fun _ => rfl
      have ef : ∀ g, a'.eval (.func g) = .func (.func g) #[] #[] := fun _ => rfl
      clear hd hs
      refine wpv (v := .bool p) ?_ ⟨_, rfl, Grow.rfl' _, rfl⟩
      (generalize a'.eval = ev at ec ef e9 ⊢; simp [execOp, go_sem, *])
    · refine stepK_run hstab trivial (by intro j b h; cases h) ?_
      intro a' w' hg hs hd
      have hq : IsRowT (chainO kinT (d ++ [x])) (a'.eval (.tmp 10)) w' := hd ⟨4, Ground.data⟩ (by simp) rfl rfl
      have ec : ∀ v, a'.eval (.const v) = v := fun _ => rfl
      have ef : ∀ g, a'.eval (.func g) = .func (.func g) #[] #[] := fun _ => rfl
      clear hd hs
      refine wpv (v := a'.eval (.tmp 10)) ?_ ⟨_, rfl, Grow.rfl' _, hq⟩
      simp [execOp, go_sem]
    · refine stepK_run hstab trivial (by intro j b h; cases h) ?_
      intro a' w' hg hs hd
      have e11 : a'.eval (.tmp 11) = .bool p := hd ⟨5, Ground.data⟩ (by simp) rfl rfl
      have ec : ∀ v, a'.eval (.const v) = v := fun _ => rfl
      have ef : ∀ g, a'.eval (.func g) = .func (.func g) #[] #[] := fun _ => rfl
      clear hd hs
      refine wpv (v := .bool p) ?_ ⟨_, rfl, Grow.rfl' _, rfl⟩
      (generalize a'.eval = ev at ec ef e11 ⊢; simp [execOp, go_sem, *])
  · intro a' w' hg hs hd
    obtain ⟨sf, nf, cf, e4, h4⟩ : IsRowT (chainO kinT (d ++ [x])) (a'.eval (.tmp 4)) w' := hd 6 (by simp) (by intro k h; cases h)
    have e5 : a'.eval (.tmp 5) = .bool p := hd 7 (by simp) (by intro k h; cases h)
    go_wp2_with fail
    refine bodyPost_ret (v := .tuple #[.slice sf nf cf, .bool p]) ?_ (by rw [hs.defers]) ⟨_, rfl, Grow.trans' G0.out hg, sf, nf, cf, rfl, h4⟩
    clear hd hs hstab
    simp [Act.eval] at e4 e5
    simp [results, Try.results11, go_sem]
    exact ⟨e4, e5⟩
theorem addM_at (s : Option Addr) (n cap : Nat) (d : List Sm) (x : Sm) {p : Bool} (hp : p = (kinS.may x && !coverB kinS d x)) (w : World) (hbig : n ≤ 90000) (hd : IsSms w s n cap d) :
    Calls Try.prog 39 #[.agg #[.func (.func 56) #[] #[], .func (.func 57) #[] #[], .func (.func 58) #[] #[]], .slice s n cap, .agg #[.int .i64 x.f, .int .i64 x.t, .int .i64 x.k, .int .i64 x.ep, .int .i64 x.x, .int .i64 x.y, .int .i64 x.z]] w
      fun e w' => ∃ v, e = .returned v ∧ Grow w w' ∧ IsAddM (chainO kinS (d ++ [x])) p v w' := by
  rw [hp]; exact addM_any s n cap d x w hbig hd
set_option maxHeartbeats 1000000 in
theorem moreM_any (s : Option Addr) (n cap : Nat) (d : List Sm) (x : Sm) (w : World) (hbig : n ≤ 90000) (hd : IsSms w s n cap d) :
    Calls Try.prog 19 #[.slice s n cap, .agg #[.int .i64 x.f, .int .i64 x.t, .int .i64 x.k, .int .i64 x.ep, .int .i64 x.x, .int .i64 x.y, .int .i64 x.z]] w fun e w' => ∃ v, e = .returned v ∧ Grow w w' ∧ IsAddM (chainO kinS (d ++ [x])) (kinS.may x && !coverB kinS d x) v w' := by
  obtain ⟨p, hp⟩ : ∃ p, p = (kinS.may x && !coverB kinS d x) := ⟨_, rfl⟩
  rw [← hp]
  have HP := hide hp
  have G0 : Hid (Grow w (w.alloc (.cells #[.int .i64 x.f, .int .i64 x.t, .int .i64 x.k, .int .i64 x.ep, .int .i64 x.x, .int .i64 x.y, .int .i64 x.z] 34))) := hide (Grow.alloc' _ _)
  have HD := hide (hd.later G0.out)
  have KX : Hid (SBox (w.alloc (.cells #[.int .i64 x.f, .int .i64 x.t, .int .i64 x.k, .int .i64 x.ep, .int .i64 x.x, .int .i64 x.y, .int .i64 x.z] 34)) w.heap.size x) := hide (SBox.new _ _)
  clear hd hp
  go_enter Try.func19, Try.ntmps19
  go_wp2_with fail
  generalize w.alloc (.cells #[.int .i64 x.f, .int .i64 x.t, .int .i64 x.k, .int .i64 x.ep, .int .i64 x.x, .int .i64 x.y, .int .i64 x.z] 34) = w0 at *
  let FF : Nat → Value → World → Prop := fun i vF wF => match i with | 0 => vF = .agg #[.func (.func 56) #[] #[], .func (.func 57) #[] #[], .func (.func 58) #[] #[]] | 1 => vF = .slice s n cap | 2 => vF = .agg #[.int .i64 x.f, .int .i64 x.t, .int .i64 x.k, .int .i64 x.ep, .int .i64 x.x, .int .i64 x.y, .int .i64 x.z] | 3 => IsAddM (chainO kinS (d ++ [x])) p vF wF | 4 => IsRowM (chainO kinS (d ++ [x])) vF wF | 5 => vF = .bool p | 6 => IsRowM (chainO kinS (d ++ [x])) vF wF | 7 => vF = .bool p | _ => True
  have hstab : ∀ k v w1 w2, Grow w1 w2 → FF k v w1 → FF k v w2 := by
    intro k v w1 w2 hg h
    match k with
    | 0 => exact h
    | 1 => exact h
    | 2 => exact h
    | 3 => exact IsAddM.later hg h
    | 4 => exact IsRowM.later hg h
    | 5 => exact h
    | 6 => exact IsRowM.later hg h
    | 7 => exact h
    | k + 8 => exact trivial
  refine wp_region_invK FF (fun _ => none) (by kernel_rfl) (by kernel_rfl) ?_ ?_
  · refine ⟨?_, ?_, ?_, ?_, ?_, ?_, ?_, ?_, trivial⟩
    · refine stepK_run hstab trivial (by intro j b h; cases h) ?_
      intro a' w' hg hs hd
      have ec : ∀ v, a'.eval (.const v) = v := fun _ => rfl
      have ef : ∀ g, a'.eval (.func g) = .func (.func g) #[] #[] := fun _ => rfl
      clear hd hs
      refine wpc ?_ (Calls.mono (mkM_any w') fun e w2 ⟨he, hb⟩ => ⟨_, he, _, rfl, hb, rfl⟩)
      (generalize a'.eval = ev at ec ef ⊢; simp [execOp, go_sem, *])
    · refine stepK_run hstab trivial (by intro j b h; cases h) ?_
      intro a' w' hg hs hd
      have e0 : a'.eval (.tmp 0) = .slice s n cap := hs.rest 0 rfl
      have ec : ∀ v, a'.eval (.const v) = v := fun _ => rfl
      have ef : ∀ g, a'.eval (.func g) = .func (.func g) #[] #[] := fun _ => rfl
      clear hd hs
      refine wpv (v := .slice s n cap) ?_ ⟨_, rfl, Grow.rfl' _, rfl⟩
      (generalize a'.eval = ev at ec ef e0 ⊢; simp [execOp, go_sem, *])
    · refine stepK_run hstab trivial (by intro j b h; cases h) ?_
      intro a' w' hg hs hd
      have e3 : a'.eval (.tmp 3) = .pointer (some ⟨w.heap.size, 0, none⟩) := hs.rest 3 rfl
      have ec : ∀ v, a'.eval (.const v) = v := fun _ => rfl
      have ef : ∀ g, a'.eval (.func g) = .func (.func g) #[] #[] := fun _ => rfl
      clear hd hs
      obtain ⟨x0, x1, x2, x3, x4, x5, x6⟩ := KX.out.later hg
      refine wpv (v := .agg #[.int .i64 x.f, .int .i64 x.t, .int .i64 x.k, .int .i64 x.ep, .int .i64 x.x, .int .i64 x.y, .int .i64 x.z]) ?_ ⟨_, rfl, Grow.rfl' _, rfl⟩
      (generalize a'.eval = ev at ec ef e3 ⊢; simp [execOp, go_sem, *])
    · refine stepK_run hstab trivial (by intro j b h; cases h) ?_
      intro a' w' hg hs hd
      have e6 : a'.eval (.tmp 6) = .agg #[.func (.func 56) #[] #[], .func (.func 57) #[] #[], .func (.func 58) #[] #[]] := hd ⟨0, Ground.data⟩ (by simp) rfl rfl
      have e7 : a'.eval (.tmp 7) = .slice s n cap := hd ⟨1, Ground.data⟩ (by simp) rfl rfl
      have e8 : a'.eval (.tmp 8) = .agg #[.int .i64 x.f, .int .i64 x.t, .int .i64 x.k, .int .i64 x.ep, .int .i64 x.x, .int .i64 x.y, .int .i64 x.z] := hd ⟨2, Ground.data⟩ (by simp) rfl rfl
      have ec : ∀ v, a'.eval (.const v) = v := fun _ => rfl
      have ef : ∀ g, a'.eval (.func g) = .func (.func g) #[] #[] := fun _ => rfl
      clear hd hs
      refine wpc ?_ (Calls.mono (addM_at s n cap d x HP.out w' hbig (HD.out.later hg)) fun e w2 ⟨v, he, hb, hv⟩ => ⟨v, he, _, rfl, hb, hv⟩)
      (generalize a'.eval = ev at ec ef e6 e7 e8 ⊢; simp [execOp, go_sem, *])
    · refine stepK_run hstab trivial (by intro j b h; cases h) ?_
      intro a' w' hg hs hd
      obtain ⟨sa9, na9, ca9, e9, h9⟩ : IsAddM (chainO kinS (d ++ [x])) p (a'.eval (.tmp 9)) w' := hd ⟨3, Ground.data⟩ (by simp) rfl rfl
      have ec : ∀ v, a'.eval (.const v) = v := fun _ => rfl
      have ef : ∀ g, a'.eval (.func g) = .func (.func g) #[] #[] := fun _ => rfl
      clear hd hs
      skip
      refine wpv (v := .slice sa9 na9 ca9) ?_ ⟨_, rfl, Grow.rfl' _, ⟨_, _, _, rfl, h9⟩⟩
      (generalize a'.eval = ev at ec ef e9 ⊢; simp [execOp, go_sem, *])
    · refine stepK_run hstab trivial (by intro j b h; cases h) ?_
      intro a' w' hg hs hd
      obtain ⟨sa9, na9, ca9, e9, h9⟩ : IsAddM (chainO kinS (d ++ [x])) p (a'.eval (.tmp 9)) w' := hd ⟨3, Ground.data⟩ (by simp) rfl rfl
      have ec : ∀ v, a'.eval (.const v) = v := fun _ => rfl
      have ef : ∀ g, a'.eval (.func g) = .func (.func g) #[] #[] := fun _ => rfl
      clear hd hs
      refine wpv (v := .bool p) ?_ ⟨_, rfl, Grow.rfl' _, rfl⟩
      (generalize a'.eval = ev at ec ef e9 ⊢; simp [execOp, go_sem, *])
    · refine stepK_run hstab trivial (by intro j b h; cases h) ?_
      intro a' w' hg hs hd
      have hq : IsRowM (chainO kinS (d ++ [x])) (a'.eval (.tmp 10)) w' := hd ⟨4, Ground.data⟩ (by simp) rfl rfl
      have ec : ∀ v, a'.eval (.const v) = v := fun _ => rfl
      have ef : ∀ g, a'.eval (.func g) = .func (.func g) #[] #[] := fun _ => rfl
      clear hd hs
      refine wpv (v := a'.eval (.tmp 10)) ?_ ⟨_, rfl, Grow.rfl' _, hq⟩
      simp [execOp, go_sem]
    · refine stepK_run hstab trivial (by intro j b h; cases h) ?_
      intro a' w' hg hs hd
      have e11 : a'.eval (.tmp 11) = .bool p := hd ⟨5, Ground.data⟩ (by simp) rfl rfl
      have ec : ∀ v, a'.eval (.const v) = v := fun _ => rfl
      have ef : ∀ g, a'.eval (.func g) = .func (.func g) #[] #[] := fun _ => rfl
      clear hd hs
      refine wpv (v := .bool p) ?_ ⟨_, rfl, Grow.rfl' _, rfl⟩
      (generalize a'.eval = ev at ec ef e11 ⊢; simp [execOp, go_sem, *])
  · intro a' w' hg hs hd
    obtain ⟨sf, nf, cf, e4, h4⟩ : IsRowM (chainO kinS (d ++ [x])) (a'.eval (.tmp 4)) w' := hd 6 (by simp) (by intro k h; cases h)
    have e5 : a'.eval (.tmp 5) = .bool p := hd 7 (by simp) (by intro k h; cases h)
    go_wp2_with fail
    refine bodyPost_ret (v := .tuple #[.slice sf nf cf, .bool p]) ?_ (by rw [hs.defers]) ⟨_, rfl, Grow.trans' G0.out hg, sf, nf, cf, rfl, h4⟩
    clear hd hs hstab
    simp [Act.eval] at e4 e5
    simp [results, Try.results19, go_sem]
    exact ⟨e4, e5⟩

set_option maxHeartbeats 400000 in
theorem fewT_any (s : Option Addr) (n cap : Nat) (d : List Tm) (w : World) (hd : IsTms w s n cap d) :
    Calls Try.prog 10 #[.slice s n cap] w fun e w' => ∃ v, e = .returned v ∧ Grow w w' ∧ IsRowT (d.take 60) v w' := by
  by_cases hn : n ≤ 60
  · have h1 : d.take 60 = d := List.take_of_length_le (by rw [hd.1]; exact hn)
    rw [h1]
    have HD := hide hd
    have h3 : ¬ (60 : Int) < (n : Int) := by omega
    clear hd h1
    go_enter Try.func10, Try.ntmps10
    go_wp2
    go_ret
    exact ⟨_, rfl, Grow.rfl' _, s, n, cap, rfl, HD.out⟩
  · have hne : ¬ d = [] := fun h => by rw [h] at hd; have := hd.1; simp at this; omega
    have h3 : (60 : Int) < (n : Int) := by omega
    have h4 : (60 : Int) ≤ (cap : Int) := by have := hd.2.1; omega
    have HD := hide (hd.take' 60 (by omega))
    obtain ⟨b, o, rfl, hr1⟩ := hd.2.2.resolve_left hne
    clear hd hr1 hne
    go_enter Try.func10, Try.ntmps10
    go_wp2
    go_ret
    exact ⟨_, rfl, Grow.rfl' _, some ⟨b, o, none⟩, 60, cap, rfl, HD.out⟩
set_option maxHeartbeats 400000 in
theorem fewM_any (s : Option Addr) (n cap : Nat) (d : List Sm) (w : World) (hd : IsSms w s n cap d) :
    Calls Try.prog 18 #[.slice s n cap] w fun e w' => ∃ v, e = .returned v ∧ Grow w w' ∧ IsRowM (d.take 60) v w' := by
  by_cases hn : n ≤ 60
  · have h1 : d.take 60 = d := List.take_of_length_le (by rw [hd.1]; exact hn)
    rw [h1]
    have HD := hide hd
    have h3 : ¬ (60 : Int) < (n : Int) := by omega
    clear hd h1
    go_enter Try.func18, Try.ntmps18
    go_wp2
    go_ret
    exact ⟨_, rfl, Grow.rfl' _, s, n, cap, rfl, HD.out⟩
  · have hne : ¬ d = [] := fun h => by rw [h] at hd; have := hd.1; simp at this; omega
    have h3 : (60 : Int) < (n : Int) := by omega
    have h4 : (60 : Int) ≤ (cap : Int) := by have := hd.2.1; omega
    have HD := hide (hd.take' 60 (by omega))
    obtain ⟨b, o, rfl, hr1⟩ := hd.2.2.resolve_left hne
    clear hd hr1 hne
    go_enter Try.func18, Try.ntmps18
    go_wp2
    go_ret
    exact ⟨_, rfl, Grow.rfl' _, some ⟨b, o, none⟩, 60, cap, rfl, HD.out⟩

end Go.Proofs.Ytkpecibbpogedaa
