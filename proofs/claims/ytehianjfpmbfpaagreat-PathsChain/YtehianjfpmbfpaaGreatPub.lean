/-
  What chain's own functions do to the world: Times, Sums, Covers, CoversSum, Add, AddSum of every row; what was there stays as it was.
-/
import Derived.Test.YtehianjfpmbfpaaGreatAdd
namespace Go.Proofs.YtehianjfpmbfpaaGreat
set_option maxRecDepth 100000
open Go.RowKit
set_option linter.unusedVariables false

set_option maxHeartbeats 400000 in
theorem chainT_any (s : Option Addr) (n cap : Nat) (d : List Tm) (w : World) (hbig : n ≤ 100000000000) (hd : IsTms w s n cap d) :
    Calls Tryz.prog 39 #[.slice s n cap] w fun e w' => ∃ v, e = .returned v ∧ Grow w w' ∧ IsRowT (chainO kinT d) v w' := by
  have HD := hide hd
  clear hd
  go_enter Tryz.func39, Tryz.ntmps39
  go_wp2_with fail
  refine (mkT_any _).mono ?_
  rintro e w1 ⟨rfl, hb⟩
  have G := hide hb
  have H1 := hide (HD.out.later hb)
  clear hb
  go_wp2_with fail
  refine (lowT_row s n cap d w1 hbig H1.out).mono ?_
  rintro e w2 ⟨v, rfl, hb, hr⟩
  obtain ⟨s', m, c', rfl, hI⟩ := hr
  have G2 := hide (Grow.trans' G.out hb)
  have H2 := hide hI
  clear hb hI
  go_wp2_with fail
  go_ret
  exact ⟨_, rfl, G2.out, s', m, c', rfl, H2.out⟩

theorem addM_at (s : Option Addr) (n cap : Nat) (d : List Sm) (x : Sm) {p : Bool} (hp : p = (kinS.may x && !coverB kinS d x)) (w : World) (hbig : n ≤ 90000000000) (hd : IsSms w s n cap d) :
    Calls Tryz.prog 103 #[.agg #[.func (.func 93) #[] #[], .func (.func 119) #[] #[], .func (.func 120) #[] #[]], .slice s n cap, .agg #[.int .i64 x.f, .int .i64 x.t, .int .i64 x.k, .int .i64 x.ep, .int .i64 x.x, .int .i64 x.y, .int .i64 x.z]] w
      fun e w' => ∃ v, e = .returned v ∧ Grow w w' ∧ IsAddM (chainO kinS (d ++ [x])) p v w' := by
  rw [hp]; exact (addM_any s n cap d x w hbig hd).mono fun e w' ⟨v, he, hg, h⟩ => ⟨v, he, hg, h.is⟩
theorem addM_in (B : Nat) (s : Option Addr) (n cap : Nat) (d : List Sm) (x : Sm) {p : Bool} (hp : p = (kinS.may x && !coverB kinS d x)) (w : World) (hB : B ≤ w.heap.size) (hbig : n ≤ 90000000000) (hd : IsSms w s n cap d) :
    Calls Tryz.prog 103 #[.agg #[.func (.func 93) #[] #[], .func (.func 119) #[] #[], .func (.func 120) #[] #[]], .slice s n cap, .agg #[.int .i64 x.f, .int .i64 x.t, .int .i64 x.k, .int .i64 x.ep, .int .i64 x.x, .int .i64 x.y, .int .i64 x.z]] w
      fun e w' => ∃ v, e = .returned v ∧ Grow w w' ∧ OwnAddM B (chainO kinS (d ++ [x])) p v w' := by
  rw [hp]; exact (addM_any s n cap d x w hbig hd).mono fun e w' ⟨v, he, hg, h⟩ => ⟨v, he, hg, h.rebase hB⟩
set_option maxHeartbeats 1000000 in
theorem moreM_own (s : Option Addr) (n cap : Nat) (d : List Sm) (x : Sm) (w : World) (hbig : n ≤ 90000000000) (hd : IsSms w s n cap d) :
    Calls Tryz.prog 83 #[.slice s n cap, .agg #[.int .i64 x.f, .int .i64 x.t, .int .i64 x.k, .int .i64 x.ep, .int .i64 x.x, .int .i64 x.y, .int .i64 x.z]] w fun e w' => ∃ v, e = .returned v ∧ Grow w w' ∧ OwnAddM w.heap.size (chainO kinS (d ++ [x])) (kinS.may x && !coverB kinS d x) v w' := by
  obtain ⟨p, hp⟩ : ∃ p, p = (kinS.may x && !coverB kinS d x) := ⟨_, rfl⟩
  rw [← hp]
  have HP := hide hp
  have G0 : Hid (Grow w (w.alloc (.cells #[.int .i64 x.f, .int .i64 x.t, .int .i64 x.k, .int .i64 x.ep, .int .i64 x.x, .int .i64 x.y, .int .i64 x.z] 68))) := hide (Grow.alloc' _ _)
  have HD := hide (hd.later G0.out)
  have KX : Hid (SBox (w.alloc (.cells #[.int .i64 x.f, .int .i64 x.t, .int .i64 x.k, .int .i64 x.ep, .int .i64 x.x, .int .i64 x.y, .int .i64 x.z] 68)) w.heap.size x) := hide (SBox.new _ _)
  clear hd hp
  go_enter Tryz.func83, Tryz.ntmps83
  go_wp2_with fail
  generalize w.alloc (.cells #[.int .i64 x.f, .int .i64 x.t, .int .i64 x.k, .int .i64 x.ep, .int .i64 x.x, .int .i64 x.y, .int .i64 x.z] 68) = w0 at *
  let FF : Nat → Value → World → Prop := fun i vF wF => match i with | 0 => vF = .agg #[.func (.func 93) #[] #[], .func (.func 119) #[] #[], .func (.func 120) #[] #[]] | 1 => vF = .slice s n cap | 2 => vF = .agg #[.int .i64 x.f, .int .i64 x.t, .int .i64 x.k, .int .i64 x.ep, .int .i64 x.x, .int .i64 x.y, .int .i64 x.z] | 3 => OwnAddM w.heap.size (chainO kinS (d ++ [x])) p vF wF | 4 => OwnRowM w.heap.size (chainO kinS (d ++ [x])) vF wF | 5 => vF = .bool p | 6 => OwnRowM w.heap.size (chainO kinS (d ++ [x])) vF wF | 7 => vF = .bool p | _ => True
  have hstab : ∀ k v w1 w2, Grow w1 w2 → FF k v w1 → FF k v w2 := by
    intro k v w1 w2 hg h
    match k with
    | 0 => exact h
    | 1 => exact h
    | 2 => exact h
    | 3 => exact OwnAddM.later hg h
    | 4 => exact OwnRowM.later hg h
    | 5 => exact h
    | 6 => exact OwnRowM.later hg h
    | 7 => exact h
    | k + 8 => exact trivial
  refine wp_region_invK FF (fun _ => none) (by kernel_rfl) (by kernel_rfl) ?_ ?_
  · refine ⟨?_, ?_, ?_, ?_, ?_, ?_, ?_, ?_, trivial⟩
    · refine stepK_run hstab trivial (by intro j b h; cases h) ?_
      intro a' w' hg hs hd
      have ec : ∀ v, a'.eval (.const v) = v := fun _ => rfl
      have ef : ∀ g, a'.eval (.func g) = .func (.func g) #[] #[] := fun _ => rfl
      clear hd hs
      refine wpc ?_ (Calls.mono (mkM_any w') fun e w2 ⟨he, hb⟩ => ⟨_, he, _, rfl, hb, rfl⟩)
      (generalize a'.eval = ev at ec ef ⊢; simp [execOp, go_sem, *])
    · refine stepK_run hstab trivial (by intro j b h; cases h) ?_
      intro a' w' hg hs hd
      have e0 : a'.eval (.tmp 0) = .slice s n cap := hs.rest 0 rfl
      have ec : ∀ v, a'.eval (.const v) = v := fun _ => rfl
      have ef : ∀ g, a'.eval (.func g) = .func (.func g) #[] #[] := fun _ => rfl
      clear hd hs
      refine wpv (v := .slice s n cap) ?_ ⟨_, rfl, Grow.rfl' _, rfl⟩
      (generalize a'.eval = ev at ec ef e0 ⊢; simp [execOp, go_sem, *])
    · refine stepK_run hstab trivial (by intro j b h; cases h) ?_
      intro a' w' hg hs hd
      have e3 : a'.eval (.tmp 3) = .pointer (some ⟨w.heap.size, 0, none⟩) := hs.rest 3 rfl
      have ec : ∀ v, a'.eval (.const v) = v := fun _ => rfl
      have ef : ∀ g, a'.eval (.func g) = .func (.func g) #[] #[] := fun _ => rfl
      clear hd hs
      obtain ⟨x0, x1, x2, x3, x4, x5, x6⟩ := KX.out.later hg
      refine wpv (v := .agg #[.int .i64 x.f, .int .i64 x.t, .int .i64 x.k, .int .i64 x.ep, .int .i64 x.x, .int .i64 x.y, .int .i64 x.z]) ?_ ⟨_, rfl, Grow.rfl' _, rfl⟩
      (generalize a'.eval = ev at ec ef e3 ⊢; simp [execOp, go_sem, *])
    · refine stepK_run hstab trivial (by intro j b h; cases h) ?_
      intro a' w' hg hs hd
      have e6 : a'.eval (.tmp 6) = .agg #[.func (.func 93) #[] #[], .func (.func 119) #[] #[], .func (.func 120) #[] #[]] := hd ⟨0, Ground.data⟩ (by simp) rfl rfl
      have e7 : a'.eval (.tmp 7) = .slice s n cap := hd ⟨1, Ground.data⟩ (by simp) rfl rfl
      have e8 : a'.eval (.tmp 8) = .agg #[.int .i64 x.f, .int .i64 x.t, .int .i64 x.k, .int .i64 x.ep, .int .i64 x.x, .int .i64 x.y, .int .i64 x.z] := hd ⟨2, Ground.data⟩ (by simp) rfl rfl
      have ec : ∀ v, a'.eval (.const v) = v := fun _ => rfl
      have ef : ∀ g, a'.eval (.func g) = .func (.func g) #[] #[] := fun _ => rfl
      clear hd hs
      refine wpc ?_ (Calls.mono (addM_in w.heap.size s n cap d x HP.out w' (Nat.le_trans G0.out.size hg.size) hbig (HD.out.later hg)) fun e w2 ⟨v, he, hb, hv⟩ => ⟨v, he, _, rfl, hb, hv⟩)
      (generalize a'.eval = ev at ec ef e6 e7 e8 ⊢; simp [execOp, go_sem, *])
    · refine stepK_run hstab trivial (by intro j b h; cases h) ?_
      intro a' w' hg hs hd
      obtain ⟨sa9, na9, ca9, e9, h9⟩ : OwnAddM w.heap.size (chainO kinS (d ++ [x])) p (a'.eval (.tmp 9)) w' := hd ⟨3, Ground.data⟩ (by simp) rfl rfl
      have ec : ∀ v, a'.eval (.const v) = v := fun _ => rfl
      have ef : ∀ g, a'.eval (.func g) = .func (.func g) #[] #[] := fun _ => rfl
      clear hd hs
      skip
      refine wpv (v := .slice sa9 na9 ca9) ?_ ⟨_, rfl, Grow.rfl' _, ⟨_, _, _, rfl, h9⟩⟩
      (generalize a'.eval = ev at ec ef e9 ⊢; simp [execOp, go_sem, *])
    · refine stepK_run hstab trivial (by intro j b h; cases h) ?_
      intro a' w' hg hs hd
      obtain ⟨sa9, na9, ca9, e9, h9⟩ : OwnAddM w.heap.size (chainO kinS (d ++ [x])) p (a'.eval (.tmp 9)) w' := hd ⟨3, Ground.data⟩ (by simp) rfl rfl
      have ec : ∀ v, a'.eval (.const v) = v := fun _ => rfl
      have ef : ∀ g, a'.eval (.func g) = .func (.func g) #[] #[] := fun _ => rfl
      clear hd hs
      refine wpv (v := .bool p) ?_ ⟨_, rfl, Grow.rfl' _, rfl⟩
      (generalize a'.eval = ev at ec ef e9 ⊢; simp [execOp, go_sem, *])
    · refine stepK_run hstab trivial (by intro j b h; cases h) ?_
      intro a' w' hg hs hd
      have hq : OwnRowM w.heap.size (chainO kinS (d ++ [x])) (a'.eval (.tmp 10)) w' := hd ⟨4, Ground.data⟩ (by simp) rfl rfl
      have ec : ∀ v, a'.eval (.const v) = v := fun _ => rfl
      have ef : ∀ g, a'.eval (.func g) = .func (.func g) #[] #[] := fun _ => rfl
      clear hd hs
      refine wpv (v := a'.eval (.tmp 10)) ?_ ⟨_, rfl, Grow.rfl' _, hq⟩
      simp [execOp, go_sem]
    · refine stepK_run hstab trivial (by intro j b h; cases h) ?_
      intro a' w' hg hs hd
      have e11 : a'.eval (.tmp 11) = .bool p := hd ⟨5, Ground.data⟩ (by simp) rfl rfl
      have ec : ∀ v, a'.eval (.const v) = v := fun _ => rfl
      have ef : ∀ g, a'.eval (.func g) = .func (.func g) #[] #[] := fun _ => rfl
      clear hd hs
      refine wpv (v := .bool p) ?_ ⟨_, rfl, Grow.rfl' _, rfl⟩
      (generalize a'.eval = ev at ec ef e11 ⊢; simp [execOp, go_sem, *])
  · intro a' w' hg hs hd
    obtain ⟨sf, nf, cf, e4, h4⟩ : OwnRowM w.heap.size (chainO kinS (d ++ [x])) (a'.eval (.tmp 4)) w' := hd 6 (by simp) (by intro k h; cases h)
    have e5 : a'.eval (.tmp 5) = .bool p := hd 7 (by simp) (by intro k h; cases h)
    go_wp2_with fail
    refine bodyPost_ret (v := .tuple #[.slice sf nf cf, .bool p]) ?_ (by rw [hs.defers]) ⟨_, rfl, Grow.trans' G0.out hg, sf, nf, cf, rfl, h4⟩
    clear hd hs hstab
    simp [Act.eval] at e4 e5
    simp [results, Tryz.results83, go_sem]
    exact ⟨e4, e5⟩
theorem moreM_any (s : Option Addr) (n cap : Nat) (d : List Sm) (x : Sm) (w : World) (hbig : n ≤ 90000000000) (hd : IsSms w s n cap d) :
    Calls Tryz.prog 83 #[.slice s n cap, .agg #[.int .i64 x.f, .int .i64 x.t, .int .i64 x.k, .int .i64 x.ep, .int .i64 x.x, .int .i64 x.y, .int .i64 x.z]] w fun e w' => ∃ v, e = .returned v ∧ Grow w w' ∧ IsAddM (chainO kinS (d ++ [x])) (kinS.may x && !coverB kinS d x) v w' :=
  (moreM_own s n cap d x w hbig hd).mono fun e w' ⟨v, he, hg, h⟩ => ⟨v, he, hg, h.is⟩


end Go.Proofs.YtehianjfpmbfpaaGreat
