import Derived.Test.YtehianjfpmbfpaaGreatLowZ
import Derived.Test.YtehianjfpmbfpaaGreatRowAZ
import Derived.Test.YtehianjfpmbfpaaGreatEndGZ
import Derived.Lib.SliceRun
section
/-
  What Clone and add do to the world: of every row and one more its chain, and whether the one was missing; what was there stays as it was.
-/
namespace Go.Proofs.YtehianjfpmbfpaaGreat
set_option maxRecDepth 100000
open Go.RowKit
set_option linter.unusedVariables false

theorem lowT_row (s : Option Addr) (n cap : Nat) (d : List Tm) (w : World) (hbig : n ≤ 100000000000) (hd : IsTms w s n cap d) :
    Calls Tryz.prog 68 #[.agg #[.func (.func 87) #[] #[], .func (.func 88) #[] #[], .func (.func 89) #[] #[]], .slice s n cap] w
      fun e w' => ∃ v, e = .returned v ∧ Grow w w' ∧ IsRowT (chainO kinT d) v w' :=
  (lowT_any s n cap d w hbig hd).mono fun e w' ⟨s', m, cap', he, hg, hO⟩ => ⟨_, he, hg, _, _, _, rfl, hO.is⟩
theorem lowT_in (B : Nat) (s : Option Addr) (n cap : Nat) (d : List Tm) (w : World) (hB : B ≤ w.heap.size) (hbig : n ≤ 100000000000) (hd : IsTms w s n cap d) :
    Calls Tryz.prog 68 #[.agg #[.func (.func 87) #[] #[], .func (.func 88) #[] #[], .func (.func 89) #[] #[]], .slice s n cap] w
      fun e w' => ∃ v, e = .returned v ∧ Grow w w' ∧ OwnRowT B (chainO kinT d) v w' :=
  (lowT_any s n cap d w hbig hd).mono fun e w' ⟨s', m, cap', he, hg, hO⟩ => ⟨_, he, hg, _, _, _, rfl, hO.rebase hB⟩
theorem mayT_at (x : Tm) {p : Bool} (h : kinT.may x = p) (w : World) : Calls Tryz.prog 87 #[.agg #[.int .i64 x.e, .int .i64 x.d, .int .i64 x.x, .int .i64 x.y, .int .i64 x.z]] w fun e w' => e = .returned (.bool p) ∧ Grow w w' := by
  rw [← h]; exact may_any x w
theorem covT_at (s : Option Addr) (n cap : Nat) (d : List Tm) (x : Tm) {p : Bool} (h : coverB kinT d x = p) (w : World) (hbig : n ≤ 1000000000000) (hd : IsTms w s n cap d) :
    Calls Tryz.prog 92 #[.agg #[.func (.func 87) #[] #[], .func (.func 88) #[] #[], .func (.func 89) #[] #[]], .slice s n cap, .agg #[.int .i64 x.e, .int .i64 x.d, .int .i64 x.x, .int .i64 x.y, .int .i64 x.z]] w
      fun e w' => e = .returned (.bool p) ∧ Grow w w' := by
  rw [← h]; exact covT_any s n cap d x w hbig hd
theorem lowM_row (s : Option Addr) (n cap : Nat) (d : List Sm) (w : World) (hbig : n ≤ 100000000000) (hd : IsSms w s n cap d) :
    Calls Tryz.prog 121 #[.agg #[.func (.func 93) #[] #[], .func (.func 119) #[] #[], .func (.func 120) #[] #[]], .slice s n cap] w
      fun e w' => ∃ v, e = .returned v ∧ Grow w w' ∧ IsRowM (chainO kinS d) v w' :=
  (lowM_any s n cap d w hbig hd).mono fun e w' ⟨s', m, cap', he, hg, hO⟩ => ⟨_, he, hg, _, _, _, rfl, hO.is⟩
theorem lowM_in (B : Nat) (s : Option Addr) (n cap : Nat) (d : List Sm) (w : World) (hB : B ≤ w.heap.size) (hbig : n ≤ 100000000000) (hd : IsSms w s n cap d) :
    Calls Tryz.prog 121 #[.agg #[.func (.func 93) #[] #[], .func (.func 119) #[] #[], .func (.func 120) #[] #[]], .slice s n cap] w
      fun e w' => ∃ v, e = .returned v ∧ Grow w w' ∧ OwnRowM B (chainO kinS d) v w' :=
  (lowM_any s n cap d w hbig hd).mono fun e w' ⟨s', m, cap', he, hg, hO⟩ => ⟨_, he, hg, _, _, _, rfl, hO.rebase hB⟩
theorem mayM_at (x : Sm) {p : Bool} (h : kinS.may x = p) (w : World) : Calls Tryz.prog 93 #[.agg #[.int .i64 x.f, .int .i64 x.t, .int .i64 x.k, .int .i64 x.ep, .int .i64 x.x, .int .i64 x.y, .int .i64 x.z]] w fun e w' => e = .returned (.bool p) ∧ Grow w w' := by
  rw [← h]; exact sMay_any x w
theorem covM_at (s : Option Addr) (n cap : Nat) (d : List Sm) (x : Sm) {p : Bool} (h : coverB kinS d x = p) (w : World) (hbig : n ≤ 1000000000000) (hd : IsSms w s n cap d) :
    Calls Tryz.prog 122 #[.agg #[.func (.func 93) #[] #[], .func (.func 119) #[] #[], .func (.func 120) #[] #[]], .slice s n cap, .agg #[.int .i64 x.f, .int .i64 x.t, .int .i64 x.k, .int .i64 x.ep, .int .i64 x.x, .int .i64 x.y, .int .i64 x.z]] w
      fun e w' => e = .returned (.bool p) ∧ Grow w w' := by
  rw [← h]; exact covM_any s n cap d x w hbig hd
set_option maxHeartbeats 400000 in
theorem cloneM_any (s : Option Addr) (n cap : Nat) (d : List Sm) (w : World) (hbig : n ≤ 1000000000000) (hd : IsSms w s n cap d) :
    Calls Tryz.prog 35 #[.slice s n cap] w fun e w' => ∃ v, e = .returned v ∧ Grow w w' ∧ OwnRowM w.heap.size d v w' := by
  cases s with
  | none =>
    have hd0 : d = [] := by
      rcases hd.2.2 with h | ⟨b, o, h, _⟩
      · exact h
      · cases h
    subst hd0
    clear hd
    have q22 : ∀ (w : World) (a : Option Addr) (n c n' c' : Nat), (binOp .eql 33 (.slice a n c) (.slice none n' c')).run Tryz.prog w = .ok (.bool a.isNone) w := fun w a n c n' c' => Lib.run_eql_slice_nil w _ _ a n c n' c' Tryz.underlying33
    go_enter Tryz.func35, Tryz.ntmps35
    go_wp2
    go_ret
    exact ⟨_, rfl, Below.refl _ _, none, 0, 0, rfl, OwnMV.nil _ _⟩
  | some a =>
    have HD := hide (hd.later (Grow.alloc' w (.cells #[] 68)))
    clear hd
    have q22 : ∀ (w : World) (a : Option Addr) (n c n' c' : Nat), (binOp .eql 33 (.slice a n c) (.slice none n' c')).run Tryz.prog w = .ok (.bool a.isNone) w := fun w a n c n' c' => Lib.run_eql_slice_nil w _ _ a n c n' c' Tryz.underlying33
    go_enter Tryz.func35, Tryz.ntmps35
    go_wp2_with (at_builtin; refine wpList_apd_sm rfl _ _ rfl w.heap.size (some ⟨w.heap.size, 0, none⟩) 0 0 [] d rfl (.of (OwnM.lit0 w _ (Nat.le_refl _)) rfl) (some a) n cap rfl HD.out (by omega) (by simp) ?_)
    intro s2 c2 w2 h2 gb
    have FIN := hide (show Grow w w2 ∧ OwnMV w2 w.heap.size s2 (0 + n) c2 d from ⟨gb.grow (Grow.alloc' _ _) (Nat.le_refl _), by simpa using h2⟩)
    clear h2 gb
    go_wp2_with fail
    go_ret
    exact ⟨_, rfl, FIN.out.1, s2, _, c2, rfl, by simpa using FIN.out.2⟩
theorem cloneM_in (W : World) (s : Option Addr) (n cap : Nat) (d : List Sm) (w : World) (hW : W.heap.size ≤ w.heap.size) (hbig : n ≤ 1000000000000) (hd : IsSms w s n cap d) :
    Calls Tryz.prog 35 #[.slice s n cap] w fun e w' => ∃ v, e = .returned v ∧ Grow w w' ∧ OwnRowM W.heap.size d v w' :=
  (cloneM_any s n cap d w hbig hd).mono fun e w' ⟨v, he, hg, s', m, c', hv, hO⟩ => ⟨v, he, hg, s', m, c', hv, hO.rebase hW⟩

set_option maxHeartbeats 1000000 in
theorem addM_falsefalse (s : Option Addr) (n cap : Nat) (d : List Sm) (x : Sm) (w : World) (hbig : n ≤ 90000000000) (hd : IsSms w s n cap d) (hp : kinS.may x = false)  :
    Calls Tryz.prog 103 #[.agg #[.func (.func 93) #[] #[], .func (.func 119) #[] #[], .func (.func 120) #[] #[]], .slice s n cap, .agg #[.int .i64 x.f, .int .i64 x.t, .int .i64 x.k, .int .i64 x.ep, .int .i64 x.x, .int .i64 x.y, .int .i64 x.z]] w
      fun e w' => ∃ v, e = .returned v ∧ Grow w w' ∧ OwnAddM w.heap.size (chainO kinS (d ++ [x])) (false) v w' := by
  have HP := hide hp
  skip
  clear hp 
  have HD0 := hide hd
  clear hd
  go_enter Tryz.func103, Tryz.ntmps103
  go_wp2_with fail
  have G0 : Hid (Grow w ((w.alloc (.cells #[.func (.func 93) #[] #[], .func (.func 119) #[] #[], .func (.func 120) #[] #[]] 130)).alloc (.cells #[.int .i64 x.f, .int .i64 x.t, .int .i64 x.k, .int .i64 x.ep, .int .i64 x.x, .int .i64 x.y, .int .i64 x.z] 68))) := hide (Grow.trans' (Grow.alloc' _ _) (Grow.alloc' _ _))
  have KB : Hid (OBoxM ((w.alloc (.cells #[.func (.func 93) #[] #[], .func (.func 119) #[] #[], .func (.func 120) #[] #[]] 130)).alloc (.cells #[.int .i64 x.f, .int .i64 x.t, .int .i64 x.k, .int .i64 x.ep, .int .i64 x.x, .int .i64 x.y, .int .i64 x.z] 68)) w.heap.size) := hide ((OBoxM.new w).later (Grow.alloc' _ _))
  have KX : Hid (SBox ((w.alloc (.cells #[.func (.func 93) #[] #[], .func (.func 119) #[] #[], .func (.func 120) #[] #[]] 130)).alloc (.cells #[.int .i64 x.f, .int .i64 x.t, .int .i64 x.k, .int .i64 x.ep, .int .i64 x.x, .int .i64 x.y, .int .i64 x.z] 68)) (w.heap.size + 1) x) := hide (by simp [SBox, go_sem])
  generalize (w.alloc (.cells #[.func (.func 93) #[] #[], .func (.func 119) #[] #[], .func (.func 120) #[] #[]] 130)).alloc (.cells #[.int .i64 x.f, .int .i64 x.t, .int .i64 x.k, .int .i64 x.ep, .int .i64 x.x, .int .i64 x.y, .int .i64 x.z] 68) = w0 at *
  have HD := hide (HD0.out.later G0.out)
  clear HD0
  let FF : Nat → Value → World → Prop := fun i vF wF => match i with | 0 => vF = .slice s n cap | 1 => OwnRowM w0.heap.size d vF wF | 2 => vF = .agg #[.int .i64 x.f, .int .i64 x.t, .int .i64 x.k, .int .i64 x.ep, .int .i64 x.x, .int .i64 x.y, .int .i64 x.z] | 3 => IsRowM [x] vF wF | 4 => OwnRowM w0.heap.size (d ++ [x]) vF wF | 5 => OwnRowM w0.heap.size (d ++ [x]) vF wF | _ => True
  have hstab : ∀ k v w1 w2, Grow w1 w2 → FF k v w1 → FF k v w2 := by
    intro k v w1 w2 hg h
    match k with
    | 0 => exact h
    | 1 => exact OwnRowM.later hg h
    | 2 => exact h
    | 3 => exact IsRowM.later hg h
    | 4 => exact OwnRowM.later hg h
    | 5 => exact OwnRowM.later hg h
    | k + 6 => exact trivial
  refine wp_region_invK FF (fun i => match i with | 1 => some 4 | 3 => some 4 | _ => none) (by kernel_rfl) (by kernel_rfl) ?_ ?_
  · refine ⟨?_, ?_, ?_, ?_, ?_, ?_, trivial⟩
    · refine stepK_run hstab trivial (by intro j b h; cases h) ?_
      intro a' w' hg hs hd
      have e1 : a'.eval (.tmp 1) = .slice s n cap := hs.rest 1 rfl
      have ec : ∀ v, a'.eval (.const v) = v := fun _ => rfl
      have ef : ∀ g, a'.eval (.func g) = .func (.func g) #[] #[] := fun _ => rfl
      clear hd hs
      refine wpv (v := .slice s n cap) ?_ ⟨_, rfl, Grow.rfl' _, rfl⟩
      (generalize a'.eval = ev at ec ef e1 ⊢; simp [execOp, go_sem, *])
    · refine stepK_run hstab trivial (by intro j b h; cases h) ?_
      intro a' w' hg hs hd
      have e9 : a'.eval (.tmp 9) = .slice s n cap := hd ⟨0, Ground.data⟩ (by simp) rfl rfl
      have ec : ∀ v, a'.eval (.const v) = v := fun _ => rfl
      have ef : ∀ g, a'.eval (.func g) = .func (.func g) #[] #[] := fun _ => rfl
      clear hd hs
      refine wpc ?_ (Calls.mono (cloneM_in w0 s n cap d w' hg.size (by omega) (HD.out.later hg)) fun e w2 ⟨v, he, hb, hv⟩ => ⟨v, he, _, rfl, hb, hv⟩)
      (generalize a'.eval = ev at ec ef e9 ⊢; simp [execOp, go_sem, *])
    · refine stepK_run hstab trivial (by intro j b h; cases h) ?_
      intro a' w' hg hs hd
      have e5 : a'.eval (.tmp 5) = .pointer (some ⟨w.heap.size + 1, 0, none⟩) := hs.rest 5 rfl
      have ec : ∀ v, a'.eval (.const v) = v := fun _ => rfl
      have ef : ∀ g, a'.eval (.func g) = .func (.func g) #[] #[] := fun _ => rfl
      clear hd hs
      obtain ⟨x0, x1, x2, x3, x4, x5, x6⟩ := KX.out.later hg
      refine wpv (v := .agg #[.int .i64 x.f, .int .i64 x.t, .int .i64 x.k, .int .i64 x.ep, .int .i64 x.x, .int .i64 x.y, .int .i64 x.z]) ?_ ⟨_, rfl, Grow.rfl' _, rfl⟩
      (generalize a'.eval = ev at ec ef e5 ⊢; simp [execOp, go_sem, *])
    · refine stepK_run hstab trivial (by intro j b h; cases h) ?_
      intro a' w' hg hs hd
      have e11 : a'.eval (.tmp 11) = .agg #[.int .i64 x.f, .int .i64 x.t, .int .i64 x.k, .int .i64 x.ep, .int .i64 x.x, .int .i64 x.y, .int .i64 x.z] := hd ⟨2, Ground.data⟩ (by simp) rfl rfl
      have ec : ∀ v, a'.eval (.const v) = v := fun _ => rfl
      have ef : ∀ g, a'.eval (.func g) = .func (.func g) #[] #[] := fun _ => rfl
      clear hd hs
      refine wpv (v := .slice (some ⟨w'.heap.size, 0, none⟩) 1 1) (w' := w'.alloc (.cells #[.int .i64 x.f, .int .i64 x.t, .int .i64 x.k, .int .i64 x.ep, .int .i64 x.x, .int .i64 x.y, .int .i64 x.z] 68)) ?_ ⟨_, rfl, Grow.alloc' _ _, isRowM_one _ x⟩
      (generalize a'.eval = ev at ec ef e11 ⊢; simp [execOp, go_sem, *])
    · refine stepK_take rfl ?_
      intro a' w' hg hs hd
      obtain ⟨sc10, nc10, cc10, e10, h10⟩ : OwnRowM w0.heap.size d (a'.eval (.tmp 10)) w' := hd ⟨1, Ground.data⟩ (by simp) rfl rfl
      obtain ⟨sb12, nb12, cb12, e12, h12⟩ : IsRowM [x] (a'.eval (.tmp 12)) w' := hd ⟨3, Ground.data⟩ (by simp) rfl rfl
      have ec : ∀ v, a'.eval (.const v) = v := fun _ => rfl
      have ef : ∀ g, a'.eval (.func g) = .func (.func g) #[] #[] := fun _ => rfl
      clear hd hs
      obtain ⟨s2, c2, w2, hrun, hown, hgb⟩ := run_apv_sm w' 33 w0.heap.size sc10 nc10 cc10 d [x] h10 sb12 nb12 cb12 h12 (by have a1 := h10.1; have a2 := HD.out.1; have a3 := h12.1; simp at a3; omega) hg.size
      refine wpv (v := .slice s2 _ c2) (w' := w2) ?_ ⟨_, rfl, hgb.grow hg (Nat.le_refl _), ⟨s2, _, c2, rfl, hown⟩, ?_⟩
      rotate_left
      · intro j u hj h
        match j with
        | 0 => exact h
        | 1 => cases hj
        | 2 => exact h
        | 3 => cases hj
        | 4 => cases hj
        | 5 => cases hj
        | j + 6 => exact trivial
      · unfold execOp; simp only [resolve, invoke, builtin, Sem.run_bind, Sem.run_pure, Result.andThen_ok, List.map_toArray, List.map_cons, List.map_nil, e10, e12, hrun]
    · refine stepK_run hstab trivial (by intro j b h; cases h) ?_
      intro a' w' hg hs hd
      have hq : OwnRowM w0.heap.size (d ++ [x]) (a'.eval (.tmp 13)) w' := hd ⟨4, Ground.data⟩ (by simp) rfl rfl
      have ec : ∀ v, a'.eval (.const v) = v := fun _ => rfl
      have ef : ∀ g, a'.eval (.func g) = .func (.func g) #[] #[] := fun _ => rfl
      clear hd hs
      refine wpv (v := a'.eval (.tmp 13)) ?_ ⟨_, rfl, Grow.rfl' _, hq⟩
      simp [execOp, go_sem]
  · intro a' w' hg hs hd
    obtain ⟨sa, na, ca, e8, h8⟩ : OwnRowM w0.heap.size (d ++ [x]) (a'.eval (.tmp 8)) w' := hd 5 (by simp) (by intro k h; cases h)
    have E8 : a'.eval (.tmp 8) = .slice sa na ca := e8
    have E3 : a'.eval (.tmp 3) = .pointer (some ⟨w.heap.size, 0, none⟩) := hs.rest 3 rfl
    have E5 : a'.eval (.tmp 5) = .pointer (some ⟨w.heap.size + 1, 0, none⟩) := hs.rest 5 rfl
    have E1 : a'.eval (.tmp 1) = .slice s n cap := hs.rest 1 rfl
    have HSZ := hs.size
    have HDF := hs.defers
    have KB2 := hide (KB.out.later hg)
    have KX2 := hide (KX.out.later hg)
    have HD2 := hide (HD.out.later hg)
    have HA := hide h8
    have G2 := hide (Grow.trans' G0.out hg)
    have hna : na ≤ 90000000001 := by
      have a1 := h8.1
      have a2 := HD.out.1
      simp at a1
      omega
    clear hd hs e8 h8 hg KB KX HD hstab
    generalize a' = b1 at *
    generalize w' = w1 at *
    go_wp2_with fail
    let FF : Nat → Value → World → Prop := fun i vF wF => match i with | 0 => vF = .agg #[.func (.func 93) #[] #[], .func (.func 119) #[] #[], .func (.func 120) #[] #[]] | 1 => vF = .slice sa na ca | 2 => OwnRowM w.heap.size (chainO kinS (d ++ [x])) vF wF | 3 => vF = .pointer (some ⟨w.heap.size, 0, none⟩) | 4 => vF = .func (.func 93) #[] #[] | 5 => vF = .agg #[.int .i64 x.f, .int .i64 x.t, .int .i64 x.k, .int .i64 x.ep, .int .i64 x.x, .int .i64 x.y, .int .i64 x.z] | 6 => vF = .bool false | 7 => vF = .bool false | 8 => True | 9 => True | 10 => True | 11 => True | 12 => True | 13 => vF = Value.bool false | 14 => OwnRowM w.heap.size (chainO kinS (d ++ [x])) vF wF | 15 => vF = Value.bool false | _ => True
    have hstab : ∀ k v w1 w2, Grow w1 w2 → FF k v w1 → FF k v w2 := by
      intro k v w1 w2 hg h
      match k with
      | 0 => exact h
      | 1 => exact h
      | 2 => exact OwnRowM.later hg h
      | 3 => exact h
      | 4 => exact h
      | 5 => exact h
      | 6 => exact h
      | 7 => exact h
      | 8 => exact h
      | 9 => exact h
      | 10 => exact h
      | 11 => exact h
      | 12 => exact h
      | 13 => exact h
      | 14 => exact OwnRowM.later hg h
      | 15 => exact h
      | k + 16 => exact trivial
    refine wp_region_invK FF (fun _ => none) (by kernel_rfl) (by rw [HSZ]; kernel_rfl) ?_ ?_
    · refine ⟨?_, ?_, ?_, ?_, ?_, ?_, ?_, ?_, ?_, ?_, ?_, ?_, ?_, ?_, ?_, ?_, trivial⟩
      · refine stepK_run hstab trivial (by intro j b h; cases h) ?_
        intro a' w' hg hs hd
        have e3 : a'.eval (.tmp 3) = .pointer (some ⟨w.heap.size, 0, none⟩) := (hs.rest 3 rfl).trans E3
        have ec : ∀ v, a'.eval (.const v) = v := fun _ => rfl
        have ef : ∀ g, a'.eval (.func g) = .func (.func g) #[] #[] := fun _ => rfl
        clear hd hs
        obtain ⟨o0, o1, o2⟩ := KB2.out.later hg
        refine wpv (v := .agg #[.func (.func 93) #[] #[], .func (.func 119) #[] #[], .func (.func 120) #[] #[]]) ?_ ⟨_, rfl, Grow.rfl' _, rfl⟩
        (generalize a'.eval = ev at ec ef e3 ⊢; simp [execOp, go_sem, *])
      · refine stepK_run hstab trivial (by intro j b h; cases h) ?_
        intro a' w' hg hs hd
        have e8 : a'.eval (.tmp 8) = .slice sa na ca := (hs.rest 8 rfl).trans E8
        have ec : ∀ v, a'.eval (.const v) = v := fun _ => rfl
        have ef : ∀ g, a'.eval (.func g) = .func (.func g) #[] #[] := fun _ => rfl
        clear hd hs
        refine wpv (v := .slice sa na ca) ?_ ⟨_, rfl, Grow.rfl' _, rfl⟩
        (generalize a'.eval = ev at ec ef e8 ⊢; simp [execOp, go_sem, *])
      · refine stepK_run hstab trivial (by intro j b h; cases h) ?_
        intro a' w' hg hs hd
        have e14 : a'.eval (.tmp 14) = .agg #[.func (.func 93) #[] #[], .func (.func 119) #[] #[], .func (.func 120) #[] #[]] := hd ⟨0, Ground.data⟩ (by simp) rfl rfl
        have e15 : a'.eval (.tmp 15) = .slice sa na ca := hd ⟨1, Ground.data⟩ (by simp) rfl rfl
        have ec : ∀ v, a'.eval (.const v) = v := fun _ => rfl
        have ef : ∀ g, a'.eval (.func g) = .func (.func g) #[] #[] := fun _ => rfl
        clear hd hs
        refine wpc ?_ (Calls.mono (lowM_in w.heap.size sa na ca (d ++ [x]) w' (Nat.le_trans G2.out.size hg.size) (by omega) (HA.out.is.later hg)) fun e w2 ⟨v, he, hb, hv⟩ => ⟨v, he, _, rfl, hb, hv⟩)
        (generalize a'.eval = ev at ec ef e14 e15 ⊢; simp [execOp, go_sem, *])
      · refine stepK_run hstab trivial (by intro j b h; cases h) ?_
        intro a' w' hg hs hd
        have e3 : a'.eval (.tmp 3) = .pointer (some ⟨w.heap.size, 0, none⟩) := (hs.rest 3 rfl).trans E3
        have ec : ∀ v, a'.eval (.const v) = v := fun _ => rfl
        have ef : ∀ g, a'.eval (.func g) = .func (.func g) #[] #[] := fun _ => rfl
        clear hd hs
        refine wpv (v := .pointer (some ⟨w.heap.size, 0, none⟩)) ?_ ⟨_, rfl, Grow.rfl' _, rfl⟩
        (generalize a'.eval = ev at ec ef e3 ⊢; simp [execOp, go_sem, *])
      · refine stepK_run hstab trivial (by intro j b h; cases h) ?_
        intro a' w' hg hs hd
        have e17 : a'.eval (.tmp 17) = .pointer (some ⟨w.heap.size, 0, none⟩) := hd ⟨3, Ground.data⟩ (by simp) rfl rfl
        have ec : ∀ v, a'.eval (.const v) = v := fun _ => rfl
        have ef : ∀ g, a'.eval (.func g) = .func (.func g) #[] #[] := fun _ => rfl
        clear hd hs
        obtain ⟨o0, o1, o2⟩ := KB2.out.later hg
        refine wpv (v := .func (.func 93) #[] #[]) ?_ ⟨_, rfl, Grow.rfl' _, rfl⟩
        (generalize a'.eval = ev at ec ef e17 ⊢; simp [execOp, go_sem, *])
      · refine stepK_run hstab trivial (by intro j b h; cases h) ?_
        intro a' w' hg hs hd
        have e5 : a'.eval (.tmp 5) = .pointer (some ⟨w.heap.size + 1, 0, none⟩) := (hs.rest 5 rfl).trans E5
        have ec : ∀ v, a'.eval (.const v) = v := fun _ => rfl
        have ef : ∀ g, a'.eval (.func g) = .func (.func g) #[] #[] := fun _ => rfl
        clear hd hs
        obtain ⟨x0, x1, x2, x3, x4, x5, x6⟩ := KX2.out.later hg
        refine wpv (v := .agg #[.int .i64 x.f, .int .i64 x.t, .int .i64 x.k, .int .i64 x.ep, .int .i64 x.x, .int .i64 x.y, .int .i64 x.z]) ?_ ⟨_, rfl, Grow.rfl' _, rfl⟩
        (generalize a'.eval = ev at ec ef e5 ⊢; simp [execOp, go_sem, *])
      · refine stepK_run hstab trivial (by intro j b h; cases h) ?_
        intro a' w' hg hs hd
        have e18 : a'.eval (.tmp 18) = .func (.func 93) #[] #[] := hd ⟨4, Ground.data⟩ (by simp) rfl rfl
        have e19 : a'.eval (.tmp 19) = .agg #[.int .i64 x.f, .int .i64 x.t, .int .i64 x.k, .int .i64 x.ep, .int .i64 x.x, .int .i64 x.y, .int .i64 x.z] := hd ⟨5, Ground.data⟩ (by simp) rfl rfl
        have ec : ∀ v, a'.eval (.const v) = v := fun _ => rfl
        have ef : ∀ g, a'.eval (.func g) = .func (.func g) #[] #[] := fun _ => rfl
        clear hd hs
        refine wpc ?_ (Calls.mono (mayM_at x HP.out w') fun e w2 ⟨he, hb⟩ => ⟨_, he, _, rfl, hb, rfl⟩)
        (generalize a'.eval = ev at ec ef e18 e19 ⊢; simp [execOp, go_sem, *])
      · refine stepK_run hstab trivial (by intro j b h; cases h) ?_
        intro a' w' hg hs hd
        have e20 : a'.eval (.tmp 20) = .bool false := hd ⟨6, Ground.data⟩ (by simp) rfl rfl
        have ec : ∀ v, a'.eval (.const v) = v := fun _ => rfl
        have ef : ∀ g, a'.eval (.func g) = .func (.func g) #[] #[] := fun _ => rfl
        clear hd hs
        refine wpv (v := .bool false) ?_ ⟨_, rfl, Grow.rfl' _, rfl⟩
        (generalize a'.eval = ev at ec ef e20 ⊢; simp [execOp, go_sem, *])
      · exact stepK_skip (j := 7) (b := true) rfl ⟨⟨7, Ground.guard⟩, by simp, rfl, rfl⟩ rfl (fun _ _ h => h) (fun _ _ => trivial)
      · exact stepK_skip (j := 7) (b := true) rfl ⟨⟨7, Ground.guard⟩, by simp, rfl, rfl⟩ rfl (fun _ _ h => h) (fun _ _ => trivial)
      · exact stepK_skip (j := 7) (b := true) rfl ⟨⟨7, Ground.guard⟩, by simp, rfl, rfl⟩ rfl (fun _ _ h => h) (fun _ _ => trivial)
      · exact stepK_skip (j := 7) (b := true) rfl ⟨⟨7, Ground.chain⟩, by simp, rfl, rfl⟩ rfl (fun _ _ h => h) (fun _ _ => trivial)
      · exact stepK_skip (j := 7) (b := true) rfl ⟨⟨7, Ground.guard⟩, by simp, rfl, rfl⟩ rfl (fun _ _ h => h) (fun _ _ => trivial)
      · refine stepK_run hstab trivial (by intro j b h; cases h) ?_
        intro a' w' hg hs hd
        have e21 : a'.eval (.tmp 21) = .bool false := hd ⟨7, Ground.data⟩ (by simp) rfl rfl
        have ec : ∀ v, a'.eval (.const v) = v := fun _ => rfl
        have ef : ∀ g, a'.eval (.func g) = .func (.func g) #[] #[] := fun _ => rfl
        clear hd hs
        refine wpv (v := Value.bool false) ?_ ⟨_, rfl, Grow.rfl' _, rfl⟩
        (generalize a'.eval = ev at ec ef e21 ⊢; simp [execOp, go_sem, *])
      · refine stepK_run hstab trivial (by intro j b h; cases h) ?_
        intro a' w' hg hs hd
        have hq : OwnRowM w.heap.size (chainO kinS (d ++ [x])) (a'.eval (.tmp 16)) w' := hd ⟨2, Ground.data⟩ (by simp) rfl rfl
        have ec : ∀ v, a'.eval (.const v) = v := fun _ => rfl
        have ef : ∀ g, a'.eval (.func g) = .func (.func g) #[] #[] := fun _ => rfl
        clear hd hs
        refine wpv (v := a'.eval (.tmp 16)) ?_ ⟨_, rfl, Grow.rfl' _, hq⟩
        simp [execOp, go_sem]
      · refine stepK_run hstab trivial (by intro j b h; cases h) ?_
        intro a' w' hg hs hd
        have e27 : a'.eval (.tmp 27) = Value.bool false := hd ⟨13, Ground.data⟩ (by simp) rfl rfl
        have ec : ∀ v, a'.eval (.const v) = v := fun _ => rfl
        have ef : ∀ g, a'.eval (.func g) = .func (.func g) #[] #[] := fun _ => rfl
        clear hd hs
        refine wpv (v := Value.bool false) ?_ ⟨_, rfl, Grow.rfl' _, rfl⟩
        (generalize a'.eval = ev at ec ef e27 ⊢; simp [execOp, go_sem, *])
    · intro a' w' hg hs hd
      obtain ⟨sf, nf, cf, e6, h6⟩ : OwnRowM w.heap.size (chainO kinS (d ++ [x])) (a'.eval (.tmp 6)) w' := hd 14 (by simp) (by intro k h; cases h)
      have e7 : a'.eval (.tmp 7) = .bool false := hd 15 (by simp) (by intro k h; cases h)
      go_wp2_with fail
      refine bodyPost_ret (v := .tuple #[.slice sf nf cf, .bool false]) ?_ (by rw [hs.defers]; exact HDF) ⟨_, rfl, Grow.trans' G2.out hg, sf, nf, cf, rfl, h6⟩
      clear hd hs hstab
      simp [Act.eval] at e6 e7
      simp [results, Tryz.results103, go_sem]
      exact ⟨e6, e7⟩
set_option maxHeartbeats 1000000 in
theorem addM_truefalse (s : Option Addr) (n cap : Nat) (d : List Sm) (x : Sm) (w : World) (hbig : n ≤ 90000000000) (hd : IsSms w s n cap d) (hp : kinS.may x = true) (hq : coverB kinS d x = false) :
    Calls Tryz.prog 103 #[.agg #[.func (.func 93) #[] #[], .func (.func 119) #[] #[], .func (.func 120) #[] #[]], .slice s n cap, .agg #[.int .i64 x.f, .int .i64 x.t, .int .i64 x.k, .int .i64 x.ep, .int .i64 x.x, .int .i64 x.y, .int .i64 x.z]] w
      fun e w' => ∃ v, e = .returned v ∧ Grow w w' ∧ OwnAddM w.heap.size (chainO kinS (d ++ [x])) (true) v w' := by
  have HP := hide hp
  have HQ := hide hq
  clear hp hq
  have HD0 := hide hd
  clear hd
  go_enter Tryz.func103, Tryz.ntmps103
  go_wp2_with fail
  have G0 : Hid (Grow w ((w.alloc (.cells #[.func (.func 93) #[] #[], .func (.func 119) #[] #[], .func (.func 120) #[] #[]] 130)).alloc (.cells #[.int .i64 x.f, .int .i64 x.t, .int .i64 x.k, .int .i64 x.ep, .int .i64 x.x, .int .i64 x.y, .int .i64 x.z] 68))) := hide (Grow.trans' (Grow.alloc' _ _) (Grow.alloc' _ _))
  have KB : Hid (OBoxM ((w.alloc (.cells #[.func (.func 93) #[] #[], .func (.func 119) #[] #[], .func (.func 120) #[] #[]] 130)).alloc (.cells #[.int .i64 x.f, .int .i64 x.t, .int .i64 x.k, .int .i64 x.ep, .int .i64 x.x, .int .i64 x.y, .int .i64 x.z] 68)) w.heap.size) := hide ((OBoxM.new w).later (Grow.alloc' _ _))
  have KX : Hid (SBox ((w.alloc (.cells #[.func (.func 93) #[] #[], .func (.func 119) #[] #[], .func (.func 120) #[] #[]] 130)).alloc (.cells #[.int .i64 x.f, .int .i64 x.t, .int .i64 x.k, .int .i64 x.ep, .int .i64 x.x, .int .i64 x.y, .int .i64 x.z] 68)) (w.heap.size + 1) x) := hide (by simp [SBox, go_sem])
  generalize (w.alloc (.cells #[.func (.func 93) #[] #[], .func (.func 119) #[] #[], .func (.func 120) #[] #[]] 130)).alloc (.cells #[.int .i64 x.f, .int .i64 x.t, .int .i64 x.k, .int .i64 x.ep, .int .i64 x.x, .int .i64 x.y, .int .i64 x.z] 68) = w0 at *
  have HD := hide (HD0.out.later G0.out)
  clear HD0
  let FF : Nat → Value → World → Prop := fun i vF wF => match i with | 0 => vF = .slice s n cap | 1 => OwnRowM w0.heap.size d vF wF | 2 => vF = .agg #[.int .i64 x.f, .int .i64 x.t, .int .i64 x.k, .int .i64 x.ep, .int .i64 x.x, .int .i64 x.y, .int .i64 x.z] | 3 => IsRowM [x] vF wF | 4 => OwnRowM w0.heap.size (d ++ [x]) vF wF | 5 => OwnRowM w0.heap.size (d ++ [x]) vF wF | _ => True
  have hstab : ∀ k v w1 w2, Grow w1 w2 → FF k v w1 → FF k v w2 := by
    intro k v w1 w2 hg h
    match k with
    | 0 => exact h
    | 1 => exact OwnRowM.later hg h
    | 2 => exact h
    | 3 => exact IsRowM.later hg h
    | 4 => exact OwnRowM.later hg h
    | 5 => exact OwnRowM.later hg h
    | k + 6 => exact trivial
  refine wp_region_invK FF (fun i => match i with | 1 => some 4 | 3 => some 4 | _ => none) (by kernel_rfl) (by kernel_rfl) ?_ ?_
  · refine ⟨?_, ?_, ?_, ?_, ?_, ?_, trivial⟩
    · refine stepK_run hstab trivial (by intro j b h; cases h) ?_
      intro a' w' hg hs hd
      have e1 : a'.eval (.tmp 1) = .slice s n cap := hs.rest 1 rfl
      have ec : ∀ v, a'.eval (.const v) = v := fun _ => rfl
      have ef : ∀ g, a'.eval (.func g) = .func (.func g) #[] #[] := fun _ => rfl
      clear hd hs
      refine wpv (v := .slice s n cap) ?_ ⟨_, rfl, Grow.rfl' _, rfl⟩
      (generalize a'.eval = ev at ec ef e1 ⊢; simp [execOp, go_sem, *])
    · refine stepK_run hstab trivial (by intro j b h; cases h) ?_
      intro a' w' hg hs hd
      have e9 : a'.eval (.tmp 9) = .slice s n cap := hd ⟨0, Ground.data⟩ (by simp) rfl rfl
      have ec : ∀ v, a'.eval (.const v) = v := fun _ => rfl
      have ef : ∀ g, a'.eval (.func g) = .func (.func g) #[] #[] := fun _ => rfl
      clear hd hs
      refine wpc ?_ (Calls.mono (cloneM_in w0 s n cap d w' hg.size (by omega) (HD.out.later hg)) fun e w2 ⟨v, he, hb, hv⟩ => ⟨v, he, _, rfl, hb, hv⟩)
      (generalize a'.eval = ev at ec ef e9 ⊢; simp [execOp, go_sem, *])
    · refine stepK_run hstab trivial (by intro j b h; cases h) ?_
      intro a' w' hg hs hd
      have e5 : a'.eval (.tmp 5) = .pointer (some ⟨w.heap.size + 1, 0, none⟩) := hs.rest 5 rfl
      have ec : ∀ v, a'.eval (.const v) = v := fun _ => rfl
      have ef : ∀ g, a'.eval (.func g) = .func (.func g) #[] #[] := fun _ => rfl
      clear hd hs
      obtain ⟨x0, x1, x2, x3, x4, x5, x6⟩ := KX.out.later hg
      refine wpv (v := .agg #[.int .i64 x.f, .int .i64 x.t, .int .i64 x.k, .int .i64 x.ep, .int .i64 x.x, .int .i64 x.y, .int .i64 x.z]) ?_ ⟨_, rfl, Grow.rfl' _, rfl⟩
      (generalize a'.eval = ev at ec ef e5 ⊢; simp [execOp, go_sem, *])
    · refine stepK_run hstab trivial (by intro j b h; cases h) ?_
      intro a' w' hg hs hd
      have e11 : a'.eval (.tmp 11) = .agg #[.int .i64 x.f, .int .i64 x.t, .int .i64 x.k, .int .i64 x.ep, .int .i64 x.x, .int .i64 x.y, .int .i64 x.z] := hd ⟨2, Ground.data⟩ (by simp) rfl rfl
      have ec : ∀ v, a'.eval (.const v) = v := fun _ => rfl
      have ef : ∀ g, a'.eval (.func g) = .func (.func g) #[] #[] := fun _ => rfl
      clear hd hs
      refine wpv (v := .slice (some ⟨w'.heap.size, 0, none⟩) 1 1) (w' := w'.alloc (.cells #[.int .i64 x.f, .int .i64 x.t, .int .i64 x.k, .int .i64 x.ep, .int .i64 x.x, .int .i64 x.y, .int .i64 x.z] 68)) ?_ ⟨_, rfl, Grow.alloc' _ _, isRowM_one _ x⟩
      (generalize a'.eval = ev at ec ef e11 ⊢; simp [execOp, go_sem, *])
    · refine stepK_take rfl ?_
      intro a' w' hg hs hd
      obtain ⟨sc10, nc10, cc10, e10, h10⟩ : OwnRowM w0.heap.size d (a'.eval (.tmp 10)) w' := hd ⟨1, Ground.data⟩ (by simp) rfl rfl
      obtain ⟨sb12, nb12, cb12, e12, h12⟩ : IsRowM [x] (a'.eval (.tmp 12)) w' := hd ⟨3, Ground.data⟩ (by simp) rfl rfl
      have ec : ∀ v, a'.eval (.const v) = v := fun _ => rfl
      have ef : ∀ g, a'.eval (.func g) = .func (.func g) #[] #[] := fun _ => rfl
      clear hd hs
      obtain ⟨s2, c2, w2, hrun, hown, hgb⟩ := run_apv_sm w' 33 w0.heap.size sc10 nc10 cc10 d [x] h10 sb12 nb12 cb12 h12 (by have a1 := h10.1; have a2 := HD.out.1; have a3 := h12.1; simp at a3; omega) hg.size
      refine wpv (v := .slice s2 _ c2) (w' := w2) ?_ ⟨_, rfl, hgb.grow hg (Nat.le_refl _), ⟨s2, _, c2, rfl, hown⟩, ?_⟩
      rotate_left
      · intro j u hj h
        match j with
        | 0 => exact h
        | 1 => cases hj
        | 2 => exact h
        | 3 => cases hj
        | 4 => cases hj
        | 5 => cases hj
        | j + 6 => exact trivial
      · unfold execOp; simp only [resolve, invoke, builtin, Sem.run_bind, Sem.run_pure, Result.andThen_ok, List.map_toArray, List.map_cons, List.map_nil, e10, e12, hrun]
    · refine stepK_run hstab trivial (by intro j b h; cases h) ?_
      intro a' w' hg hs hd
      have hq : OwnRowM w0.heap.size (d ++ [x]) (a'.eval (.tmp 13)) w' := hd ⟨4, Ground.data⟩ (by simp) rfl rfl
      have ec : ∀ v, a'.eval (.const v) = v := fun _ => rfl
      have ef : ∀ g, a'.eval (.func g) = .func (.func g) #[] #[] := fun _ => rfl
      clear hd hs
      refine wpv (v := a'.eval (.tmp 13)) ?_ ⟨_, rfl, Grow.rfl' _, hq⟩
      simp [execOp, go_sem]
  · intro a' w' hg hs hd
    obtain ⟨sa, na, ca, e8, h8⟩ : OwnRowM w0.heap.size (d ++ [x]) (a'.eval (.tmp 8)) w' := hd 5 (by simp) (by intro k h; cases h)
    have E8 : a'.eval (.tmp 8) = .slice sa na ca := e8
    have E3 : a'.eval (.tmp 3) = .pointer (some ⟨w.heap.size, 0, none⟩) := hs.rest 3 rfl
    have E5 : a'.eval (.tmp 5) = .pointer (some ⟨w.heap.size + 1, 0, none⟩) := hs.rest 5 rfl
    have E1 : a'.eval (.tmp 1) = .slice s n cap := hs.rest 1 rfl
    have HSZ := hs.size
    have HDF := hs.defers
    have KB2 := hide (KB.out.later hg)
    have KX2 := hide (KX.out.later hg)
    have HD2 := hide (HD.out.later hg)
    have HA := hide h8
    have G2 := hide (Grow.trans' G0.out hg)
    have hna : na ≤ 90000000001 := by
      have a1 := h8.1
      have a2 := HD.out.1
      simp at a1
      omega
    clear hd hs e8 h8 hg KB KX HD hstab
    generalize a' = b1 at *
    generalize w' = w1 at *
    go_wp2_with fail
    let FF : Nat → Value → World → Prop := fun i vF wF => match i with | 0 => vF = .agg #[.func (.func 93) #[] #[], .func (.func 119) #[] #[], .func (.func 120) #[] #[]] | 1 => vF = .slice sa na ca | 2 => OwnRowM w.heap.size (chainO kinS (d ++ [x])) vF wF | 3 => vF = .pointer (some ⟨w.heap.size, 0, none⟩) | 4 => vF = .func (.func 93) #[] #[] | 5 => vF = .agg #[.int .i64 x.f, .int .i64 x.t, .int .i64 x.k, .int .i64 x.ep, .int .i64 x.x, .int .i64 x.y, .int .i64 x.z] | 6 => vF = .bool true | 7 => vF = .bool true | 8 => vF = .agg #[.func (.func 93) #[] #[], .func (.func 119) #[] #[], .func (.func 120) #[] #[]] | 9 => vF = .slice s n cap | 10 => vF = .agg #[.int .i64 x.f, .int .i64 x.t, .int .i64 x.k, .int .i64 x.ep, .int .i64 x.x, .int .i64 x.y, .int .i64 x.z] | 11 => vF = .bool false | 12 => vF = .bool true | 13 => vF = .bool true | 14 => OwnRowM w.heap.size (chainO kinS (d ++ [x])) vF wF | 15 => vF = .bool true | _ => True
    have hstab : ∀ k v w1 w2, Grow w1 w2 → FF k v w1 → FF k v w2 := by
      intro k v w1 w2 hg h
      match k with
      | 0 => exact h
      | 1 => exact h
      | 2 => exact OwnRowM.later hg h
      | 3 => exact h
      | 4 => exact h
      | 5 => exact h
      | 6 => exact h
      | 7 => exact h
      | 8 => exact h
      | 9 => exact h
      | 10 => exact h
      | 11 => exact h
      | 12 => exact h
      | 13 => exact h
      | 14 => exact OwnRowM.later hg h
      | 15 => exact h
      | k + 16 => exact trivial
    refine wp_region_invK FF (fun _ => none) (by kernel_rfl) (by rw [HSZ]; kernel_rfl) ?_ ?_
    · refine ⟨?_, ?_, ?_, ?_, ?_, ?_, ?_, ?_, ?_, ?_, ?_, ?_, ?_, ?_, ?_, ?_, trivial⟩
      · refine stepK_run hstab trivial (by intro j b h; cases h) ?_
        intro a' w' hg hs hd
        have e3 : a'.eval (.tmp 3) = .pointer (some ⟨w.heap.size, 0, none⟩) := (hs.rest 3 rfl).trans E3
        have ec : ∀ v, a'.eval (.const v) = v := fun _ => rfl
        have ef : ∀ g, a'.eval (.func g) = .func (.func g) #[] #[] := fun _ => rfl
        clear hd hs
        obtain ⟨o0, o1, o2⟩ := KB2.out.later hg
        refine wpv (v := .agg #[.func (.func 93) #[] #[], .func (.func 119) #[] #[], .func (.func 120) #[] #[]]) ?_ ⟨_, rfl, Grow.rfl' _, rfl⟩
        (generalize a'.eval = ev at ec ef e3 ⊢; simp [execOp, go_sem, *])
      · refine stepK_run hstab trivial (by intro j b h; cases h) ?_
        intro a' w' hg hs hd
        have e8 : a'.eval (.tmp 8) = .slice sa na ca := (hs.rest 8 rfl).trans E8
        have ec : ∀ v, a'.eval (.const v) = v := fun _ => rfl
        have ef : ∀ g, a'.eval (.func g) = .func (.func g) #[] #[] := fun _ => rfl
        clear hd hs
        refine wpv (v := .slice sa na ca) ?_ ⟨_, rfl, Grow.rfl' _, rfl⟩
        (generalize a'.eval = ev at ec ef e8 ⊢; simp [execOp, go_sem, *])
      · refine stepK_run hstab trivial (by intro j b h; cases h) ?_
        intro a' w' hg hs hd
        have e14 : a'.eval (.tmp 14) = .agg #[.func (.func 93) #[] #[], .func (.func 119) #[] #[], .func (.func 120) #[] #[]] := hd ⟨0, Ground.data⟩ (by simp) rfl rfl
        have e15 : a'.eval (.tmp 15) = .slice sa na ca := hd ⟨1, Ground.data⟩ (by simp) rfl rfl
        have ec : ∀ v, a'.eval (.const v) = v := fun _ => rfl
        have ef : ∀ g, a'.eval (.func g) = .func (.func g) #[] #[] := fun _ => rfl
        clear hd hs
        refine wpc ?_ (Calls.mono (lowM_in w.heap.size sa na ca (d ++ [x]) w' (Nat.le_trans G2.out.size hg.size) (by omega) (HA.out.is.later hg)) fun e w2 ⟨v, he, hb, hv⟩ => ⟨v, he, _, rfl, hb, hv⟩)
        (generalize a'.eval = ev at ec ef e14 e15 ⊢; simp [execOp, go_sem, *])
      · refine stepK_run hstab trivial (by intro j b h; cases h) ?_
        intro a' w' hg hs hd
        have e3 : a'.eval (.tmp 3) = .pointer (some ⟨w.heap.size, 0, none⟩) := (hs.rest 3 rfl).trans E3
        have ec : ∀ v, a'.eval (.const v) = v := fun _ => rfl
        have ef : ∀ g, a'.eval (.func g) = .func (.func g) #[] #[] := fun _ => rfl
        clear hd hs
        refine wpv (v := .pointer (some ⟨w.heap.size, 0, none⟩)) ?_ ⟨_, rfl, Grow.rfl' _, rfl⟩
        (generalize a'.eval = ev at ec ef e3 ⊢; simp [execOp, go_sem, *])
      · refine stepK_run hstab trivial (by intro j b h; cases h) ?_
        intro a' w' hg hs hd
        have e17 : a'.eval (.tmp 17) = .pointer (some ⟨w.heap.size, 0, none⟩) := hd ⟨3, Ground.data⟩ (by simp) rfl rfl
        have ec : ∀ v, a'.eval (.const v) = v := fun _ => rfl
        have ef : ∀ g, a'.eval (.func g) = .func (.func g) #[] #[] := fun _ => rfl
        clear hd hs
        obtain ⟨o0, o1, o2⟩ := KB2.out.later hg
        refine wpv (v := .func (.func 93) #[] #[]) ?_ ⟨_, rfl, Grow.rfl' _, rfl⟩
        (generalize a'.eval = ev at ec ef e17 ⊢; simp [execOp, go_sem, *])
      · refine stepK_run hstab trivial (by intro j b h; cases h) ?_
        intro a' w' hg hs hd
        have e5 : a'.eval (.tmp 5) = .pointer (some ⟨w.heap.size + 1, 0, none⟩) := (hs.rest 5 rfl).trans E5
        have ec : ∀ v, a'.eval (.const v) = v := fun _ => rfl
        have ef : ∀ g, a'.eval (.func g) = .func (.func g) #[] #[] := fun _ => rfl
        clear hd hs
        obtain ⟨x0, x1, x2, x3, x4, x5, x6⟩ := KX2.out.later hg
        refine wpv (v := .agg #[.int .i64 x.f, .int .i64 x.t, .int .i64 x.k, .int .i64 x.ep, .int .i64 x.x, .int .i64 x.y, .int .i64 x.z]) ?_ ⟨_, rfl, Grow.rfl' _, rfl⟩
        (generalize a'.eval = ev at ec ef e5 ⊢; simp [execOp, go_sem, *])
      · refine stepK_run hstab trivial (by intro j b h; cases h) ?_
        intro a' w' hg hs hd
        have e18 : a'.eval (.tmp 18) = .func (.func 93) #[] #[] := hd ⟨4, Ground.data⟩ (by simp) rfl rfl
        have e19 : a'.eval (.tmp 19) = .agg #[.int .i64 x.f, .int .i64 x.t, .int .i64 x.k, .int .i64 x.ep, .int .i64 x.x, .int .i64 x.y, .int .i64 x.z] := hd ⟨5, Ground.data⟩ (by simp) rfl rfl
        have ec : ∀ v, a'.eval (.const v) = v := fun _ => rfl
        have ef : ∀ g, a'.eval (.func g) = .func (.func g) #[] #[] := fun _ => rfl
        clear hd hs
        refine wpc ?_ (Calls.mono (mayM_at x HP.out w') fun e w2 ⟨he, hb⟩ => ⟨_, he, _, rfl, hb, rfl⟩)
        (generalize a'.eval = ev at ec ef e18 e19 ⊢; simp [execOp, go_sem, *])
      · refine stepK_run hstab trivial (by intro j b h; cases h) ?_
        intro a' w' hg hs hd
        have e20 : a'.eval (.tmp 20) = .bool true := hd ⟨6, Ground.data⟩ (by simp) rfl rfl
        have ec : ∀ v, a'.eval (.const v) = v := fun _ => rfl
        have ef : ∀ g, a'.eval (.func g) = .func (.func g) #[] #[] := fun _ => rfl
        clear hd hs
        refine wpv (v := .bool true) ?_ ⟨_, rfl, Grow.rfl' _, rfl⟩
        (generalize a'.eval = ev at ec ef e20 ⊢; simp [execOp, go_sem, *])
      · refine stepK_run hstab ⟨⟨⟨7, Ground.guard⟩, by simp, rfl, rfl⟩, fun _ _ h => h⟩ (by intro j b h; cases h; rfl) ?_
        intro a' w' hg hs hd
        have e3 : a'.eval (.tmp 3) = .pointer (some ⟨w.heap.size, 0, none⟩) := (hs.rest 3 rfl).trans E3
        have ec : ∀ v, a'.eval (.const v) = v := fun _ => rfl
        have ef : ∀ g, a'.eval (.func g) = .func (.func g) #[] #[] := fun _ => rfl
        clear hd hs
        obtain ⟨o0, o1, o2⟩ := KB2.out.later hg
        refine wpv (v := .agg #[.func (.func 93) #[] #[], .func (.func 119) #[] #[], .func (.func 120) #[] #[]]) ?_ ⟨_, rfl, Grow.rfl' _, rfl⟩
        (generalize a'.eval = ev at ec ef e3 ⊢; simp [execOp, go_sem, *])
      · refine stepK_run hstab ⟨⟨⟨7, Ground.guard⟩, by simp, rfl, rfl⟩, fun _ _ h => h⟩ (by intro j b h; cases h; rfl) ?_
        intro a' w' hg hs hd
        have e1 : a'.eval (.tmp 1) = .slice s n cap := (hs.rest 1 rfl).trans E1
        have ec : ∀ v, a'.eval (.const v) = v := fun _ => rfl
        have ef : ∀ g, a'.eval (.func g) = .func (.func g) #[] #[] := fun _ => rfl
        clear hd hs
        refine wpv (v := .slice s n cap) ?_ ⟨_, rfl, Grow.rfl' _, rfl⟩
        (generalize a'.eval = ev at ec ef e1 ⊢; simp [execOp, go_sem, *])
      · refine stepK_run hstab ⟨⟨⟨7, Ground.guard⟩, by simp, rfl, rfl⟩, fun _ _ h => h⟩ (by intro j b h; cases h; rfl) ?_
        intro a' w' hg hs hd
        have e5 : a'.eval (.tmp 5) = .pointer (some ⟨w.heap.size + 1, 0, none⟩) := (hs.rest 5 rfl).trans E5
        have ec : ∀ v, a'.eval (.const v) = v := fun _ => rfl
        have ef : ∀ g, a'.eval (.func g) = .func (.func g) #[] #[] := fun _ => rfl
        clear hd hs
        obtain ⟨x0, x1, x2, x3, x4, x5, x6⟩ := KX2.out.later hg
        refine wpv (v := .agg #[.int .i64 x.f, .int .i64 x.t, .int .i64 x.k, .int .i64 x.ep, .int .i64 x.x, .int .i64 x.y, .int .i64 x.z]) ?_ ⟨_, rfl, Grow.rfl' _, rfl⟩
        (generalize a'.eval = ev at ec ef e5 ⊢; simp [execOp, go_sem, *])
      · refine stepK_run hstab ⟨⟨⟨7, Ground.chain⟩, by simp, rfl, rfl⟩, fun _ _ h => h⟩ (by intro j b h; cases h; rfl) ?_
        intro a' w' hg hs hd
        have e22 : a'.eval (.tmp 22) = .agg #[.func (.func 93) #[] #[], .func (.func 119) #[] #[], .func (.func 120) #[] #[]] := hd ⟨8, Ground.data⟩ (by simp) rfl rfl
        have e23 : a'.eval (.tmp 23) = .slice s n cap := hd ⟨9, Ground.data⟩ (by simp) rfl rfl
        have e24 : a'.eval (.tmp 24) = .agg #[.int .i64 x.f, .int .i64 x.t, .int .i64 x.k, .int .i64 x.ep, .int .i64 x.x, .int .i64 x.y, .int .i64 x.z] := hd ⟨10, Ground.data⟩ (by simp) rfl rfl
        have ec : ∀ v, a'.eval (.const v) = v := fun _ => rfl
        have ef : ∀ g, a'.eval (.func g) = .func (.func g) #[] #[] := fun _ => rfl
        clear hd hs
        refine wpc ?_ (Calls.mono (covM_at s n cap d x HQ.out w' (by omega) (HD2.out.later hg)) fun e w2 ⟨he, hb⟩ => ⟨_, he, _, rfl, hb, rfl⟩)
        (generalize a'.eval = ev at ec ef e22 e23 e24 ⊢; simp [execOp, go_sem, *])
      · refine stepK_run hstab ⟨⟨⟨7, Ground.guard⟩, by simp, rfl, rfl⟩, fun _ _ h => h⟩ (by intro j b h; cases h; rfl) ?_
        intro a' w' hg hs hd
        have e25 : a'.eval (.tmp 25) = .bool false := hd ⟨11, Ground.data⟩ (by simp) rfl rfl
        have ec : ∀ v, a'.eval (.const v) = v := fun _ => rfl
        have ef : ∀ g, a'.eval (.func g) = .func (.func g) #[] #[] := fun _ => rfl
        clear hd hs
        refine wpv (v := .bool true) ?_ ⟨_, rfl, Grow.rfl' _, rfl⟩
        (generalize a'.eval = ev at ec ef e25 ⊢; simp [execOp, go_sem, *])
      · refine stepK_run hstab trivial (by intro j b h; cases h) ?_
        intro a' w' hg hs hd
        have e21 : a'.eval (.tmp 21) = .bool true := hd ⟨7, Ground.data⟩ (by simp) rfl rfl
        have e26 : a'.eval (.tmp 26) = .bool true := hd ⟨12, Ground.data⟩ (by simp) rfl rfl
        have ec : ∀ v, a'.eval (.const v) = v := fun _ => rfl
        have ef : ∀ g, a'.eval (.func g) = .func (.func g) #[] #[] := fun _ => rfl
        clear hd hs
        refine wpv (v := .bool true) ?_ ⟨_, rfl, Grow.rfl' _, rfl⟩
        (generalize a'.eval = ev at ec ef e21 e26 ⊢; simp [execOp, go_sem, *])
      · refine stepK_run hstab trivial (by intro j b h; cases h) ?_
        intro a' w' hg hs hd
        have hq : OwnRowM w.heap.size (chainO kinS (d ++ [x])) (a'.eval (.tmp 16)) w' := hd ⟨2, Ground.data⟩ (by simp) rfl rfl
        have ec : ∀ v, a'.eval (.const v) = v := fun _ => rfl
        have ef : ∀ g, a'.eval (.func g) = .func (.func g) #[] #[] := fun _ => rfl
        clear hd hs
        refine wpv (v := a'.eval (.tmp 16)) ?_ ⟨_, rfl, Grow.rfl' _, hq⟩
        simp [execOp, go_sem]
      · refine stepK_run hstab trivial (by intro j b h; cases h) ?_
        intro a' w' hg hs hd
        have e27 : a'.eval (.tmp 27) = .bool true := hd ⟨13, Ground.data⟩ (by simp) rfl rfl
        have ec : ∀ v, a'.eval (.const v) = v := fun _ => rfl
        have ef : ∀ g, a'.eval (.func g) = .func (.func g) #[] #[] := fun _ => rfl
        clear hd hs
        refine wpv (v := .bool true) ?_ ⟨_, rfl, Grow.rfl' _, rfl⟩
        (generalize a'.eval = ev at ec ef e27 ⊢; simp [execOp, go_sem, *])
    · intro a' w' hg hs hd
      obtain ⟨sf, nf, cf, e6, h6⟩ : OwnRowM w.heap.size (chainO kinS (d ++ [x])) (a'.eval (.tmp 6)) w' := hd 14 (by simp) (by intro k h; cases h)
      have e7 : a'.eval (.tmp 7) = .bool true := hd 15 (by simp) (by intro k h; cases h)
      go_wp2_with fail
      refine bodyPost_ret (v := .tuple #[.slice sf nf cf, .bool true]) ?_ (by rw [hs.defers]; exact HDF) ⟨_, rfl, Grow.trans' G2.out hg, sf, nf, cf, rfl, h6⟩
      clear hd hs hstab
      simp [Act.eval] at e6 e7
      simp [results, Tryz.results103, go_sem]
      exact ⟨e6, e7⟩
set_option maxHeartbeats 1000000 in
theorem addM_truetrue (s : Option Addr) (n cap : Nat) (d : List Sm) (x : Sm) (w : World) (hbig : n ≤ 90000000000) (hd : IsSms w s n cap d) (hp : kinS.may x = true) (hq : coverB kinS d x = true) :
    Calls Tryz.prog 103 #[.agg #[.func (.func 93) #[] #[], .func (.func 119) #[] #[], .func (.func 120) #[] #[]], .slice s n cap, .agg #[.int .i64 x.f, .int .i64 x.t, .int .i64 x.k, .int .i64 x.ep, .int .i64 x.x, .int .i64 x.y, .int .i64 x.z]] w
      fun e w' => ∃ v, e = .returned v ∧ Grow w w' ∧ OwnAddM w.heap.size (chainO kinS (d ++ [x])) (false) v w' := by
  have HP := hide hp
  have HQ := hide hq
  clear hp hq
  have HD0 := hide hd
  clear hd
  go_enter Tryz.func103, Tryz.ntmps103
  go_wp2_with fail
  have G0 : Hid (Grow w ((w.alloc (.cells #[.func (.func 93) #[] #[], .func (.func 119) #[] #[], .func (.func 120) #[] #[]] 130)).alloc (.cells #[.int .i64 x.f, .int .i64 x.t, .int .i64 x.k, .int .i64 x.ep, .int .i64 x.x, .int .i64 x.y, .int .i64 x.z] 68))) := hide (Grow.trans' (Grow.alloc' _ _) (Grow.alloc' _ _))
  have KB : Hid (OBoxM ((w.alloc (.cells #[.func (.func 93) #[] #[], .func (.func 119) #[] #[], .func (.func 120) #[] #[]] 130)).alloc (.cells #[.int .i64 x.f, .int .i64 x.t, .int .i64 x.k, .int .i64 x.ep, .int .i64 x.x, .int .i64 x.y, .int .i64 x.z] 68)) w.heap.size) := hide ((OBoxM.new w).later (Grow.alloc' _ _))
  have KX : Hid (SBox ((w.alloc (.cells #[.func (.func 93) #[] #[], .func (.func 119) #[] #[], .func (.func 120) #[] #[]] 130)).alloc (.cells #[.int .i64 x.f, .int .i64 x.t, .int .i64 x.k, .int .i64 x.ep, .int .i64 x.x, .int .i64 x.y, .int .i64 x.z] 68)) (w.heap.size + 1) x) := hide (by simp [SBox, go_sem])
  generalize (w.alloc (.cells #[.func (.func 93) #[] #[], .func (.func 119) #[] #[], .func (.func 120) #[] #[]] 130)).alloc (.cells #[.int .i64 x.f, .int .i64 x.t, .int .i64 x.k, .int .i64 x.ep, .int .i64 x.x, .int .i64 x.y, .int .i64 x.z] 68) = w0 at *
  have HD := hide (HD0.out.later G0.out)
  clear HD0
  let FF : Nat → Value → World → Prop := fun i vF wF => match i with | 0 => vF = .slice s n cap | 1 => OwnRowM w0.heap.size d vF wF | 2 => vF = .agg #[.int .i64 x.f, .int .i64 x.t, .int .i64 x.k, .int .i64 x.ep, .int .i64 x.x, .int .i64 x.y, .int .i64 x.z] | 3 => IsRowM [x] vF wF | 4 => OwnRowM w0.heap.size (d ++ [x]) vF wF | 5 => OwnRowM w0.heap.size (d ++ [x]) vF wF | _ => True
  have hstab : ∀ k v w1 w2, Grow w1 w2 → FF k v w1 → FF k v w2 := by
    intro k v w1 w2 hg h
    match k with
    | 0 => exact h
    | 1 => exact OwnRowM.later hg h
    | 2 => exact h
    | 3 => exact IsRowM.later hg h
    | 4 => exact OwnRowM.later hg h
    | 5 => exact OwnRowM.later hg h
    | k + 6 => exact trivial
  refine wp_region_invK FF (fun i => match i with | 1 => some 4 | 3 => some 4 | _ => none) (by kernel_rfl) (by kernel_rfl) ?_ ?_
  · refine ⟨?_, ?_, ?_, ?_, ?_, ?_, trivial⟩
    · refine stepK_run hstab trivial (by intro j b h; cases h) ?_
      intro a' w' hg hs hd
      have e1 : a'.eval (.tmp 1) = .slice s n cap := hs.rest 1 rfl
      have ec : ∀ v, a'.eval (.const v) = v := fun _ => rfl
      have ef : ∀ g, a'.eval (.func g) = .func (.func g) #[] #[] := fun _ => rfl
      clear hd hs
      refine wpv (v := .slice s n cap) ?_ ⟨_, rfl, Grow.rfl' _, rfl⟩
      (generalize a'.eval = ev at ec ef e1 ⊢; simp [execOp, go_sem, *])
    · refine stepK_run hstab trivial (by intro j b h; cases h) ?_
      intro a' w' hg hs hd
      have e9 : a'.eval (.tmp 9) = .slice s n cap := hd ⟨0, Ground.data⟩ (by simp) rfl rfl
      have ec : ∀ v, a'.eval (.const v) = v := fun _ => rfl
      have ef : ∀ g, a'.eval (.func g) = .func (.func g) #[] #[] := fun _ => rfl
      clear hd hs
      refine wpc ?_ (Calls.mono (cloneM_in w0 s n cap d w' hg.size (by omega) (HD.out.later hg)) fun e w2 ⟨v, he, hb, hv⟩ => ⟨v, he, _, rfl, hb, hv⟩)
      (generalize a'.eval = ev at ec ef e9 ⊢; simp [execOp, go_sem, *])
    · refine stepK_run hstab trivial (by intro j b h; cases h) ?_
      intro a' w' hg hs hd
      have e5 : a'.eval (.tmp 5) = .pointer (some ⟨w.heap.size + 1, 0, none⟩) := hs.rest 5 rfl
      have ec : ∀ v, a'.eval (.const v) = v := fun _ => rfl
      have ef : ∀ g, a'.eval (.func g) = .func (.func g) #[] #[] := fun _ => rfl
      clear hd hs
      obtain ⟨x0, x1, x2, x3, x4, x5, x6⟩ := KX.out.later hg
      refine wpv (v := .agg #[.int .i64 x.f, .int .i64 x.t, .int .i64 x.k, .int .i64 x.ep, .int .i64 x.x, .int .i64 x.y, .int .i64 x.z]) ?_ ⟨_, rfl, Grow.rfl' _, rfl⟩
      (generalize a'.eval = ev at ec ef e5 ⊢; simp [execOp, go_sem, *])
    · refine stepK_run hstab trivial (by intro j b h; cases h) ?_
      intro a' w' hg hs hd
      have e11 : a'.eval (.tmp 11) = .agg #[.int .i64 x.f, .int .i64 x.t, .int .i64 x.k, .int .i64 x.ep, .int .i64 x.x, .int .i64 x.y, .int .i64 x.z] := hd ⟨2, Ground.data⟩ (by simp) rfl rfl
      have ec : ∀ v, a'.eval (.const v) = v := fun _ => rfl
      have ef : ∀ g, a'.eval (.func g) = .func (.func g) #[] #[] := fun _ => rfl
      clear hd hs
      refine wpv (v := .slice (some ⟨w'.heap.size, 0, none⟩) 1 1) (w' := w'.alloc (.cells #[.int .i64 x.f, .int .i64 x.t, .int .i64 x.k, .int .i64 x.ep, .int .i64 x.x, .int .i64 x.y, .int .i64 x.z] 68)) ?_ ⟨_, rfl, Grow.alloc' _ _, isRowM_one _ x⟩
      (generalize a'.eval = ev at ec ef e11 ⊢; simp [execOp, go_sem, *])
    · refine stepK_take rfl ?_
      intro a' w' hg hs hd
      obtain ⟨sc10, nc10, cc10, e10, h10⟩ : OwnRowM w0.heap.size d (a'.eval (.tmp 10)) w' := hd ⟨1, Ground.data⟩ (by simp) rfl rfl
      obtain ⟨sb12, nb12, cb12, e12, h12⟩ : IsRowM [x] (a'.eval (.tmp 12)) w' := hd ⟨3, Ground.data⟩ (by simp) rfl rfl
      have ec : ∀ v, a'.eval (.const v) = v := fun _ => rfl
      have ef : ∀ g, a'.eval (.func g) = .func (.func g) #[] #[] := fun _ => rfl
      clear hd hs
      obtain ⟨s2, c2, w2, hrun, hown, hgb⟩ := run_apv_sm w' 33 w0.heap.size sc10 nc10 cc10 d [x] h10 sb12 nb12 cb12 h12 (by have a1 := h10.1; have a2 := HD.out.1; have a3 := h12.1; simp at a3; omega) hg.size
      refine wpv (v := .slice s2 _ c2) (w' := w2) ?_ ⟨_, rfl, hgb.grow hg (Nat.le_refl _), ⟨s2, _, c2, rfl, hown⟩, ?_⟩
      rotate_left
      · intro j u hj h
        match j with
        | 0 => exact h
        | 1 => cases hj
        | 2 => exact h
        | 3 => cases hj
        | 4 => cases hj
        | 5 => cases hj
        | j + 6 => exact trivial
      · unfold execOp; simp only [resolve, invoke, builtin, Sem.run_bind, Sem.run_pure, Result.andThen_ok, List.map_toArray, List.map_cons, List.map_nil, e10, e12, hrun]
    · refine stepK_run hstab trivial (by intro j b h; cases h) ?_
      intro a' w' hg hs hd
      have hq : OwnRowM w0.heap.size (d ++ [x]) (a'.eval (.tmp 13)) w' := hd ⟨4, Ground.data⟩ (by simp) rfl rfl
      have ec : ∀ v, a'.eval (.const v) = v := fun _ => rfl
      have ef : ∀ g, a'.eval (.func g) = .func (.func g) #[] #[] := fun _ => rfl
      clear hd hs
      refine wpv (v := a'.eval (.tmp 13)) ?_ ⟨_, rfl, Grow.rfl' _, hq⟩
      simp [execOp, go_sem]
  · intro a' w' hg hs hd
    obtain ⟨sa, na, ca, e8, h8⟩ : OwnRowM w0.heap.size (d ++ [x]) (a'.eval (.tmp 8)) w' := hd 5 (by simp) (by intro k h; cases h)
    have E8 : a'.eval (.tmp 8) = .slice sa na ca := e8
    have E3 : a'.eval (.tmp 3) = .pointer (some ⟨w.heap.size, 0, none⟩) := hs.rest 3 rfl
    have E5 : a'.eval (.tmp 5) = .pointer (some ⟨w.heap.size + 1, 0, none⟩) := hs.rest 5 rfl
    have E1 : a'.eval (.tmp 1) = .slice s n cap := hs.rest 1 rfl
    have HSZ := hs.size
    have HDF := hs.defers
    have KB2 := hide (KB.out.later hg)
    have KX2 := hide (KX.out.later hg)
    have HD2 := hide (HD.out.later hg)
    have HA := hide h8
    have G2 := hide (Grow.trans' G0.out hg)
    have hna : na ≤ 90000000001 := by
      have a1 := h8.1
      have a2 := HD.out.1
      simp at a1
      omega
    clear hd hs e8 h8 hg KB KX HD hstab
    generalize a' = b1 at *
    generalize w' = w1 at *
    go_wp2_with fail
    let FF : Nat → Value → World → Prop := fun i vF wF => match i with | 0 => vF = .agg #[.func (.func 93) #[] #[], .func (.func 119) #[] #[], .func (.func 120) #[] #[]] | 1 => vF = .slice sa na ca | 2 => OwnRowM w.heap.size (chainO kinS (d ++ [x])) vF wF | 3 => vF = .pointer (some ⟨w.heap.size, 0, none⟩) | 4 => vF = .func (.func 93) #[] #[] | 5 => vF = .agg #[.int .i64 x.f, .int .i64 x.t, .int .i64 x.k, .int .i64 x.ep, .int .i64 x.x, .int .i64 x.y, .int .i64 x.z] | 6 => vF = .bool true | 7 => vF = .bool true | 8 => vF = .agg #[.func (.func 93) #[] #[], .func (.func 119) #[] #[], .func (.func 120) #[] #[]] | 9 => vF = .slice s n cap | 10 => vF = .agg #[.int .i64 x.f, .int .i64 x.t, .int .i64 x.k, .int .i64 x.ep, .int .i64 x.x, .int .i64 x.y, .int .i64 x.z] | 11 => vF = .bool true | 12 => vF = .bool false | 13 => vF = .bool false | 14 => OwnRowM w.heap.size (chainO kinS (d ++ [x])) vF wF | 15 => vF = .bool false | _ => True
    have hstab : ∀ k v w1 w2, Grow w1 w2 → FF k v w1 → FF k v w2 := by
      intro k v w1 w2 hg h
      match k with
      | 0 => exact h
      | 1 => exact h
      | 2 => exact OwnRowM.later hg h
      | 3 => exact h
      | 4 => exact h
      | 5 => exact h
      | 6 => exact h
      | 7 => exact h
      | 8 => exact h
      | 9 => exact h
      | 10 => exact h
      | 11 => exact h
      | 12 => exact h
      | 13 => exact h
      | 14 => exact OwnRowM.later hg h
      | 15 => exact h
      | k + 16 => exact trivial
    refine wp_region_invK FF (fun _ => none) (by kernel_rfl) (by rw [HSZ]; kernel_rfl) ?_ ?_
    · refine ⟨?_, ?_, ?_, ?_, ?_, ?_, ?_, ?_, ?_, ?_, ?_, ?_, ?_, ?_, ?_, ?_, trivial⟩
      · refine stepK_run hstab trivial (by intro j b h; cases h) ?_
        intro a' w' hg hs hd
        have e3 : a'.eval (.tmp 3) = .pointer (some ⟨w.heap.size, 0, none⟩) := (hs.rest 3 rfl).trans E3
        have ec : ∀ v, a'.eval (.const v) = v := fun _ => rfl
        have ef : ∀ g, a'.eval (.func g) = .func (.func g) #[] #[] := fun _ => rfl
        clear hd hs
        obtain ⟨o0, o1, o2⟩ := KB2.out.later hg
        refine wpv (v := .agg #[.func (.func 93) #[] #[], .func (.func 119) #[] #[], .func (.func 120) #[] #[]]) ?_ ⟨_, rfl, Grow.rfl' _, rfl⟩
        (generalize a'.eval = ev at ec ef e3 ⊢; simp [execOp, go_sem, *])
      · refine stepK_run hstab trivial (by intro j b h; cases h) ?_
        intro a' w' hg hs hd
        have e8 : a'.eval (.tmp 8) = .slice sa na ca := (hs.rest 8 rfl).trans E8
        have ec : ∀ v, a'.eval (.const v) = v := fun _ => rfl
        have ef : ∀ g, a'.eval (.func g) = .func (.func g) #[] #[] := fun _ => rfl
        clear hd hs
        refine wpv (v := .slice sa na ca) ?_ ⟨_, rfl, Grow.rfl' _, rfl⟩
        (generalize a'.eval = ev at ec ef e8 ⊢; simp [execOp, go_sem, *])
      · refine stepK_run hstab trivial (by intro j b h; cases h) ?_
        intro a' w' hg hs hd
        have e14 : a'.eval (.tmp 14) = .agg #[.func (.func 93) #[] #[], .func (.func 119) #[] #[], .func (.func 120) #[] #[]] := hd ⟨0, Ground.data⟩ (by simp) rfl rfl
        have e15 : a'.eval (.tmp 15) = .slice sa na ca := hd ⟨1, Ground.data⟩ (by simp) rfl rfl
        have ec : ∀ v, a'.eval (.const v) = v := fun _ => rfl
        have ef : ∀ g, a'.eval (.func g) = .func (.func g) #[] #[] := fun _ => rfl
        clear hd hs
        refine wpc ?_ (Calls.mono (lowM_in w.heap.size sa na ca (d ++ [x]) w' (Nat.le_trans G2.out.size hg.size) (by omega) (HA.out.is.later hg)) fun e w2 ⟨v, he, hb, hv⟩ => ⟨v, he, _, rfl, hb, hv⟩)
        (generalize a'.eval = ev at ec ef e14 e15 ⊢; simp [execOp, go_sem, *])
      · refine stepK_run hstab trivial (by intro j b h; cases h) ?_
        intro a' w' hg hs hd
        have e3 : a'.eval (.tmp 3) = .pointer (some ⟨w.heap.size, 0, none⟩) := (hs.rest 3 rfl).trans E3
        have ec : ∀ v, a'.eval (.const v) = v := fun _ => rfl
        have ef : ∀ g, a'.eval (.func g) = .func (.func g) #[] #[] := fun _ => rfl
        clear hd hs
        refine wpv (v := .pointer (some ⟨w.heap.size, 0, none⟩)) ?_ ⟨_, rfl, Grow.rfl' _, rfl⟩
        (generalize a'.eval = ev at ec ef e3 ⊢; simp [execOp, go_sem, *])
      · refine stepK_run hstab trivial (by intro j b h; cases h) ?_
        intro a' w' hg hs hd
        have e17 : a'.eval (.tmp 17) = .pointer (some ⟨w.heap.size, 0, none⟩) := hd ⟨3, Ground.data⟩ (by simp) rfl rfl
        have ec : ∀ v, a'.eval (.const v) = v := fun _ => rfl
        have ef : ∀ g, a'.eval (.func g) = .func (.func g) #[] #[] := fun _ => rfl
        clear hd hs
        obtain ⟨o0, o1, o2⟩ := KB2.out.later hg
        refine wpv (v := .func (.func 93) #[] #[]) ?_ ⟨_, rfl, Grow.rfl' _, rfl⟩
        (generalize a'.eval = ev at ec ef e17 ⊢; simp [execOp, go_sem, *])
      · refine stepK_run hstab trivial (by intro j b h; cases h) ?_
        intro a' w' hg hs hd
        have e5 : a'.eval (.tmp 5) = .pointer (some ⟨w.heap.size + 1, 0, none⟩) := (hs.rest 5 rfl).trans E5
        have ec : ∀ v, a'.eval (.const v) = v := fun _ => rfl
        have ef : ∀ g, a'.eval (.func g) = .func (.func g) #[] #[] := fun _ => rfl
        clear hd hs
        obtain ⟨x0, x1, x2, x3, x4, x5, x6⟩ := KX2.out.later hg
        refine wpv (v := .agg #[.int .i64 x.f, .int .i64 x.t, .int .i64 x.k, .int .i64 x.ep, .int .i64 x.x, .int .i64 x.y, .int .i64 x.z]) ?_ ⟨_, rfl, Grow.rfl' _, rfl⟩
        (generalize a'.eval = ev at ec ef e5 ⊢; simp [execOp, go_sem, *])
      · refine stepK_run hstab trivial (by intro j b h; cases h) ?_
        intro a' w' hg hs hd
        have e18 : a'.eval (.tmp 18) = .func (.func 93) #[] #[] := hd ⟨4, Ground.data⟩ (by simp) rfl rfl
        have e19 : a'.eval (.tmp 19) = .agg #[.int .i64 x.f, .int .i64 x.t, .int .i64 x.k, .int .i64 x.ep, .int .i64 x.x, .int .i64 x.y, .int .i64 x.z] := hd ⟨5, Ground.data⟩ (by simp) rfl rfl
        have ec : ∀ v, a'.eval (.const v) = v := fun _ => rfl
        have ef : ∀ g, a'.eval (.func g) = .func (.func g) #[] #[] := fun _ => rfl
        clear hd hs
        refine wpc ?_ (Calls.mono (mayM_at x HP.out w') fun e w2 ⟨he, hb⟩ => ⟨_, he, _, rfl, hb, rfl⟩)
        (generalize a'.eval = ev at ec ef e18 e19 ⊢; simp [execOp, go_sem, *])
      · refine stepK_run hstab trivial (by intro j b h; cases h) ?_
        intro a' w' hg hs hd
        have e20 : a'.eval (.tmp 20) = .bool true := hd ⟨6, Ground.data⟩ (by simp) rfl rfl
        have ec : ∀ v, a'.eval (.const v) = v := fun _ => rfl
        have ef : ∀ g, a'.eval (.func g) = .func (.func g) #[] #[] := fun _ => rfl
        clear hd hs
        refine wpv (v := .bool true) ?_ ⟨_, rfl, Grow.rfl' _, rfl⟩
        (generalize a'.eval = ev at ec ef e20 ⊢; simp [execOp, go_sem, *])
      · refine stepK_run hstab ⟨⟨⟨7, Ground.guard⟩, by simp, rfl, rfl⟩, fun _ _ h => h⟩ (by intro j b h; cases h; rfl) ?_
        intro a' w' hg hs hd
        have e3 : a'.eval (.tmp 3) = .pointer (some ⟨w.heap.size, 0, none⟩) := (hs.rest 3 rfl).trans E3
        have ec : ∀ v, a'.eval (.const v) = v := fun _ => rfl
        have ef : ∀ g, a'.eval (.func g) = .func (.func g) #[] #[] := fun _ => rfl
        clear hd hs
        obtain ⟨o0, o1, o2⟩ := KB2.out.later hg
        refine wpv (v := .agg #[.func (.func 93) #[] #[], .func (.func 119) #[] #[], .func (.func 120) #[] #[]]) ?_ ⟨_, rfl, Grow.rfl' _, rfl⟩
        (generalize a'.eval = ev at ec ef e3 ⊢; simp [execOp, go_sem, *])
      · refine stepK_run hstab ⟨⟨⟨7, Ground.guard⟩, by simp, rfl, rfl⟩, fun _ _ h => h⟩ (by intro j b h; cases h; rfl) ?_
        intro a' w' hg hs hd
        have e1 : a'.eval (.tmp 1) = .slice s n cap := (hs.rest 1 rfl).trans E1
        have ec : ∀ v, a'.eval (.const v) = v := fun _ => rfl
        have ef : ∀ g, a'.eval (.func g) = .func (.func g) #[] #[] := fun _ => rfl
        clear hd hs
        refine wpv (v := .slice s n cap) ?_ ⟨_, rfl, Grow.rfl' _, rfl⟩
        (generalize a'.eval = ev at ec ef e1 ⊢; simp [execOp, go_sem, *])
      · refine stepK_run hstab ⟨⟨⟨7, Ground.guard⟩, by simp, rfl, rfl⟩, fun _ _ h => h⟩ (by intro j b h; cases h; rfl) ?_
        intro a' w' hg hs hd
        have e5 : a'.eval (.tmp 5) = .pointer (some ⟨w.heap.size + 1, 0, none⟩) := (hs.rest 5 rfl).trans E5
        have ec : ∀ v, a'.eval (.const v) = v := fun _ => rfl
        have ef : ∀ g, a'.eval (.func g) = .func (.func g) #[] #[] := fun _ => rfl
        clear hd hs
        obtain ⟨x0, x1, x2, x3, x4, x5, x6⟩ := KX2.out.later hg
        refine wpv (v := .agg #[.int .i64 x.f, .int .i64 x.t, .int .i64 x.k, .int .i64 x.ep, .int .i64 x.x, .int .i64 x.y, .int .i64 x.z]) ?_ ⟨_, rfl, Grow.rfl' _, rfl⟩
        (generalize a'.eval = ev at ec ef e5 ⊢; simp [execOp, go_sem, *])
      · refine stepK_run hstab ⟨⟨⟨7, Ground.chain⟩, by simp, rfl, rfl⟩, fun _ _ h => h⟩ (by intro j b h; cases h; rfl) ?_
        intro a' w' hg hs hd
        have e22 : a'.eval (.tmp 22) = .agg #[.func (.func 93) #[] #[], .func (.func 119) #[] #[], .func (.func 120) #[] #[]] := hd ⟨8, Ground.data⟩ (by simp) rfl rfl
        have e23 : a'.eval (.tmp 23) = .slice s n cap := hd ⟨9, Ground.data⟩ (by simp) rfl rfl
        have e24 : a'.eval (.tmp 24) = .agg #[.int .i64 x.f, .int .i64 x.t, .int .i64 x.k, .int .i64 x.ep, .int .i64 x.x, .int .i64 x.y, .int .i64 x.z] := hd ⟨10, Ground.data⟩ (by simp) rfl rfl
        have ec : ∀ v, a'.eval (.const v) = v := fun _ => rfl
        have ef : ∀ g, a'.eval (.func g) = .func (.func g) #[] #[] := fun _ => rfl
        clear hd hs
        refine wpc ?_ (Calls.mono (covM_at s n cap d x HQ.out w' (by omega) (HD2.out.later hg)) fun e w2 ⟨he, hb⟩ => ⟨_, he, _, rfl, hb, rfl⟩)
        (generalize a'.eval = ev at ec ef e22 e23 e24 ⊢; simp [execOp, go_sem, *])
      · refine stepK_run hstab ⟨⟨⟨7, Ground.guard⟩, by simp, rfl, rfl⟩, fun _ _ h => h⟩ (by intro j b h; cases h; rfl) ?_
        intro a' w' hg hs hd
        have e25 : a'.eval (.tmp 25) = .bool true := hd ⟨11, Ground.data⟩ (by simp) rfl rfl
        have ec : ∀ v, a'.eval (.const v) = v := fun _ => rfl
        have ef : ∀ g, a'.eval (.func g) = .func (.func g) #[] #[] := fun _ => rfl
        clear hd hs
        refine wpv (v := .bool false) ?_ ⟨_, rfl, Grow.rfl' _, rfl⟩
        (generalize a'.eval = ev at ec ef e25 ⊢; simp [execOp, go_sem, *])
      · refine stepK_run hstab trivial (by intro j b h; cases h) ?_
        intro a' w' hg hs hd
        have e21 : a'.eval (.tmp 21) = .bool true := hd ⟨7, Ground.data⟩ (by simp) rfl rfl
        have e26 : a'.eval (.tmp 26) = .bool false := hd ⟨12, Ground.data⟩ (by simp) rfl rfl
        have ec : ∀ v, a'.eval (.const v) = v := fun _ => rfl
        have ef : ∀ g, a'.eval (.func g) = .func (.func g) #[] #[] := fun _ => rfl
        clear hd hs
        refine wpv (v := .bool false) ?_ ⟨_, rfl, Grow.rfl' _, rfl⟩
        (generalize a'.eval = ev at ec ef e21 e26 ⊢; simp [execOp, go_sem, *])
      · refine stepK_run hstab trivial (by intro j b h; cases h) ?_
        intro a' w' hg hs hd
        have hq : OwnRowM w.heap.size (chainO kinS (d ++ [x])) (a'.eval (.tmp 16)) w' := hd ⟨2, Ground.data⟩ (by simp) rfl rfl
        have ec : ∀ v, a'.eval (.const v) = v := fun _ => rfl
        have ef : ∀ g, a'.eval (.func g) = .func (.func g) #[] #[] := fun _ => rfl
        clear hd hs
        refine wpv (v := a'.eval (.tmp 16)) ?_ ⟨_, rfl, Grow.rfl' _, hq⟩
        simp [execOp, go_sem]
      · refine stepK_run hstab trivial (by intro j b h; cases h) ?_
        intro a' w' hg hs hd
        have e27 : a'.eval (.tmp 27) = .bool false := hd ⟨13, Ground.data⟩ (by simp) rfl rfl
        have ec : ∀ v, a'.eval (.const v) = v := fun _ => rfl
        have ef : ∀ g, a'.eval (.func g) = .func (.func g) #[] #[] := fun _ => rfl
        clear hd hs
        refine wpv (v := .bool false) ?_ ⟨_, rfl, Grow.rfl' _, rfl⟩
        (generalize a'.eval = ev at ec ef e27 ⊢; simp [execOp, go_sem, *])
    · intro a' w' hg hs hd
      obtain ⟨sf, nf, cf, e6, h6⟩ : OwnRowM w.heap.size (chainO kinS (d ++ [x])) (a'.eval (.tmp 6)) w' := hd 14 (by simp) (by intro k h; cases h)
      have e7 : a'.eval (.tmp 7) = .bool false := hd 15 (by simp) (by intro k h; cases h)
      go_wp2_with fail
      refine bodyPost_ret (v := .tuple #[.slice sf nf cf, .bool false]) ?_ (by rw [hs.defers]; exact HDF) ⟨_, rfl, Grow.trans' G2.out hg, sf, nf, cf, rfl, h6⟩
      clear hd hs hstab
      simp [Act.eval] at e6 e7
      simp [results, Tryz.results103, go_sem]
      exact ⟨e6, e7⟩
theorem addM_any (s : Option Addr) (n cap : Nat) (d : List Sm) (x : Sm) (w : World) (hbig : n ≤ 90000000000) (hd : IsSms w s n cap d) :
    Calls Tryz.prog 103 #[.agg #[.func (.func 93) #[] #[], .func (.func 119) #[] #[], .func (.func 120) #[] #[]], .slice s n cap, .agg #[.int .i64 x.f, .int .i64 x.t, .int .i64 x.k, .int .i64 x.ep, .int .i64 x.x, .int .i64 x.y, .int .i64 x.z]] w
      fun e w' => ∃ v, e = .returned v ∧ Grow w w' ∧ OwnAddM w.heap.size (chainO kinS (d ++ [x])) (kinS.may x && !coverB kinS d x) v w' := by
  cases hp : kinS.may x
  · exact addM_falsefalse s n cap d x w hbig hd hp
  · cases hq : coverB kinS d x
    · exact addM_truefalse s n cap d x w hbig hd hp hq
    · exact addM_truetrue s n cap d x w hbig hd hp hq

end Go.Proofs.YtehianjfpmbfpaaGreat
end

section
/-
  What chain's own functions do to the world: Times, Sums, Covers, CoversSum, Add, AddSum of every row; what was there stays as it was.
-/
namespace Go.Proofs.YtehianjfpmbfpaaGreat
set_option maxRecDepth 100000
open Go.RowKit
set_option linter.unusedVariables false

set_option maxHeartbeats 400000 in
theorem chainT_any (s : Option Addr) (n cap : Nat) (d : List Tm) (w : World) (hbig : n ≤ 100000000000) (hd : IsTms w s n cap d) :
    Calls Tryz.prog 39 #[.slice s n cap] w fun e w' => ∃ v, e = .returned v ∧ Grow w w' ∧ IsRowT (chainO kinT d) v w' := by
  have HD := hide hd
  clear hd
  go_enter Tryz.func39, Tryz.ntmps39
  go_wp2_with fail
  refine (mkT_any _).mono ?_
  rintro e w1 ⟨rfl, hb⟩
  have G := hide hb
  have H1 := hide (HD.out.later hb)
  clear hb
  go_wp2_with fail
  refine (lowT_row s n cap d w1 hbig H1.out).mono ?_
  rintro e w2 ⟨v, rfl, hb, hr⟩
  obtain ⟨s', m, c', rfl, hI⟩ := hr
  have G2 := hide (Grow.trans' G.out hb)
  have H2 := hide hI
  clear hb hI
  go_wp2_with fail
  go_ret
  exact ⟨_, rfl, G2.out, s', m, c', rfl, H2.out⟩

theorem addM_at (s : Option Addr) (n cap : Nat) (d : List Sm) (x : Sm) {p : Bool} (hp : p = (kinS.may x && !coverB kinS d x)) (w : World) (hbig : n ≤ 90000000000) (hd : IsSms w s n cap d) :
    Calls Tryz.prog 103 #[.agg #[.func (.func 93) #[] #[], .func (.func 119) #[] #[], .func (.func 120) #[] #[]], .slice s n cap, .agg #[.int .i64 x.f, .int .i64 x.t, .int .i64 x.k, .int .i64 x.ep, .int .i64 x.x, .int .i64 x.y, .int .i64 x.z]] w
      fun e w' => ∃ v, e = .returned v ∧ Grow w w' ∧ IsAddM (chainO kinS (d ++ [x])) p v w' := by
  rw [hp]; exact (addM_any s n cap d x w hbig hd).mono fun e w' ⟨v, he, hg, h⟩ => ⟨v, he, hg, h.is⟩
theorem addM_in (B : Nat) (s : Option Addr) (n cap : Nat) (d : List Sm) (x : Sm) {p : Bool} (hp : p = (kinS.may x && !coverB kinS d x)) (w : World) (hB : B ≤ w.heap.size) (hbig : n ≤ 90000000000) (hd : IsSms w s n cap d) :
    Calls Tryz.prog 103 #[.agg #[.func (.func 93) #[] #[], .func (.func 119) #[] #[], .func (.func 120) #[] #[]], .slice s n cap, .agg #[.int .i64 x.f, .int .i64 x.t, .int .i64 x.k, .int .i64 x.ep, .int .i64 x.x, .int .i64 x.y, .int .i64 x.z]] w
      fun e w' => ∃ v, e = .returned v ∧ Grow w w' ∧ OwnAddM B (chainO kinS (d ++ [x])) p v w' := by
  rw [hp]; exact (addM_any s n cap d x w hbig hd).mono fun e w' ⟨v, he, hg, h⟩ => ⟨v, he, hg, h.rebase hB⟩
set_option maxHeartbeats 1000000 in
theorem moreM_own (s : Option Addr) (n cap : Nat) (d : List Sm) (x : Sm) (w : World) (hbig : n ≤ 90000000000) (hd : IsSms w s n cap d) :
    Calls Tryz.prog 83 #[.slice s n cap, .agg #[.int .i64 x.f, .int .i64 x.t, .int .i64 x.k, .int .i64 x.ep, .int .i64 x.x, .int .i64 x.y, .int .i64 x.z]] w fun e w' => ∃ v, e = .returned v ∧ Grow w w' ∧ OwnAddM w.heap.size (chainO kinS (d ++ [x])) (kinS.may x && !coverB kinS d x) v w' := by
  obtain ⟨p, hp⟩ : ∃ p, p = (kinS.may x && !coverB kinS d x) := ⟨_, rfl⟩
  rw [← hp]
  have HP := hide hp
  have G0 : Hid (Grow w (w.alloc (.cells #[.int .i64 x.f, .int .i64 x.t, .int .i64 x.k, .int .i64 x.ep, .int .i64 x.x, .int .i64 x.y, .int .i64 x.z] 68))) := hide (Grow.alloc' _ _)
  have HD := hide (hd.later G0.out)
  have KX : Hid (SBox (w.alloc (.cells #[.int .i64 x.f, .int .i64 x.t, .int .i64 x.k, .int .i64 x.ep, .int .i64 x.x, .int .i64 x.y, .int .i64 x.z] 68)) w.heap.size x) := hide (SBox.new _ _)
  clear hd hp
  go_enter Tryz.func83, Tryz.ntmps83
  go_wp2_with fail
  generalize w.alloc (.cells #[.int .i64 x.f, .int .i64 x.t, .int .i64 x.k, .int .i64 x.ep, .int .i64 x.x, .int .i64 x.y, .int .i64 x.z] 68) = w0 at *
  let FF : Nat → Value → World → Prop := fun i vF wF => match i with | 0 => vF = .agg #[.func (.func 93) #[] #[], .func (.func 119) #[] #[], .func (.func 120) #[] #[]] | 1 => vF = .slice s n cap | 2 => vF = .agg #[.int .i64 x.f, .int .i64 x.t, .int .i64 x.k, .int .i64 x.ep, .int .i64 x.x, .int .i64 x.y, .int .i64 x.z] | 3 => OwnAddM w.heap.size (chainO kinS (d ++ [x])) p vF wF | 4 => OwnRowM w.heap.size (chainO kinS (d ++ [x])) vF wF | 5 => vF = .bool p | 6 => OwnRowM w.heap.size (chainO kinS (d ++ [x])) vF wF | 7 => vF = .bool p | _ => True
  have hstab : ∀ k v w1 w2, Grow w1 w2 → FF k v w1 → FF k v w2 := by
    intro k v w1 w2 hg h
    match k with
    | 0 => exact h
    | 1 => exact h
    | 2 => exact h
    | 3 => exact OwnAddM.later hg h
    | 4 => exact OwnRowM.later hg h
    | 5 => exact h
    | 6 => exact OwnRowM.later hg h
    | 7 => exact h
    | k + 8 => exact trivial
  refine wp_region_invK FF (fun _ => none) (by kernel_rfl) (by kernel_rfl) ?_ ?_
  · refine ⟨?_, ?_, ?_, ?_, ?_, ?_, ?_, ?_, trivial⟩
    · refine stepK_run hstab trivial (by intro j b h; cases h) ?_
      intro a' w' hg hs hd
      have ec : ∀ v, a'.eval (.const v) = v := fun _ => rfl
      have ef : ∀ g, a'.eval (.func g) = .func (.func g) #[] #[] := fun _ => rfl
      clear hd hs
      refine wpc ?_ (Calls.mono (mkM_any w') fun e w2 ⟨he, hb⟩ => ⟨_, he, _, rfl, hb, rfl⟩)
      (generalize a'.eval = ev at ec ef ⊢; simp [execOp, go_sem, *])
    · refine stepK_run hstab trivial (by intro j b h; cases h) ?_
      intro a' w' hg hs hd
      have e0 : a'.eval (.tmp 0) = .slice s n cap := hs.rest 0 rfl
      have ec : ∀ v, a'.eval (.const v) = v := fun _ => rfl
      have ef : ∀ g, a'.eval (.func g) = .func (.func g) #[] #[] := fun _ => rfl
      clear hd hs
      refine wpv (v := .slice s n cap) ?_ ⟨_, rfl, Grow.rfl' _, rfl⟩
      (generalize a'.eval = ev at ec ef e0 ⊢; simp [execOp, go_sem, *])
    · refine stepK_run hstab trivial (by intro j b h; cases h) ?_
      intro a' w' hg hs hd
      have e3 : a'.eval (.tmp 3) = .pointer (some ⟨w.heap.size, 0, none⟩) := hs.rest 3 rfl
      have ec : ∀ v, a'.eval (.const v) = v := fun _ => rfl
      have ef : ∀ g, a'.eval (.func g) = .func (.func g) #[] #[] := fun _ => rfl
      clear hd hs
      obtain ⟨x0, x1, x2, x3, x4, x5, x6⟩ := KX.out.later hg
      refine wpv (v := .agg #[.int .i64 x.f, .int .i64 x.t, .int .i64 x.k, .int .i64 x.ep, .int .i64 x.x, .int .i64 x.y, .int .i64 x.z]) ?_ ⟨_, rfl, Grow.rfl' _, rfl⟩
      (generalize a'.eval = ev at ec ef e3 ⊢; simp [execOp, go_sem, *])
    · refine stepK_run hstab trivial (by intro j b h; cases h) ?_
      intro a' w' hg hs hd
      have e6 : a'.eval (.tmp 6) = .agg #[.func (.func 93) #[] #[], .func (.func 119) #[] #[], .func (.func 120) #[] #[]] := hd ⟨0, Ground.data⟩ (by simp) rfl rfl
      have e7 : a'.eval (.tmp 7) = .slice s n cap := hd ⟨1, Ground.data⟩ (by simp) rfl rfl
      have e8 : a'.eval (.tmp 8) = .agg #[.int .i64 x.f, .int .i64 x.t, .int .i64 x.k, .int .i64 x.ep, .int .i64 x.x, .int .i64 x.y, .int .i64 x.z] := hd ⟨2, Ground.data⟩ (by simp) rfl rfl
      have ec : ∀ v, a'.eval (.const v) = v := fun _ => rfl
      have ef : ∀ g, a'.eval (.func g) = .func (.func g) #[] #[] := fun _ => rfl
      clear hd hs
      refine wpc ?_ (Calls.mono (addM_in w.heap.size s n cap d x HP.out w' (Nat.le_trans G0.out.size hg.size) hbig (HD.out.later hg)) fun e w2 ⟨v, he, hb, hv⟩ => ⟨v, he, _, rfl, hb, hv⟩)
      (generalize a'.eval = ev at ec ef e6 e7 e8 ⊢; simp [execOp, go_sem, *])
    · refine stepK_run hstab trivial (by intro j b h; cases h) ?_
      intro a' w' hg hs hd
      obtain ⟨sa9, na9, ca9, e9, h9⟩ : OwnAddM w.heap.size (chainO kinS (d ++ [x])) p (a'.eval (.tmp 9)) w' := hd ⟨3, Ground.data⟩ (by simp) rfl rfl
      have ec : ∀ v, a'.eval (.const v) = v := fun _ => rfl
      have ef : ∀ g, a'.eval (.func g) = .func (.func g) #[] #[] := fun _ => rfl
      clear hd hs
      skip
      refine wpv (v := .slice sa9 na9 ca9) ?_ ⟨_, rfl, Grow.rfl' _, ⟨_, _, _, rfl, h9⟩⟩
      (generalize a'.eval = ev at ec ef e9 ⊢; simp [execOp, go_sem, *])
    · refine stepK_run hstab trivial (by intro j b h; cases h) ?_
      intro a' w' hg hs hd
      obtain ⟨sa9, na9, ca9, e9, h9⟩ : OwnAddM w.heap.size (chainO kinS (d ++ [x])) p (a'.eval (.tmp 9)) w' := hd ⟨3, Ground.data⟩ (by simp) rfl rfl
      have ec : ∀ v, a'.eval (.const v) = v := fun _ => rfl
      have ef : ∀ g, a'.eval (.func g) = .func (.func g) #[] #[] := fun _ => rfl
      clear hd hs
      refine wpv (v := .bool p) ?_ ⟨_, rfl, Grow.rfl' _, rfl⟩
      (generalize a'.eval = ev at ec ef e9 ⊢; simp [execOp, go_sem, *])
    · refine stepK_run hstab trivial (by intro j b h; cases h) ?_
      intro a' w' hg hs hd
      have hq : OwnRowM w.heap.size (chainO kinS (d ++ [x])) (a'.eval (.tmp 10)) w' := hd ⟨4, Ground.data⟩ (by simp) rfl rfl
      have ec : ∀ v, a'.eval (.const v) = v := fun _ => rfl
      have ef : ∀ g, a'.eval (.func g) = .func (.func g) #[] #[] := fun _ => rfl
      clear hd hs
      refine wpv (v := a'.eval (.tmp 10)) ?_ ⟨_, rfl, Grow.rfl' _, hq⟩
      simp [execOp, go_sem]
    · refine stepK_run hstab trivial (by intro j b h; cases h) ?_
      intro a' w' hg hs hd
      have e11 : a'.eval (.tmp 11) = .bool p := hd ⟨5, Ground.data⟩ (by simp) rfl rfl
      have ec : ∀ v, a'.eval (.const v) = v := fun _ => rfl
      have ef : ∀ g, a'.eval (.func g) = .func (.func g) #[] #[] := fun _ => rfl
      clear hd hs
      refine wpv (v := .bool p) ?_ ⟨_, rfl, Grow.rfl' _, rfl⟩
      (generalize a'.eval = ev at ec ef e11 ⊢; simp [execOp, go_sem, *])
  · intro a' w' hg hs hd
    obtain ⟨sf, nf, cf, e4, h4⟩ : OwnRowM w.heap.size (chainO kinS (d ++ [x])) (a'.eval (.tmp 4)) w' := hd 6 (by simp) (by intro k h; cases h)
    have e5 : a'.eval (.tmp 5) = .bool p := hd 7 (by simp) (by intro k h; cases h)
    go_wp2_with fail
    refine bodyPost_ret (v := .tuple #[.slice sf nf cf, .bool p]) ?_ (by rw [hs.defers]) ⟨_, rfl, Grow.trans' G0.out hg, sf, nf, cf, rfl, h4⟩
    clear hd hs hstab
    simp [Act.eval] at e4 e5
    simp [results, Tryz.results83, go_sem]
    exact ⟨e4, e5⟩
theorem moreM_any (s : Option Addr) (n cap : Nat) (d : List Sm) (x : Sm) (w : World) (hbig : n ≤ 90000000000) (hd : IsSms w s n cap d) :
    Calls Tryz.prog 83 #[.slice s n cap, .agg #[.int .i64 x.f, .int .i64 x.t, .int .i64 x.k, .int .i64 x.ep, .int .i64 x.x, .int .i64 x.y, .int .i64 x.z]] w fun e w' => ∃ v, e = .returned v ∧ Grow w w' ∧ IsAddM (chainO kinS (d ++ [x])) (kinS.may x && !coverB kinS d x) v w' :=
  (moreM_own s n cap d x w hbig hd).mono fun e w' ⟨v, he, hg, h⟩ => ⟨v, he, hg, h.is⟩


end Go.Proofs.YtehianjfpmbfpaaGreat
end
