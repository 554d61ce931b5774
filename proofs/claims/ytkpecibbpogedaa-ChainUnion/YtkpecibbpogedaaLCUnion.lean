/-
  What the law ChainUnion does: for every two rows of times, every row of summaries and every place where it is cut it returns true, and what was there stays as it was.
-/
import Derived.Test.YtkpecibbpogedaaHd
import Derived.Test.YtkpecibbpogedaaEqu
import Derived.Test.YtkpecibbpogedaaChF
import Derived.Test.YtkpecibbpogedaaCut
import Derived.Test.YtkpecibbpogedaaRowC
import Derived.Test.YtkpecibbpogedaaInvS
import Derived.Deep.Cut
namespace Go.Proofs.Ytkpecibbpogedaa
set_option maxRecDepth 100000
open Go.RowKit
attribute [local go_sem ↓] run_headM run_tailM
set_option linter.unusedVariables false

theorem run_headM0 (a : Option Addr) (n cap : Nat) (w : World) : (Instr.slice 32 (.slice a n cap) none (some (.int .i64 0)) none).run Try.prog w = .ok (.slice a 0 cap) w := by
  have h := run_headM a n cap 0 w (by omega)
  simpa using h
theorem run_tailM0 (a : Option Addr) (n cap : Nat) (w : World) : (Instr.slice 32 (.slice a n cap) (some (.int .i64 0)) none none).run Try.prog w = .ok (.slice (fromA a cap 0 7) n cap) w := by
  have h := run_tailM a n cap 0 w (by omega)
  simpa using h
attribute [local go_sem ↓] run_headM0 run_tailM0

theorem unionT_at (s : Option Addr) (n cap : Nat) (a b : List Tm) (w : World) (hbig : n ≤ 100000) (hd : IsTms w s n cap (chainO kinT a ++ chainO kinT b)) :
    Calls Try.prog 14 #[.slice s n cap] w fun e w' => ∃ v, e = .returned v ∧ Grow w w' ∧ IsRowT (chainO kinT (a ++ b)) v w' := by
  rw [← chainO_union]; exact chainT_any s n cap _ w hbig hd
theorem unionM_at (s : Option Addr) (n cap : Nat) (l : List Sm) (k : Nat) (w : World) (hbig : n ≤ 100000) (hd : IsSms w s n cap (chainO kinS (l.take k) ++ chainO kinS (l.drop k))) :
    Calls Try.prog 22 #[.slice s n cap] w fun e w' => ∃ v, e = .returned v ∧ Grow w w' ∧ IsRowM (chainO kinS l) v w' := by
  have h := chainM_any s n cap _ w hbig hd
  rw [chainO_union, List.take_append_drop] at h
  exact h

set_option maxHeartbeats 4000000 in
theorem ChainUnion_walk (s : Option Addr) (n cap : Nat) (d : List Tm) (s' : Option Addr) (n' cap' : Nat) (d' : List Tm) (xs : Option Addr) (xn xc : Nat) (xl : List Sm) (xk : Int) (w : World) (hd : IsTms w s n cap d) (hd' : IsTms w s' n' cap' d') (hx : IsSms w xs xn xc xl) :
    Calls Try.prog 8 #[.slice s n cap, .slice s' n' cap', .agg #[.slice xs xn xc, .int .i64 xk]] w fun e w' => e = .returned (.bool true) ∧ Grow w w' := by
  have G0 : Hid (Grow w (w.alloc (.cells #[.slice xs xn xc, .int .i64 xk] 49))) := hide (Grow.alloc' _ _)
  have HD := hide (hd.later G0.out)
  have HE := hide (hd'.later G0.out)
  have HX := hide (hx.later G0.out)
  have KX : Hid ((w.alloc (.cells #[.slice xs xn xc, .int .i64 xk] 49)).cell? ⟨w.heap.size, 0, none⟩ = some (.slice xs xn xc) ∧ (w.alloc (.cells #[.slice xs xn xc, .int .i64 xk] 49)).cell? ⟨w.heap.size, 1, none⟩ = some (.int .i64 xk)) := hide (by simp [go_sem])
  clear hd hd' hx
  go_enter Try.func8, Try.ntmps8
  go_wp2_with fail
  generalize w.alloc (.cells #[.slice xs xn xc, .int .i64 xk] 49) = w0 at *
  refine (shown_any _).mono ?_
  rintro e w1 ⟨rfl, hb⟩
  have B1 := hide hb
  have C1 := hide (fewT_any s n cap d w1 (HD.out.later hb))
  clear hb
  go_wp2_with fail
  refine (C1.out).mono ?_
  rintro e w2 ⟨v, rfl, hb, s1, n1, c1, rfl, hI⟩
  obtain ⟨D, hD⟩ : ∃ D, D = d.take 60 := ⟨_, rfl⟩
  rw [← hD] at hI
  have hn1 : n1 ≤ 60 := by rw [← hI.1, hD, List.length_take]; omega
  have B2 := hide (Grow.trans' B1.out hb)
  have HI2 := hide hI
  have C2 := hide (fewT_any s' n' cap' d' w2 (HE.out.later B2.out))
  clear hb hI hD C1 HD B1
  go_wp2_with fail
  refine (C2.out).mono ?_
  rintro e w3 ⟨v, rfl, hb, s2, n2, c2, rfl, hI⟩
  obtain ⟨E, hE⟩ : ∃ E, E = d'.take 60 := ⟨_, rfl⟩
  rw [← hE] at hI
  have hn2 : n2 ≤ 60 := by rw [← hI.1, hE, List.length_take]; omega
  have B3 := hide (Grow.trans' B2.out hb)
  have HI3 := hide (HI2.out.later hb)
  have HJ3 := hide hI
  clear hb hI hE C2 HE B2 HI2
  go_wp2_with (at_builtin; refine wpList_apd_tm rfl _ _ rfl w3.heap.size (some ⟨w3.heap.size, 0, none⟩) 0 0 [] D rfl (.of (OwnS.lit0 w3 _ (Nat.le_refl _)) rfl) s1 n1 c1 rfl (HI3.out.later (Grow.alloc' _ _)) (by omega) (by simp) ?_)
  intro s4 c4 w4 h4 gb4
  have A4 := hide (show Grow w3 w4 from gb4.grow (Grow.alloc' _ _) (Nat.le_refl _))
  have O4 := hide (show OwnSV w4 w3.heap.size s4 n1 c4 D from by simpa using h4)
  clear h4 gb4
  go_wp2_with (at_builtin; refine wpList_apd_tm rfl _ _ rfl w3.heap.size s4 n1 c4 D E rfl O4.out s2 n2 c2 rfl (HJ3.out.later A4.out) (by omega) A4.out.size ?_)
  intro s5 c5 w5 h5 gb5
  have A5 := hide (show Grow w3 w5 from gb5.grow A4.out (Nat.le_refl _))
  have HB5 := hide (show IsTms w5 s5 (n1 + n2) c5 (D ++ E) from h5.is)
  have B5 := hide (Grow.trans' B3.out A5.out)
  have HI5 := hide (HI3.out.later A5.out)
  have HJ5 := hide (HJ3.out.later A5.out)
  clear h5 gb5 O4 A4 A5 B3 HI3 HJ3
  go_wp2_with fail
  have C6 := hide (chainT_any s1 n1 c1 D (w5.alloc (.cells #[] 25)) (by omega) (HI5.out.later (Grow.alloc' _ _)))
  have L5 : Hid (OwnS (w5.alloc (.cells #[] 25)) w5.heap.size w5.heap.size 0 []) := hide (OwnS.lit0 w5 _ (Nat.le_refl _))
  have A5 : Hid (Grow w5 (w5.alloc (.cells #[] 25))) := hide (Grow.alloc' _ _)
  refine (C6.out).mono ?_
  rintro e w6 ⟨v, rfl, hb, s6, n6, c6, rfl, hI⟩
  have hn6 : n6 ≤ 60 := by
    have h1 := hI.1
    have h2 := chainO_len kinT D
    have h3 := HI5.out.1
    omega
  have L6 := hide (L5.out.later hb)
  have A6 := hide (Grow.trans' A5.out hb)
  have HC6 := hide hI
  clear hb hI C6 L5 A5
  go_wp2_with (at_builtin; refine wpList_apd_tm rfl _ _ rfl w5.heap.size (some ⟨w5.heap.size, 0, none⟩) 0 0 [] (chainO kinT D) rfl (.of L6.out rfl) s6 n6 c6 rfl HC6.out (by omega) A6.out.size ?_)
  intro s7 c7 w7 h7 gb7
  have A7 := hide (show Grow w5 w7 from gb7.grow A6.out (Nat.le_refl _))
  have O7 := hide (show OwnSV w7 w5.heap.size s7 n6 c7 (chainO kinT D) from by simpa using h7)
  have C7 := hide (chainT_any s2 n2 c2 E w7 (by omega) (HJ5.out.later A7.out))
  clear h7 gb7 L6 A6 HC6
  go_wp2_with fail
  refine (C7.out).mono ?_
  rintro e w8 ⟨v, rfl, hb, s8, n8, c8, rfl, hI⟩
  have hn8 : n8 ≤ 60 := by
    have h1 := hI.1
    have h2 := chainO_len kinT E
    have h3 := HJ5.out.1
    omega
  have O8 := hide (O7.out.later hb)
  have A8 := hide (Grow.trans' A7.out hb)
  have HC8 := hide hI
  clear hb hI C7 O7 A7
  go_wp2_with (at_builtin; refine wpList_apd_tm rfl _ _ rfl w5.heap.size s7 n6 c7 (chainO kinT D) (chainO kinT E) rfl O8.out s8 n8 c8 rfl HC8.out (by omega) A8.out.size ?_)
  intro s9 c9 w9 h9 gb9
  have A9 := hide (show Grow w5 w9 from gb9.grow A8.out (Nat.le_refl _))
  have HP9 := hide (show IsTms w9 s9 (n6 + n8) c9 (chainO kinT D ++ chainO kinT E) from h9.is)
  have HB9 := hide (HB5.out.later A9.out)
  have B9 := hide (Grow.trans' B5.out A9.out)
  clear h9 gb9 O8 A8 HC8 B5 HB5 HI5 HJ5
  obtain ⟨m5, hm5⟩ : ∃ m, m = n1 + n2 := ⟨_, rfl⟩
  have hm5' : m5 ≤ 120 := by omega
  obtain ⟨m9, hm9⟩ : ∃ m, m = n6 + n8 := ⟨_, rfl⟩
  have hm9' : m9 ≤ 120 := by omega
  rw [← hm5] at HB9
  rw [← hm9] at HP9
  have HM5 := hide hm5
  have HM9 := hide hm9
  clear hm5 hm9
  obtain ⟨k0, k1⟩ := (show w9.cell? ⟨w.heap.size, 0, none⟩ = some (.slice xs xn xc) ∧ w9.cell? ⟨w.heap.size, 1, none⟩ = some (.int .i64 xk) from ⟨cell_later B9.out KX.out.1, cell_later B9.out KX.out.2⟩)
  have C10 := hide (fewM_any xs xn xc xl w9 (HX.out.later B9.out))
  go_wp2_with fail
  refine (C10.out).mono ?_
  rintro e w10 ⟨v, rfl, hb, s10, n10, c10, rfl, hI⟩
  obtain ⟨L, hL⟩ : ∃ L, L = xl.take 60 := ⟨_, rfl⟩
  rw [← hL] at hI
  have hn10 : n10 ≤ 60 := by rw [← hI.1, hL, List.length_take]; omega
  have hc10 : n10 ≤ c10 := hI.2.1
  have B10 := hide (Grow.trans' B9.out hb)
  have HB10 := hide (HB9.out.later hb)
  have HP10 := hide (HP9.out.later hb)
  have HL10 := hide hI
  have q0 := cell_later hb k0
  have q1 := cell_later hb k1
  clear hb hI hL C10 B9 HB9 HP9 k0 k1 HX
  have GG := hide (Grow.trans' G0.out B10.out)
  by_cases hcut : 0 < xk ∧ xk < (n10 : Int)
  · obtain ⟨K, rfl⟩ : ∃ K : Nat, xk = (K : Int) := ⟨xk.toNat, by omega⟩
    obtain ⟨hc1, hc2⟩ := hcut
    have hK : K ≤ n10 := by omega
    have hk3 : (K : Int) ≤ (c10 : Int) := by omega
    have hk4 : (K : Int) ≤ (n10 : Int) := by omega
    go_wp2_with fail
    clear q0 q1
    let FF : Nat → Value → World → Prop := fun i vF wF => match i with | 0 => LitM w10.heap.size vF wF | 1 => vF = .slice s10 n10 c10 | 2 => vF = .int .i64 (K : Int) | 3 => vF = .slice s10 K c10 | 4 => IsRowM (chainO kinS (L.take K)) vF wF | 5 => OwnRowM w10.heap.size (chainO kinS (L.take K)) vF wF | 6 => vF = .slice s10 n10 c10 | 7 => vF = .int .i64 (K : Int) | 8 => vF = .slice (fromA s10 c10 K 7) (n10 - K) (c10 - K) | 9 => IsRowM (chainO kinS (L.drop K)) vF wF | 10 => OwnRowM w10.heap.size (chainO kinS (L.take K) ++ chainO kinS (L.drop K)) vF wF | 11 => OwnRowM w10.heap.size (chainO kinS (L.take K) ++ chainO kinS (L.drop K)) vF wF | _ => True
    have hstab : ∀ k v w1 w2, Grow w1 w2 → FF k v w1 → FF k v w2 := by
      intro k v w1 w2 hg h
      match k with
      | 0 => exact LitM.later hg h
      | 1 => exact h
      | 2 => exact h
      | 3 => exact h
      | 4 => exact IsRowM.later hg h
      | 5 => exact OwnRowM.later hg h
      | 6 => exact h
      | 7 => exact h
      | 8 => exact h
      | 9 => exact IsRowM.later hg h
      | 10 => exact OwnRowM.later hg h
      | 11 => exact OwnRowM.later hg h
      | k + 12 => exact trivial
    refine wp_region_invK FF (fun i => match i with | 0 => some 5 | 4 => some 5 | 5 => some 10 | 9 => some 10 | _ => none) (by kernel_rfl) (by kernel_rfl) ?_ ?_
    · refine ⟨?_, ?_, ?_, ?_, ?_, ?_, ?_, ?_, ?_, ?_, ?_, ?_, trivial⟩
      · refine stepK_run hstab trivial (by intro j b h; cases h) ?_
        intro a' w' hg hs hd
        have ec : ∀ v, a'.eval (.const v) = v := fun _ => rfl
        have ef : ∀ g, a'.eval (.func g) = .func (.func g) #[] #[] := fun _ => rfl
        clear hd hs
        refine wpv (v := .slice (some ⟨w'.heap.size, 0, none⟩) 0 0) (w' := w'.alloc (.cells #[] 34)) ?_ ⟨_, rfl, Grow.alloc' _ _, litM_new _ w10.heap.size hg.size⟩
        (generalize a'.eval = ev at ec ef ⊢; simp [execOp, go_sem, *])
      · refine stepK_run hstab trivial (by intro j b h; cases h) ?_
        intro a' w' hg hs hd
        have e10 : a'.eval (.tmp 10) = .slice s10 n10 c10 := hs.rest 10 rfl
        have ec : ∀ v, a'.eval (.const v) = v := fun _ => rfl
        have ef : ∀ g, a'.eval (.func g) = .func (.func g) #[] #[] := fun _ => rfl
        clear hd hs
        refine wpv (v := .slice s10 n10 c10) ?_ ⟨_, rfl, Grow.rfl' _, rfl⟩
        (generalize a'.eval = ev at ec ef e10 ⊢; simp [execOp, go_sem, *])
      · refine stepK_run hstab trivial (by intro j b h; cases h) ?_
        intro a' w' hg hs hd
        have e11 : a'.eval (.tmp 11) = .int .i64 (K : Int) := hs.rest 11 rfl
        have ec : ∀ v, a'.eval (.const v) = v := fun _ => rfl
        have ef : ∀ g, a'.eval (.func g) = .func (.func g) #[] #[] := fun _ => rfl
        clear hd hs
        refine wpv (v := .int .i64 (K : Int)) ?_ ⟨_, rfl, Grow.rfl' _, rfl⟩
        (generalize a'.eval = ev at ec ef e11 ⊢; simp [execOp, go_sem, *])
      · refine stepK_run hstab trivial (by intro j b h; cases h) ?_
        intro a' w' hg hs hd
        have e46 : a'.eval (.tmp 46) = .slice s10 n10 c10 := hd ⟨1, Ground.data⟩ (by simp) rfl rfl
        have e47 : a'.eval (.tmp 47) = .int .i64 (K : Int) := hd ⟨2, Ground.data⟩ (by simp) rfl rfl
        have ec : ∀ v, a'.eval (.const v) = v := fun _ => rfl
        have ef : ∀ g, a'.eval (.func g) = .func (.func g) #[] #[] := fun _ => rfl
        clear hd hs
        refine wpv (v := .slice s10 K c10) ?_ ⟨_, rfl, Grow.rfl' _, rfl⟩
        (generalize a'.eval = ev at ec ef e46 e47 ⊢; simp [execOp, go_sem, *])
      · refine stepK_run hstab trivial (by intro j b h; cases h) ?_
        intro a' w' hg hs hd
        have e48 : a'.eval (.tmp 48) = .slice s10 K c10 := hd ⟨3, Ground.data⟩ (by simp) rfl rfl
        have ec : ∀ v, a'.eval (.const v) = v := fun _ => rfl
        have ef : ∀ g, a'.eval (.func g) = .func (.func g) #[] #[] := fun _ => rfl
        clear hd hs
        refine wpc ?_ (Calls.mono (chainM_any s10 K c10 (L.take K) w' (by omega) ((HL10.out.take' K (by omega)).later hg)) fun e w2 ⟨v, he, hb, hv⟩ => ⟨v, he, _, rfl, hb, hv⟩)
        (generalize a'.eval = ev at ec ef e48 ⊢; simp [execOp, go_sem, *])
      · refine stepK_run hstab trivial (by intro j b h; cases h) ?_
        intro a' w' hg hs hd
        obtain ⟨g45, e45, h45⟩ : LitM w10.heap.size (a'.eval (.tmp 45)) w' := hd ⟨0, Ground.data⟩ (by simp) rfl rfl
        obtain ⟨sl49, nl49, cl49, e49, h49⟩ : IsRowM (chainO kinS (L.take K)) (a'.eval (.tmp 49)) w' := hd ⟨4, Ground.data⟩ (by simp) rfl rfl
        have ec : ∀ v, a'.eval (.const v) = v := fun _ => rfl
        have ef : ∀ g, a'.eval (.func g) = .func (.func g) #[] #[] := fun _ => rfl
        clear hd hs
        obtain ⟨s2, c2, w2, hrun, hown, hgb⟩ := run_ap0_sm w' 32 w10.heap.size g45 (chainO kinS (L.take K)) h45 sl49 nl49 cl49 h49 (by have a1 := h49.1; have a2 := chainO_len kinS (L.take K); rw [List.length_take, HL10.out.1] at a2; omega) hg.size
        refine wpv (v := .slice s2 _ c2) (w' := w2) ?_ ⟨_, rfl, hgb, ⟨s2, _, c2, rfl, hown⟩⟩
        unfold execOp; simp only [resolve, invoke, builtin, Sem.run_bind, Sem.run_pure, Result.andThen_ok, List.map_toArray, List.map_cons, List.map_nil, e45, e49, hrun]
      · refine stepK_run hstab trivial (by intro j b h; cases h) ?_
        intro a' w' hg hs hd
        have e10 : a'.eval (.tmp 10) = .slice s10 n10 c10 := hs.rest 10 rfl
        have ec : ∀ v, a'.eval (.const v) = v := fun _ => rfl
        have ef : ∀ g, a'.eval (.func g) = .func (.func g) #[] #[] := fun _ => rfl
        clear hd hs
        refine wpv (v := .slice s10 n10 c10) ?_ ⟨_, rfl, Grow.rfl' _, rfl⟩
        (generalize a'.eval = ev at ec ef e10 ⊢; simp [execOp, go_sem, *])
      · refine stepK_run hstab trivial (by intro j b h; cases h) ?_
        intro a' w' hg hs hd
        have e11 : a'.eval (.tmp 11) = .int .i64 (K : Int) := hs.rest 11 rfl
        have ec : ∀ v, a'.eval (.const v) = v := fun _ => rfl
        have ef : ∀ g, a'.eval (.func g) = .func (.func g) #[] #[] := fun _ => rfl
        clear hd hs
        refine wpv (v := .int .i64 (K : Int)) ?_ ⟨_, rfl, Grow.rfl' _, rfl⟩
        (generalize a'.eval = ev at ec ef e11 ⊢; simp [execOp, go_sem, *])
      · refine stepK_run hstab trivial (by intro j b h; cases h) ?_
        intro a' w' hg hs hd
        have e51 : a'.eval (.tmp 51) = .slice s10 n10 c10 := hd ⟨6, Ground.data⟩ (by simp) rfl rfl
        have e52 : a'.eval (.tmp 52) = .int .i64 (K : Int) := hd ⟨7, Ground.data⟩ (by simp) rfl rfl
        have ec : ∀ v, a'.eval (.const v) = v := fun _ => rfl
        have ef : ∀ g, a'.eval (.func g) = .func (.func g) #[] #[] := fun _ => rfl
        clear hd hs
        refine wpv (v := .slice (fromA s10 c10 K 7) (n10 - K) (c10 - K)) ?_ ⟨_, rfl, Grow.rfl' _, rfl⟩
        (generalize a'.eval = ev at ec ef e51 e52 ⊢; simp [execOp, go_sem, *])
      · refine stepK_run hstab trivial (by intro j b h; cases h) ?_
        intro a' w' hg hs hd
        have e53 : a'.eval (.tmp 53) = .slice (fromA s10 c10 K 7) (n10 - K) (c10 - K) := hd ⟨8, Ground.data⟩ (by simp) rfl rfl
        have ec : ∀ v, a'.eval (.const v) = v := fun _ => rfl
        have ef : ∀ g, a'.eval (.func g) = .func (.func g) #[] #[] := fun _ => rfl
        clear hd hs
        refine wpc ?_ (Calls.mono (chainM_any (fromA s10 c10 K 7) (n10 - K) (c10 - K) (L.drop K) w' (by omega) ((HL10.out.from' K (by omega)).later hg)) fun e w2 ⟨v, he, hb, hv⟩ => ⟨v, he, _, rfl, hb, hv⟩)
        (generalize a'.eval = ev at ec ef e53 ⊢; simp [execOp, go_sem, *])
      · refine stepK_take rfl ?_
        intro a' w' hg hs hd
        obtain ⟨sc50, nc50, cc50, e50, h50⟩ : OwnRowM w10.heap.size (chainO kinS (L.take K)) (a'.eval (.tmp 50)) w' := hd ⟨5, Ground.data⟩ (by simp) rfl rfl
        obtain ⟨sl54, nl54, cl54, e54, h54⟩ : IsRowM (chainO kinS (L.drop K)) (a'.eval (.tmp 54)) w' := hd ⟨9, Ground.data⟩ (by simp) rfl rfl
        have ec : ∀ v, a'.eval (.const v) = v := fun _ => rfl
        have ef : ∀ g, a'.eval (.func g) = .func (.func g) #[] #[] := fun _ => rfl
        clear hd hs
        obtain ⟨s2, c2, w2, hrun, hown, hgb⟩ := run_apv_sm w' 32 w10.heap.size sc50 nc50 cc50 _ _ h50 sl54 nl54 cl54 h54 (by have a1 := h50.1; have a2 := chainO_len kinS (L.take K); rw [List.length_take, HL10.out.1] at a2; have a3 := h54.1; have a4 := chainO_len kinS (L.drop K); rw [List.length_drop, HL10.out.1] at a4; omega) hg.size
        refine wpv (v := .slice s2 _ c2) (w' := w2) ?_ ⟨_, rfl, hgb.grow hg (Nat.le_refl _), ⟨s2, _, c2, rfl, hown⟩, ?_⟩
        rotate_left
        · intro j u hj h
          match j with
          | 0 => cases hj
          | 1 => exact h
          | 2 => exact h
          | 3 => exact h
          | 4 => cases hj
          | 5 => cases hj
          | 6 => exact h
          | 7 => exact h
          | 8 => exact h
          | 9 => cases hj
          | 10 => cases hj
          | 11 => cases hj
          | j + 12 => exact trivial
        · unfold execOp; simp only [resolve, invoke, builtin, Sem.run_bind, Sem.run_pure, Result.andThen_ok, List.map_toArray, List.map_cons, List.map_nil, e50, e54, hrun]
      · refine stepK_run hstab trivial (by intro j b h; cases h) ?_
        intro a' w' hg hs hd
        have hq : OwnRowM w10.heap.size (chainO kinS (L.take K) ++ chainO kinS (L.drop K)) (a'.eval (.tmp 55)) w' := hd ⟨10, Ground.data⟩ (by simp) rfl rfl
        have ec : ∀ v, a'.eval (.const v) = v := fun _ => rfl
        have ef : ∀ g, a'.eval (.func g) = .func (.func g) #[] #[] := fun _ => rfl
        clear hd hs
        refine wpv (v := a'.eval (.tmp 55)) ?_ ⟨_, rfl, Grow.rfl' _, hq⟩
        simp [execOp, go_sem]
    · intro a' w' hg hs hd
      obtain ⟨sz, nz, cz, ez, hz⟩ : OwnRowM w10.heap.size (chainO kinS (L.take K) ++ chainO kinS (L.drop K)) (a'.eval (.tmp 12)) w' := hd 11 (by simp) (by intro k h; cases h)
      have E12 : a'.eval (.tmp 12) = .slice sz nz cz := ez
      have E7 : a'.eval (.tmp 7) = .bool true := hs.rest 7 rfl
      have E8 : a'.eval (.tmp 8) = .slice s5 m5 c5 := by rw [HM5.out]; exact hs.rest 8 rfl
      have E9 : a'.eval (.tmp 9) = .slice s9 m9 c9 := by rw [HM9.out]; exact hs.rest 9 rfl
      have E10 : a'.eval (.tmp 10) = .slice s10 n10 c10 := hs.rest 10 rfl
      have HSZ := hs.size
      have HDF := hs.defers
      have HZ := hide hz.is
      have hnz : nz ≤ 120 := by
        have a1 := hz.1
        have a2 := chainO_len kinS (L.take K)
        have a3 := chainO_len kinS (L.drop K)
        rw [List.length_take, HL10.out.1] at a2
        rw [List.length_drop, HL10.out.1] at a3
        rw [List.length_append] at a1
        omega
      have B11 := hide (Grow.trans' GG.out hg)
      have HB11 := hide (HB10.out.later hg)
      have HP11 := hide (HP10.out.later hg)
      have HL11 := hide (HL10.out.later hg)
      clear hd hs ez hz hg hstab
      generalize a' = b1 at *
      generalize w' = w11 at *
      go_upto_region 11 with fail
      let FF : Nat → Value → World → Prop := fun i vF wF => match i with | 0 => vF = .bool true | 1 => vF = .bool true | 2 => vF = .slice s5 m5 c5 | 3 => IsRowT (chainO kinT (D ++ E)) vF wF | 4 => vF = .slice s9 m9 c9 | 5 => IsRowT (chainO kinT (D ++ E)) vF wF | 6 => vF = .bool true | 7 => vF = .bool true | 8 => vF = .bool true | 9 => vF = .slice s10 n10 c10 | 10 => IsRowM (chainO kinS L) vF wF | 11 => vF = .slice sz nz cz | 12 => IsRowM (chainO kinS L) vF wF | 13 => vF = .bool true | 14 => vF = .bool true | 15 => vF = .bool true | _ => True
      have hstab : ∀ k v w1 w2, Grow w1 w2 → FF k v w1 → FF k v w2 := by
        intro k v w1 w2 hg h
        match k with
        | 0 => exact h
        | 1 => exact h
        | 2 => exact h
        | 3 => exact IsRowT.later hg h
        | 4 => exact h
        | 5 => exact IsRowT.later hg h
        | 6 => exact h
        | 7 => exact h
        | 8 => exact h
        | 9 => exact h
        | 10 => exact IsRowM.later hg h
        | 11 => exact h
        | 12 => exact IsRowM.later hg h
        | 13 => exact h
        | 14 => exact h
        | 15 => exact h
        | k + 16 => exact trivial
      refine wp_region_invS FF (fun _ => none) (by rw [HSZ]; kernel_rfl) ?_ ?_
      · refine ⟨?_, ?_, ?_, ?_, ?_, ?_, ?_, ?_, ?_, ?_, ?_, ?_, ?_, ?_, ?_, ?_, trivial⟩
        · refine stepK_run hstab trivial (by intro j b h; cases h) ?_
          intro a' w' hg hs hd
          have e7 : a'.eval (.tmp 7) = .bool true := (hs.rest 7 rfl).trans E7
          have ec : ∀ v, a'.eval (.const v) = v := fun _ => rfl
          have ef : ∀ g, a'.eval (.func g) = .func (.func g) #[] #[] := fun _ => rfl
          clear hd hs
          refine wpv (v := .bool true) ?_ ⟨_, rfl, Grow.rfl' _, rfl⟩
          (generalize a'.eval = ev at ec ef e7 ⊢; simp [execOp, go_sem, *])
        · refine stepK_run hstab trivial (by intro j b h; cases h) ?_
          intro a' w' hg hs hd
          have e56 : a'.eval (.tmp 56) = .bool true := hd ⟨0, Ground.data⟩ (by simp) rfl rfl
          have ec : ∀ v, a'.eval (.const v) = v := fun _ => rfl
          have ef : ∀ g, a'.eval (.func g) = .func (.func g) #[] #[] := fun _ => rfl
          clear hd hs
          refine wpv (v := .bool true) ?_ ⟨_, rfl, Grow.rfl' _, rfl⟩
          (generalize a'.eval = ev at ec ef e56 ⊢; simp [execOp, go_sem, *])
        · refine stepK_run hstab ⟨⟨⟨1, Ground.guard⟩, by simp, rfl, rfl⟩, fun _ _ h => h⟩ (by intro j b h; cases h; rfl) ?_
          intro a' w' hg hs hd
          have e8 : a'.eval (.tmp 8) = .slice s5 m5 c5 := (hs.rest 8 rfl).trans E8
          have ec : ∀ v, a'.eval (.const v) = v := fun _ => rfl
          have ef : ∀ g, a'.eval (.func g) = .func (.func g) #[] #[] := fun _ => rfl
          clear hd hs
          refine wpv (v := .slice s5 m5 c5) ?_ ⟨_, rfl, Grow.rfl' _, rfl⟩
          (generalize a'.eval = ev at ec ef e8 ⊢; simp [execOp, go_sem, *])
        · refine stepK_run hstab ⟨⟨⟨1, Ground.chain⟩, by simp, rfl, rfl⟩, fun _ _ h => h⟩ (by intro j b h; cases h; rfl) ?_
          intro a' w' hg hs hd
          have e58 : a'.eval (.tmp 58) = .slice s5 m5 c5 := hd ⟨2, Ground.data⟩ (by simp) rfl rfl
          have ec : ∀ v, a'.eval (.const v) = v := fun _ => rfl
          have ef : ∀ g, a'.eval (.func g) = .func (.func g) #[] #[] := fun _ => rfl
          clear hd hs
          refine wpc ?_ (Calls.mono (chainT_any s5 m5 c5 (D ++ E) w' (by omega) (HB11.out.later hg)) fun e w2 ⟨v, he, hb, hv⟩ => ⟨v, he, _, rfl, hb, hv⟩)
          (generalize a'.eval = ev at ec ef e58 ⊢; simp [execOp, go_sem, *])
        · refine stepK_run hstab ⟨⟨⟨1, Ground.guard⟩, by simp, rfl, rfl⟩, fun _ _ h => h⟩ (by intro j b h; cases h; rfl) ?_
          intro a' w' hg hs hd
          have e9 : a'.eval (.tmp 9) = .slice s9 m9 c9 := (hs.rest 9 rfl).trans E9
          have ec : ∀ v, a'.eval (.const v) = v := fun _ => rfl
          have ef : ∀ g, a'.eval (.func g) = .func (.func g) #[] #[] := fun _ => rfl
          clear hd hs
          refine wpv (v := .slice s9 m9 c9) ?_ ⟨_, rfl, Grow.rfl' _, rfl⟩
          (generalize a'.eval = ev at ec ef e9 ⊢; simp [execOp, go_sem, *])
        · refine stepK_run hstab ⟨⟨⟨1, Ground.guard⟩, by simp, rfl, rfl⟩, fun _ _ h => h⟩ (by intro j b h; cases h; rfl) ?_
          intro a' w' hg hs hd
          have e60 : a'.eval (.tmp 60) = .slice s9 m9 c9 := hd ⟨4, Ground.data⟩ (by simp) rfl rfl
          have ec : ∀ v, a'.eval (.const v) = v := fun _ => rfl
          have ef : ∀ g, a'.eval (.func g) = .func (.func g) #[] #[] := fun _ => rfl
          clear hd hs
          refine wpc ?_ (Calls.mono (unionT_at s9 m9 c9 D E w' (by omega) (HP11.out.later hg)) fun e w2 ⟨v, he, hb, hv⟩ => ⟨v, he, _, rfl, hb, hv⟩)
          (generalize a'.eval = ev at ec ef e60 ⊢; simp [execOp, go_sem, *])
        · refine stepK_run hstab ⟨⟨⟨1, Ground.guard⟩, by simp, rfl, rfl⟩, fun _ _ h => h⟩ (by intro j b h; cases h; rfl) ?_
          intro a' w' hg hs hd
          obtain ⟨sl59, nl59, cl59, e59, h59⟩ : IsRowT (chainO kinT (D ++ E)) (a'.eval (.tmp 59)) w' := hd ⟨3, Ground.data⟩ (by simp) rfl rfl
          obtain ⟨sl61, nl61, cl61, e61, h61⟩ : IsRowT (chainO kinT (D ++ E)) (a'.eval (.tmp 61)) w' := hd ⟨5, Ground.data⟩ (by simp) rfl rfl
          have ec : ∀ v, a'.eval (.const v) = v := fun _ => rfl
          have ef : ∀ g, a'.eval (.func g) = .func (.func g) #[] #[] := fun _ => rfl
          clear hd hs
          refine wpc ?_ (Calls.mono (chainSame_any sl59 sl61 cl59 cl61 nl59 nl61 _ _ true (by simp) w' (by have a1 := h59.1; have a2 := chainO_len kinT (D ++ E); have a3 := HB11.out.1; omega) h59 h61) fun e w2 ⟨he, hb⟩ => ⟨_, he, _, rfl, hb, rfl⟩)
          (generalize a'.eval = ev at ec ef e59 e61 ⊢; simp [execOp, go_sem, *])
        · refine stepK_run hstab trivial (by intro j b h; cases h) ?_
          intro a' w' hg hs hd
          have e57 : a'.eval (.tmp 57) = .bool true := hd ⟨1, Ground.data⟩ (by simp) rfl rfl
          have e62 : a'.eval (.tmp 62) = .bool true := hd ⟨6, Ground.data⟩ (by simp) rfl rfl
          have ec : ∀ v, a'.eval (.const v) = v := fun _ => rfl
          have ef : ∀ g, a'.eval (.func g) = .func (.func g) #[] #[] := fun _ => rfl
          clear hd hs
          refine wpv (v := .bool true) ?_ ⟨_, rfl, Grow.rfl' _, rfl⟩
          (generalize a'.eval = ev at ec ef e57 e62 ⊢; simp [execOp, go_sem, *])
        · refine stepK_run hstab trivial (by intro j b h; cases h) ?_
          intro a' w' hg hs hd
          have e63 : a'.eval (.tmp 63) = .bool true := hd ⟨7, Ground.data⟩ (by simp) rfl rfl
          have ec : ∀ v, a'.eval (.const v) = v := fun _ => rfl
          have ef : ∀ g, a'.eval (.func g) = .func (.func g) #[] #[] := fun _ => rfl
          clear hd hs
          refine wpv (v := .bool true) ?_ ⟨_, rfl, Grow.rfl' _, rfl⟩
          (generalize a'.eval = ev at ec ef e63 ⊢; simp [execOp, go_sem, *])
        · refine stepK_run hstab ⟨⟨⟨8, Ground.guard⟩, by simp, rfl, rfl⟩, fun _ _ h => h⟩ (by intro j b h; cases h; rfl) ?_
          intro a' w' hg hs hd
          have e10 : a'.eval (.tmp 10) = .slice s10 n10 c10 := (hs.rest 10 rfl).trans E10
          have ec : ∀ v, a'.eval (.const v) = v := fun _ => rfl
          have ef : ∀ g, a'.eval (.func g) = .func (.func g) #[] #[] := fun _ => rfl
          clear hd hs
          refine wpv (v := .slice s10 n10 c10) ?_ ⟨_, rfl, Grow.rfl' _, rfl⟩
          (generalize a'.eval = ev at ec ef e10 ⊢; simp [execOp, go_sem, *])
        · refine stepK_run hstab ⟨⟨⟨8, Ground.chain⟩, by simp, rfl, rfl⟩, fun _ _ h => h⟩ (by intro j b h; cases h; rfl) ?_
          intro a' w' hg hs hd
          have e65 : a'.eval (.tmp 65) = .slice s10 n10 c10 := hd ⟨9, Ground.data⟩ (by simp) rfl rfl
          have ec : ∀ v, a'.eval (.const v) = v := fun _ => rfl
          have ef : ∀ g, a'.eval (.func g) = .func (.func g) #[] #[] := fun _ => rfl
          clear hd hs
          refine wpc ?_ (Calls.mono (chainM_any s10 n10 c10 L w' (by omega) (HL11.out.later hg)) fun e w2 ⟨v, he, hb, hv⟩ => ⟨v, he, _, rfl, hb, hv⟩)
          (generalize a'.eval = ev at ec ef e65 ⊢; simp [execOp, go_sem, *])
        · refine stepK_run hstab ⟨⟨⟨8, Ground.guard⟩, by simp, rfl, rfl⟩, fun _ _ h => h⟩ (by intro j b h; cases h; rfl) ?_
          intro a' w' hg hs hd
          have e12 : a'.eval (.tmp 12) = .slice sz nz cz := (hs.rest 12 rfl).trans E12
          have ec : ∀ v, a'.eval (.const v) = v := fun _ => rfl
          have ef : ∀ g, a'.eval (.func g) = .func (.func g) #[] #[] := fun _ => rfl
          clear hd hs
          refine wpv (v := .slice sz nz cz) ?_ ⟨_, rfl, Grow.rfl' _, rfl⟩
          (generalize a'.eval = ev at ec ef e12 ⊢; simp [execOp, go_sem, *])
        · refine stepK_run hstab ⟨⟨⟨8, Ground.guard⟩, by simp, rfl, rfl⟩, fun _ _ h => h⟩ (by intro j b h; cases h; rfl) ?_
          intro a' w' hg hs hd
          have e67 : a'.eval (.tmp 67) = .slice sz nz cz := hd ⟨11, Ground.data⟩ (by simp) rfl rfl
          have ec : ∀ v, a'.eval (.const v) = v := fun _ => rfl
          have ef : ∀ g, a'.eval (.func g) = .func (.func g) #[] #[] := fun _ => rfl
          clear hd hs
          refine wpc ?_ (Calls.mono (unionM_at sz nz cz L K w' (by omega) (HZ.out.later hg)) fun e w2 ⟨v, he, hb, hv⟩ => ⟨v, he, _, rfl, hb, hv⟩)
          (generalize a'.eval = ev at ec ef e67 ⊢; simp [execOp, go_sem, *])
        · refine stepK_run hstab ⟨⟨⟨8, Ground.guard⟩, by simp, rfl, rfl⟩, fun _ _ h => h⟩ (by intro j b h; cases h; rfl) ?_
          intro a' w' hg hs hd
          obtain ⟨sl66, nl66, cl66, e66, h66⟩ : IsRowM (chainO kinS L) (a'.eval (.tmp 66)) w' := hd ⟨10, Ground.data⟩ (by simp) rfl rfl
          obtain ⟨sl68, nl68, cl68, e68, h68⟩ : IsRowM (chainO kinS L) (a'.eval (.tmp 68)) w' := hd ⟨12, Ground.data⟩ (by simp) rfl rfl
          have ec : ∀ v, a'.eval (.const v) = v := fun _ => rfl
          have ef : ∀ g, a'.eval (.func g) = .func (.func g) #[] #[] := fun _ => rfl
          clear hd hs
          refine wpc ?_ (Calls.mono (sameM_any sl66 sl68 cl66 cl68 nl66 nl68 _ _ true (by simp) w' (by have a1 := h66.1; have a2 := chainO_len kinS L; have a3 := HL11.out.1; omega) h66 h68) fun e w2 ⟨he, hb⟩ => ⟨_, he, _, rfl, hb, rfl⟩)
          (generalize a'.eval = ev at ec ef e66 e68 ⊢; simp [execOp, go_sem, *])
        · refine stepK_run hstab trivial (by intro j b h; cases h) ?_
          intro a' w' hg hs hd
          have e64 : a'.eval (.tmp 64) = .bool true := hd ⟨8, Ground.data⟩ (by simp) rfl rfl
          have e69 : a'.eval (.tmp 69) = .bool true := hd ⟨13, Ground.data⟩ (by simp) rfl rfl
          have ec : ∀ v, a'.eval (.const v) = v := fun _ => rfl
          have ef : ∀ g, a'.eval (.func g) = .func (.func g) #[] #[] := fun _ => rfl
          clear hd hs
          refine wpv (v := .bool true) ?_ ⟨_, rfl, Grow.rfl' _, rfl⟩
          (generalize a'.eval = ev at ec ef e64 e69 ⊢; simp [execOp, go_sem, *])
        · refine stepK_run hstab trivial (by intro j b h; cases h) ?_
          intro a' w' hg hs hd
          have e70 : a'.eval (.tmp 70) = .bool true := hd ⟨14, Ground.data⟩ (by simp) rfl rfl
          have ec : ∀ v, a'.eval (.const v) = v := fun _ => rfl
          have ef : ∀ g, a'.eval (.func g) = .func (.func g) #[] #[] := fun _ => rfl
          clear hd hs
          refine wpv (v := .bool true) ?_ ⟨_, rfl, Grow.rfl' _, rfl⟩
          (generalize a'.eval = ev at ec ef e70 ⊢; simp [execOp, go_sem, *])
      · intro a' w' hg hs hd
        have e6 : a'.eval (.tmp 6) = .bool true := hd 15 (by simp) (by intro k h; cases h)
        go_wp2_with fail
        refine bodyPost_ret (v := .bool true) ?_ (by rw [hs.defers]; exact HDF) ⟨rfl, Grow.trans' B11.out hg⟩
        clear hd hs hstab
        simpa [results, Try.results8, Act.eval] using e6
  · by_cases hc1 : 0 < xk
    all_goals
      have hc2 : ¬ (0 < xk ∧ xk < (n10 : Int)) := hcut
      have hc3 : ¬ 0 < xk ∨ ¬ xk < (n10 : Int) := by omega
    · have hc4 : ¬ xk < (n10 : Int) := by omega
      clear hcut hc2 hc3
      go_wp2_with fail
      clear q0 q1
      let FF : Nat → Value → World → Prop := fun i vF wF => match i with | 0 => LitM w10.heap.size vF wF | 1 => vF = .slice s10 n10 c10 | 2 => vF = .int .i64 0 | 3 => vF = .slice s10 0 c10 | 4 => IsRowM (chainO kinS (L.take 0)) vF wF | 5 => OwnRowM w10.heap.size (chainO kinS (L.take 0)) vF wF | 6 => vF = .slice s10 n10 c10 | 7 => vF = .int .i64 0 | 8 => vF = .slice (fromA s10 c10 0 7) n10 c10 | 9 => IsRowM (chainO kinS (L.drop 0)) vF wF | 10 => OwnRowM w10.heap.size (chainO kinS (L.take 0) ++ chainO kinS (L.drop 0)) vF wF | 11 => OwnRowM w10.heap.size (chainO kinS (L.take 0) ++ chainO kinS (L.drop 0)) vF wF | _ => True
      have hstab : ∀ k v w1 w2, Grow w1 w2 → FF k v w1 → FF k v w2 := by
        intro k v w1 w2 hg h
        match k with
        | 0 => exact LitM.later hg h
        | 1 => exact h
        | 2 => exact h
        | 3 => exact h
        | 4 => exact IsRowM.later hg h
        | 5 => exact OwnRowM.later hg h
        | 6 => exact h
        | 7 => exact h
        | 8 => exact h
        | 9 => exact IsRowM.later hg h
        | 10 => exact OwnRowM.later hg h
        | 11 => exact OwnRowM.later hg h
        | k + 12 => exact trivial
      refine wp_region_invK FF (fun i => match i with | 0 => some 5 | 4 => some 5 | 5 => some 10 | 9 => some 10 | _ => none) (by kernel_rfl) (by kernel_rfl) ?_ ?_
      · refine ⟨?_, ?_, ?_, ?_, ?_, ?_, ?_, ?_, ?_, ?_, ?_, ?_, trivial⟩
        · refine stepK_run hstab trivial (by intro j b h; cases h) ?_
          intro a' w' hg hs hd
          have ec : ∀ v, a'.eval (.const v) = v := fun _ => rfl
          have ef : ∀ g, a'.eval (.func g) = .func (.func g) #[] #[] := fun _ => rfl
          clear hd hs
          refine wpv (v := .slice (some ⟨w'.heap.size, 0, none⟩) 0 0) (w' := w'.alloc (.cells #[] 34)) ?_ ⟨_, rfl, Grow.alloc' _ _, litM_new _ w10.heap.size hg.size⟩
          (generalize a'.eval = ev at ec ef ⊢; simp [execOp, go_sem, *])
        · refine stepK_run hstab trivial (by intro j b h; cases h) ?_
          intro a' w' hg hs hd
          have e10 : a'.eval (.tmp 10) = .slice s10 n10 c10 := hs.rest 10 rfl
          have ec : ∀ v, a'.eval (.const v) = v := fun _ => rfl
          have ef : ∀ g, a'.eval (.func g) = .func (.func g) #[] #[] := fun _ => rfl
          clear hd hs
          refine wpv (v := .slice s10 n10 c10) ?_ ⟨_, rfl, Grow.rfl' _, rfl⟩
          (generalize a'.eval = ev at ec ef e10 ⊢; simp [execOp, go_sem, *])
        · refine stepK_run hstab trivial (by intro j b h; cases h) ?_
          intro a' w' hg hs hd
          have e11 : a'.eval (.tmp 11) = .int .i64 0 := hs.rest 11 rfl
          have ec : ∀ v, a'.eval (.const v) = v := fun _ => rfl
          have ef : ∀ g, a'.eval (.func g) = .func (.func g) #[] #[] := fun _ => rfl
          clear hd hs
          refine wpv (v := .int .i64 0) ?_ ⟨_, rfl, Grow.rfl' _, rfl⟩
          (generalize a'.eval = ev at ec ef e11 ⊢; simp [execOp, go_sem, *])
        · refine stepK_run hstab trivial (by intro j b h; cases h) ?_
          intro a' w' hg hs hd
          have e46 : a'.eval (.tmp 46) = .slice s10 n10 c10 := hd ⟨1, Ground.data⟩ (by simp) rfl rfl
          have e47 : a'.eval (.tmp 47) = .int .i64 0 := hd ⟨2, Ground.data⟩ (by simp) rfl rfl
          have ec : ∀ v, a'.eval (.const v) = v := fun _ => rfl
          have ef : ∀ g, a'.eval (.func g) = .func (.func g) #[] #[] := fun _ => rfl
          clear hd hs
          refine wpv (v := .slice s10 0 c10) ?_ ⟨_, rfl, Grow.rfl' _, rfl⟩
          (generalize a'.eval = ev at ec ef e46 e47 ⊢; simp [execOp, go_sem, *])
        · refine stepK_run hstab trivial (by intro j b h; cases h) ?_
          intro a' w' hg hs hd
          have e48 : a'.eval (.tmp 48) = .slice s10 0 c10 := hd ⟨3, Ground.data⟩ (by simp) rfl rfl
          have ec : ∀ v, a'.eval (.const v) = v := fun _ => rfl
          have ef : ∀ g, a'.eval (.func g) = .func (.func g) #[] #[] := fun _ => rfl
          clear hd hs
          refine wpc ?_ (Calls.mono (chainM_any s10 0 c10 (L.take 0) w' (by omega) ((HL10.out.take' 0 (by omega)).later hg)) fun e w2 ⟨v, he, hb, hv⟩ => ⟨v, he, _, rfl, hb, hv⟩)
          (generalize a'.eval = ev at ec ef e48 ⊢; simp [execOp, go_sem, *])
        · refine stepK_run hstab trivial (by intro j b h; cases h) ?_
          intro a' w' hg hs hd
          obtain ⟨g45, e45, h45⟩ : LitM w10.heap.size (a'.eval (.tmp 45)) w' := hd ⟨0, Ground.data⟩ (by simp) rfl rfl
          obtain ⟨sl49, nl49, cl49, e49, h49⟩ : IsRowM (chainO kinS (L.take 0)) (a'.eval (.tmp 49)) w' := hd ⟨4, Ground.data⟩ (by simp) rfl rfl
          have ec : ∀ v, a'.eval (.const v) = v := fun _ => rfl
          have ef : ∀ g, a'.eval (.func g) = .func (.func g) #[] #[] := fun _ => rfl
          clear hd hs
          obtain ⟨s2, c2, w2, hrun, hown, hgb⟩ := run_ap0_sm w' 32 w10.heap.size g45 (chainO kinS (L.take 0)) h45 sl49 nl49 cl49 h49 (by have a1 := h49.1; have a2 := chainO_len kinS (L.take 0); rw [List.length_take, HL10.out.1] at a2; omega) hg.size
          refine wpv (v := .slice s2 _ c2) (w' := w2) ?_ ⟨_, rfl, hgb, ⟨s2, _, c2, rfl, hown⟩⟩
          unfold execOp; simp only [resolve, invoke, builtin, Sem.run_bind, Sem.run_pure, Result.andThen_ok, List.map_toArray, List.map_cons, List.map_nil, e45, e49, hrun]
        · refine stepK_run hstab trivial (by intro j b h; cases h) ?_
          intro a' w' hg hs hd
          have e10 : a'.eval (.tmp 10) = .slice s10 n10 c10 := hs.rest 10 rfl
          have ec : ∀ v, a'.eval (.const v) = v := fun _ => rfl
          have ef : ∀ g, a'.eval (.func g) = .func (.func g) #[] #[] := fun _ => rfl
          clear hd hs
          refine wpv (v := .slice s10 n10 c10) ?_ ⟨_, rfl, Grow.rfl' _, rfl⟩
          (generalize a'.eval = ev at ec ef e10 ⊢; simp [execOp, go_sem, *])
        · refine stepK_run hstab trivial (by intro j b h; cases h) ?_
          intro a' w' hg hs hd
          have e11 : a'.eval (.tmp 11) = .int .i64 0 := hs.rest 11 rfl
          have ec : ∀ v, a'.eval (.const v) = v := fun _ => rfl
          have ef : ∀ g, a'.eval (.func g) = .func (.func g) #[] #[] := fun _ => rfl
          clear hd hs
          refine wpv (v := .int .i64 0) ?_ ⟨_, rfl, Grow.rfl' _, rfl⟩
          (generalize a'.eval = ev at ec ef e11 ⊢; simp [execOp, go_sem, *])
        · refine stepK_run hstab trivial (by intro j b h; cases h) ?_
          intro a' w' hg hs hd
          have e51 : a'.eval (.tmp 51) = .slice s10 n10 c10 := hd ⟨6, Ground.data⟩ (by simp) rfl rfl
          have e52 : a'.eval (.tmp 52) = .int .i64 0 := hd ⟨7, Ground.data⟩ (by simp) rfl rfl
          have ec : ∀ v, a'.eval (.const v) = v := fun _ => rfl
          have ef : ∀ g, a'.eval (.func g) = .func (.func g) #[] #[] := fun _ => rfl
          clear hd hs
          refine wpv (v := .slice (fromA s10 c10 0 7) n10 c10) ?_ ⟨_, rfl, Grow.rfl' _, rfl⟩
          (generalize a'.eval = ev at ec ef e51 e52 ⊢; simp [execOp, go_sem, *])
        · refine stepK_run hstab trivial (by intro j b h; cases h) ?_
          intro a' w' hg hs hd
          have e53 : a'.eval (.tmp 53) = .slice (fromA s10 c10 0 7) n10 c10 := hd ⟨8, Ground.data⟩ (by simp) rfl rfl
          have ec : ∀ v, a'.eval (.const v) = v := fun _ => rfl
          have ef : ∀ g, a'.eval (.func g) = .func (.func g) #[] #[] := fun _ => rfl
          clear hd hs
          refine wpc ?_ (Calls.mono (chainM_any (fromA s10 c10 0 7) n10 c10 (L.drop 0) w' (by omega) ((HL10.out.from' 0 (by omega)).later hg)) fun e w2 ⟨v, he, hb, hv⟩ => ⟨v, he, _, rfl, hb, hv⟩)
          (generalize a'.eval = ev at ec ef e53 ⊢; simp [execOp, go_sem, *])
        · refine stepK_take rfl ?_
          intro a' w' hg hs hd
          obtain ⟨sc50, nc50, cc50, e50, h50⟩ : OwnRowM w10.heap.size (chainO kinS (L.take 0)) (a'.eval (.tmp 50)) w' := hd ⟨5, Ground.data⟩ (by simp) rfl rfl
          obtain ⟨sl54, nl54, cl54, e54, h54⟩ : IsRowM (chainO kinS (L.drop 0)) (a'.eval (.tmp 54)) w' := hd ⟨9, Ground.data⟩ (by simp) rfl rfl
          have ec : ∀ v, a'.eval (.const v) = v := fun _ => rfl
          have ef : ∀ g, a'.eval (.func g) = .func (.func g) #[] #[] := fun _ => rfl
          clear hd hs
          obtain ⟨s2, c2, w2, hrun, hown, hgb⟩ := run_apv_sm w' 32 w10.heap.size sc50 nc50 cc50 _ _ h50 sl54 nl54 cl54 h54 (by have a1 := h50.1; have a2 := chainO_len kinS (L.take 0); rw [List.length_take, HL10.out.1] at a2; have a3 := h54.1; have a4 := chainO_len kinS (L.drop 0); rw [List.length_drop, HL10.out.1] at a4; omega) hg.size
          refine wpv (v := .slice s2 _ c2) (w' := w2) ?_ ⟨_, rfl, hgb.grow hg (Nat.le_refl _), ⟨s2, _, c2, rfl, hown⟩, ?_⟩
          rotate_left
          · intro j u hj h
            match j with
            | 0 => cases hj
            | 1 => exact h
            | 2 => exact h
            | 3 => exact h
            | 4 => cases hj
            | 5 => cases hj
            | 6 => exact h
            | 7 => exact h
            | 8 => exact h
            | 9 => cases hj
            | 10 => cases hj
            | 11 => cases hj
            | j + 12 => exact trivial
          · unfold execOp; simp only [resolve, invoke, builtin, Sem.run_bind, Sem.run_pure, Result.andThen_ok, List.map_toArray, List.map_cons, List.map_nil, e50, e54, hrun]
        · refine stepK_run hstab trivial (by intro j b h; cases h) ?_
          intro a' w' hg hs hd
          have hq : OwnRowM w10.heap.size (chainO kinS (L.take 0) ++ chainO kinS (L.drop 0)) (a'.eval (.tmp 55)) w' := hd ⟨10, Ground.data⟩ (by simp) rfl rfl
          have ec : ∀ v, a'.eval (.const v) = v := fun _ => rfl
          have ef : ∀ g, a'.eval (.func g) = .func (.func g) #[] #[] := fun _ => rfl
          clear hd hs
          refine wpv (v := a'.eval (.tmp 55)) ?_ ⟨_, rfl, Grow.rfl' _, hq⟩
          simp [execOp, go_sem]
      · intro a' w' hg hs hd
        obtain ⟨sz, nz, cz, ez, hz⟩ : OwnRowM w10.heap.size (chainO kinS (L.take 0) ++ chainO kinS (L.drop 0)) (a'.eval (.tmp 12)) w' := hd 11 (by simp) (by intro k h; cases h)
        have E12 : a'.eval (.tmp 12) = .slice sz nz cz := ez
        have E7 : a'.eval (.tmp 7) = .bool true := hs.rest 7 rfl
        have E8 : a'.eval (.tmp 8) = .slice s5 m5 c5 := by rw [HM5.out]; exact hs.rest 8 rfl
        have E9 : a'.eval (.tmp 9) = .slice s9 m9 c9 := by rw [HM9.out]; exact hs.rest 9 rfl
        have E10 : a'.eval (.tmp 10) = .slice s10 n10 c10 := hs.rest 10 rfl
        have HSZ := hs.size
        have HDF := hs.defers
        have HZ := hide hz.is
        have hnz : nz ≤ 120 := by
          have a1 := hz.1
          have a2 := chainO_len kinS (L.take 0)
          have a3 := chainO_len kinS (L.drop 0)
          rw [List.length_take, HL10.out.1] at a2
          rw [List.length_drop, HL10.out.1] at a3
          rw [List.length_append] at a1
          omega
        have B11 := hide (Grow.trans' GG.out hg)
        have HB11 := hide (HB10.out.later hg)
        have HP11 := hide (HP10.out.later hg)
        have HL11 := hide (HL10.out.later hg)
        clear hd hs ez hz hg hstab
        generalize a' = b1 at *
        generalize w' = w11 at *
        go_upto_region 11 with fail
        let FF : Nat → Value → World → Prop := fun i vF wF => match i with | 0 => vF = .bool true | 1 => vF = .bool true | 2 => vF = .slice s5 m5 c5 | 3 => IsRowT (chainO kinT (D ++ E)) vF wF | 4 => vF = .slice s9 m9 c9 | 5 => IsRowT (chainO kinT (D ++ E)) vF wF | 6 => vF = .bool true | 7 => vF = .bool true | 8 => vF = .bool true | 9 => vF = .slice s10 n10 c10 | 10 => IsRowM (chainO kinS L) vF wF | 11 => vF = .slice sz nz cz | 12 => IsRowM (chainO kinS L) vF wF | 13 => vF = .bool true | 14 => vF = .bool true | 15 => vF = .bool true | _ => True
        have hstab : ∀ k v w1 w2, Grow w1 w2 → FF k v w1 → FF k v w2 := by
          intro k v w1 w2 hg h
          match k with
          | 0 => exact h
          | 1 => exact h
          | 2 => exact h
          | 3 => exact IsRowT.later hg h
          | 4 => exact h
          | 5 => exact IsRowT.later hg h
          | 6 => exact h
          | 7 => exact h
          | 8 => exact h
          | 9 => exact h
          | 10 => exact IsRowM.later hg h
          | 11 => exact h
          | 12 => exact IsRowM.later hg h
          | 13 => exact h
          | 14 => exact h
          | 15 => exact h
          | k + 16 => exact trivial
        refine wp_region_invS FF (fun _ => none) (by rw [HSZ]; kernel_rfl) ?_ ?_
        · refine ⟨?_, ?_, ?_, ?_, ?_, ?_, ?_, ?_, ?_, ?_, ?_, ?_, ?_, ?_, ?_, ?_, trivial⟩
          · refine stepK_run hstab trivial (by intro j b h; cases h) ?_
            intro a' w' hg hs hd
            have e7 : a'.eval (.tmp 7) = .bool true := (hs.rest 7 rfl).trans E7
            have ec : ∀ v, a'.eval (.const v) = v := fun _ => rfl
            have ef : ∀ g, a'.eval (.func g) = .func (.func g) #[] #[] := fun _ => rfl
            clear hd hs
            refine wpv (v := .bool true) ?_ ⟨_, rfl, Grow.rfl' _, rfl⟩
            (generalize a'.eval = ev at ec ef e7 ⊢; simp [execOp, go_sem, *])
          · refine stepK_run hstab trivial (by intro j b h; cases h) ?_
            intro a' w' hg hs hd
            have e56 : a'.eval (.tmp 56) = .bool true := hd ⟨0, Ground.data⟩ (by simp) rfl rfl
            have ec : ∀ v, a'.eval (.const v) = v := fun _ => rfl
            have ef : ∀ g, a'.eval (.func g) = .func (.func g) #[] #[] := fun _ => rfl
            clear hd hs
            refine wpv (v := .bool true) ?_ ⟨_, rfl, Grow.rfl' _, rfl⟩
            (generalize a'.eval = ev at ec ef e56 ⊢; simp [execOp, go_sem, *])
          · refine stepK_run hstab ⟨⟨⟨1, Ground.guard⟩, by simp, rfl, rfl⟩, fun _ _ h => h⟩ (by intro j b h; cases h; rfl) ?_
            intro a' w' hg hs hd
            have e8 : a'.eval (.tmp 8) = .slice s5 m5 c5 := (hs.rest 8 rfl).trans E8
            have ec : ∀ v, a'.eval (.const v) = v := fun _ => rfl
            have ef : ∀ g, a'.eval (.func g) = .func (.func g) #[] #[] := fun _ => rfl
            clear hd hs
            refine wpv (v := .slice s5 m5 c5) ?_ ⟨_, rfl, Grow.rfl' _, rfl⟩
            (generalize a'.eval = ev at ec ef e8 ⊢; simp [execOp, go_sem, *])
          · refine stepK_run hstab ⟨⟨⟨1, Ground.chain⟩, by simp, rfl, rfl⟩, fun _ _ h => h⟩ (by intro j b h; cases h; rfl) ?_
            intro a' w' hg hs hd
            have e58 : a'.eval (.tmp 58) = .slice s5 m5 c5 := hd ⟨2, Ground.data⟩ (by simp) rfl rfl
            have ec : ∀ v, a'.eval (.const v) = v := fun _ => rfl
            have ef : ∀ g, a'.eval (.func g) = .func (.func g) #[] #[] := fun _ => rfl
            clear hd hs
            refine wpc ?_ (Calls.mono (chainT_any s5 m5 c5 (D ++ E) w' (by omega) (HB11.out.later hg)) fun e w2 ⟨v, he, hb, hv⟩ => ⟨v, he, _, rfl, hb, hv⟩)
            (generalize a'.eval = ev at ec ef e58 ⊢; simp [execOp, go_sem, *])
          · refine stepK_run hstab ⟨⟨⟨1, Ground.guard⟩, by simp, rfl, rfl⟩, fun _ _ h => h⟩ (by intro j b h; cases h; rfl) ?_
            intro a' w' hg hs hd
            have e9 : a'.eval (.tmp 9) = .slice s9 m9 c9 := (hs.rest 9 rfl).trans E9
            have ec : ∀ v, a'.eval (.const v) = v := fun _ => rfl
            have ef : ∀ g, a'.eval (.func g) = .func (.func g) #[] #[] := fun _ => rfl
            clear hd hs
            refine wpv (v := .slice s9 m9 c9) ?_ ⟨_, rfl, Grow.rfl' _, rfl⟩
            (generalize a'.eval = ev at ec ef e9 ⊢; simp [execOp, go_sem, *])
          · refine stepK_run hstab ⟨⟨⟨1, Ground.guard⟩, by simp, rfl, rfl⟩, fun _ _ h => h⟩ (by intro j b h; cases h; rfl) ?_
            intro a' w' hg hs hd
            have e60 : a'.eval (.tmp 60) = .slice s9 m9 c9 := hd ⟨4, Ground.data⟩ (by simp) rfl rfl
            have ec : ∀ v, a'.eval (.const v) = v := fun _ => rfl
            have ef : ∀ g, a'.eval (.func g) = .func (.func g) #[] #[] := fun _ => rfl
            clear hd hs
            refine wpc ?_ (Calls.mono (unionT_at s9 m9 c9 D E w' (by omega) (HP11.out.later hg)) fun e w2 ⟨v, he, hb, hv⟩ => ⟨v, he, _, rfl, hb, hv⟩)
            (generalize a'.eval = ev at ec ef e60 ⊢; simp [execOp, go_sem, *])
          · refine stepK_run hstab ⟨⟨⟨1, Ground.guard⟩, by simp, rfl, rfl⟩, fun _ _ h => h⟩ (by intro j b h; cases h; rfl) ?_
            intro a' w' hg hs hd
            obtain ⟨sl59, nl59, cl59, e59, h59⟩ : IsRowT (chainO kinT (D ++ E)) (a'.eval (.tmp 59)) w' := hd ⟨3, Ground.data⟩ (by simp) rfl rfl
            obtain ⟨sl61, nl61, cl61, e61, h61⟩ : IsRowT (chainO kinT (D ++ E)) (a'.eval (.tmp 61)) w' := hd ⟨5, Ground.data⟩ (by simp) rfl rfl
            have ec : ∀ v, a'.eval (.const v) = v := fun _ => rfl
            have ef : ∀ g, a'.eval (.func g) = .func (.func g) #[] #[] := fun _ => rfl
            clear hd hs
            refine wpc ?_ (Calls.mono (chainSame_any sl59 sl61 cl59 cl61 nl59 nl61 _ _ true (by simp) w' (by have a1 := h59.1; have a2 := chainO_len kinT (D ++ E); have a3 := HB11.out.1; omega) h59 h61) fun e w2 ⟨he, hb⟩ => ⟨_, he, _, rfl, hb, rfl⟩)
            (generalize a'.eval = ev at ec ef e59 e61 ⊢; simp [execOp, go_sem, *])
          · refine stepK_run hstab trivial (by intro j b h; cases h) ?_
            intro a' w' hg hs hd
            have e57 : a'.eval (.tmp 57) = .bool true := hd ⟨1, Ground.data⟩ (by simp) rfl rfl
            have e62 : a'.eval (.tmp 62) = .bool true := hd ⟨6, Ground.data⟩ (by simp) rfl rfl
            have ec : ∀ v, a'.eval (.const v) = v := fun _ => rfl
            have ef : ∀ g, a'.eval (.func g) = .func (.func g) #[] #[] := fun _ => rfl
            clear hd hs
            refine wpv (v := .bool true) ?_ ⟨_, rfl, Grow.rfl' _, rfl⟩
            (generalize a'.eval = ev at ec ef e57 e62 ⊢; simp [execOp, go_sem, *])
          · refine stepK_run hstab trivial (by intro j b h; cases h) ?_
            intro a' w' hg hs hd
            have e63 : a'.eval (.tmp 63) = .bool true := hd ⟨7, Ground.data⟩ (by simp) rfl rfl
            have ec : ∀ v, a'.eval (.const v) = v := fun _ => rfl
            have ef : ∀ g, a'.eval (.func g) = .func (.func g) #[] #[] := fun _ => rfl
            clear hd hs
            refine wpv (v := .bool true) ?_ ⟨_, rfl, Grow.rfl' _, rfl⟩
            (generalize a'.eval = ev at ec ef e63 ⊢; simp [execOp, go_sem, *])
          · refine stepK_run hstab ⟨⟨⟨8, Ground.guard⟩, by simp, rfl, rfl⟩, fun _ _ h => h⟩ (by intro j b h; cases h; rfl) ?_
            intro a' w' hg hs hd
            have e10 : a'.eval (.tmp 10) = .slice s10 n10 c10 := (hs.rest 10 rfl).trans E10
            have ec : ∀ v, a'.eval (.const v) = v := fun _ => rfl
            have ef : ∀ g, a'.eval (.func g) = .func (.func g) #[] #[] := fun _ => rfl
            clear hd hs
            refine wpv (v := .slice s10 n10 c10) ?_ ⟨_, rfl, Grow.rfl' _, rfl⟩
            (generalize a'.eval = ev at ec ef e10 ⊢; simp [execOp, go_sem, *])
          · refine stepK_run hstab ⟨⟨⟨8, Ground.chain⟩, by simp, rfl, rfl⟩, fun _ _ h => h⟩ (by intro j b h; cases h; rfl) ?_
            intro a' w' hg hs hd
            have e65 : a'.eval (.tmp 65) = .slice s10 n10 c10 := hd ⟨9, Ground.data⟩ (by simp) rfl rfl
            have ec : ∀ v, a'.eval (.const v) = v := fun _ => rfl
            have ef : ∀ g, a'.eval (.func g) = .func (.func g) #[] #[] := fun _ => rfl
            clear hd hs
            refine wpc ?_ (Calls.mono (chainM_any s10 n10 c10 L w' (by omega) (HL11.out.later hg)) fun e w2 ⟨v, he, hb, hv⟩ => ⟨v, he, _, rfl, hb, hv⟩)
            (generalize a'.eval = ev at ec ef e65 ⊢; simp [execOp, go_sem, *])
          · refine stepK_run hstab ⟨⟨⟨8, Ground.guard⟩, by simp, rfl, rfl⟩, fun _ _ h => h⟩ (by intro j b h; cases h; rfl) ?_
            intro a' w' hg hs hd
            have e12 : a'.eval (.tmp 12) = .slice sz nz cz := (hs.rest 12 rfl).trans E12
            have ec : ∀ v, a'.eval (.const v) = v := fun _ => rfl
            have ef : ∀ g, a'.eval (.func g) = .func (.func g) #[] #[] := fun _ => rfl
            clear hd hs
            refine wpv (v := .slice sz nz cz) ?_ ⟨_, rfl, Grow.rfl' _, rfl⟩
            (generalize a'.eval = ev at ec ef e12 ⊢; simp [execOp, go_sem, *])
          · refine stepK_run hstab ⟨⟨⟨8, Ground.guard⟩, by simp, rfl, rfl⟩, fun _ _ h => h⟩ (by intro j b h; cases h; rfl) ?_
            intro a' w' hg hs hd
            have e67 : a'.eval (.tmp 67) = .slice sz nz cz := hd ⟨11, Ground.data⟩ (by simp) rfl rfl
            have ec : ∀ v, a'.eval (.const v) = v := fun _ => rfl
            have ef : ∀ g, a'.eval (.func g) = .func (.func g) #[] #[] := fun _ => rfl
            clear hd hs
            refine wpc ?_ (Calls.mono (unionM_at sz nz cz L 0 w' (by omega) (HZ.out.later hg)) fun e w2 ⟨v, he, hb, hv⟩ => ⟨v, he, _, rfl, hb, hv⟩)
            (generalize a'.eval = ev at ec ef e67 ⊢; simp [execOp, go_sem, *])
          · refine stepK_run hstab ⟨⟨⟨8, Ground.guard⟩, by simp, rfl, rfl⟩, fun _ _ h => h⟩ (by intro j b h; cases h; rfl) ?_
            intro a' w' hg hs hd
            obtain ⟨sl66, nl66, cl66, e66, h66⟩ : IsRowM (chainO kinS L) (a'.eval (.tmp 66)) w' := hd ⟨10, Ground.data⟩ (by simp) rfl rfl
            obtain ⟨sl68, nl68, cl68, e68, h68⟩ : IsRowM (chainO kinS L) (a'.eval (.tmp 68)) w' := hd ⟨12, Ground.data⟩ (by simp) rfl rfl
            have ec : ∀ v, a'.eval (.const v) = v := fun _ => rfl
            have ef : ∀ g, a'.eval (.func g) = .func (.func g) #[] #[] := fun _ => rfl
            clear hd hs
            refine wpc ?_ (Calls.mono (sameM_any sl66 sl68 cl66 cl68 nl66 nl68 _ _ true (by simp) w' (by have a1 := h66.1; have a2 := chainO_len kinS L; have a3 := HL11.out.1; omega) h66 h68) fun e w2 ⟨he, hb⟩ => ⟨_, he, _, rfl, hb, rfl⟩)
            (generalize a'.eval = ev at ec ef e66 e68 ⊢; simp [execOp, go_sem, *])
          · refine stepK_run hstab trivial (by intro j b h; cases h) ?_
            intro a' w' hg hs hd
            have e64 : a'.eval (.tmp 64) = .bool true := hd ⟨8, Ground.data⟩ (by simp) rfl rfl
            have e69 : a'.eval (.tmp 69) = .bool true := hd ⟨13, Ground.data⟩ (by simp) rfl rfl
            have ec : ∀ v, a'.eval (.const v) = v := fun _ => rfl
            have ef : ∀ g, a'.eval (.func g) = .func (.func g) #[] #[] := fun _ => rfl
            clear hd hs
            refine wpv (v := .bool true) ?_ ⟨_, rfl, Grow.rfl' _, rfl⟩
            (generalize a'.eval = ev at ec ef e64 e69 ⊢; simp [execOp, go_sem, *])
          · refine stepK_run hstab trivial (by intro j b h; cases h) ?_
            intro a' w' hg hs hd
            have e70 : a'.eval (.tmp 70) = .bool true := hd ⟨14, Ground.data⟩ (by simp) rfl rfl
            have ec : ∀ v, a'.eval (.const v) = v := fun _ => rfl
            have ef : ∀ g, a'.eval (.func g) = .func (.func g) #[] #[] := fun _ => rfl
            clear hd hs
            refine wpv (v := .bool true) ?_ ⟨_, rfl, Grow.rfl' _, rfl⟩
            (generalize a'.eval = ev at ec ef e70 ⊢; simp [execOp, go_sem, *])
        · intro a' w' hg hs hd
          have e6 : a'.eval (.tmp 6) = .bool true := hd 15 (by simp) (by intro k h; cases h)
          go_wp2_with fail
          refine bodyPost_ret (v := .bool true) ?_ (by rw [hs.defers]; exact HDF) ⟨rfl, Grow.trans' B11.out hg⟩
          clear hd hs hstab
          simpa [results, Try.results8, Act.eval] using e6
    · clear hcut hc2 hc3
      go_wp2_with fail
      clear q0 q1
      let FF : Nat → Value → World → Prop := fun i vF wF => match i with | 0 => LitM w10.heap.size vF wF | 1 => vF = .slice s10 n10 c10 | 2 => vF = .int .i64 0 | 3 => vF = .slice s10 0 c10 | 4 => IsRowM (chainO kinS (L.take 0)) vF wF | 5 => OwnRowM w10.heap.size (chainO kinS (L.take 0)) vF wF | 6 => vF = .slice s10 n10 c10 | 7 => vF = .int .i64 0 | 8 => vF = .slice (fromA s10 c10 0 7) n10 c10 | 9 => IsRowM (chainO kinS (L.drop 0)) vF wF | 10 => OwnRowM w10.heap.size (chainO kinS (L.take 0) ++ chainO kinS (L.drop 0)) vF wF | 11 => OwnRowM w10.heap.size (chainO kinS (L.take 0) ++ chainO kinS (L.drop 0)) vF wF | _ => True
      have hstab : ∀ k v w1 w2, Grow w1 w2 → FF k v w1 → FF k v w2 := by
        intro k v w1 w2 hg h
        match k with
        | 0 => exact LitM.later hg h
        | 1 => exact h
        | 2 => exact h
        | 3 => exact h
        | 4 => exact IsRowM.later hg h
        | 5 => exact OwnRowM.later hg h
        | 6 => exact h
        | 7 => exact h
        | 8 => exact h
        | 9 => exact IsRowM.later hg h
        | 10 => exact OwnRowM.later hg h
        | 11 => exact OwnRowM.later hg h
        | k + 12 => exact trivial
      refine wp_region_invK FF (fun i => match i with | 0 => some 5 | 4 => some 5 | 5 => some 10 | 9 => some 10 | _ => none) (by kernel_rfl) (by kernel_rfl) ?_ ?_
      · refine ⟨?_, ?_, ?_, ?_, ?_, ?_, ?_, ?_, ?_, ?_, ?_, ?_, trivial⟩
        · refine stepK_run hstab trivial (by intro j b h; cases h) ?_
          intro a' w' hg hs hd
          have ec : ∀ v, a'.eval (.const v) = v := fun _ => rfl
          have ef : ∀ g, a'.eval (.func g) = .func (.func g) #[] #[] := fun _ => rfl
          clear hd hs
          refine wpv (v := .slice (some ⟨w'.heap.size, 0, none⟩) 0 0) (w' := w'.alloc (.cells #[] 34)) ?_ ⟨_, rfl, Grow.alloc' _ _, litM_new _ w10.heap.size hg.size⟩
          (generalize a'.eval = ev at ec ef ⊢; simp [execOp, go_sem, *])
        · refine stepK_run hstab trivial (by intro j b h; cases h) ?_
          intro a' w' hg hs hd
          have e10 : a'.eval (.tmp 10) = .slice s10 n10 c10 := hs.rest 10 rfl
          have ec : ∀ v, a'.eval (.const v) = v := fun _ => rfl
          have ef : ∀ g, a'.eval (.func g) = .func (.func g) #[] #[] := fun _ => rfl
          clear hd hs
          refine wpv (v := .slice s10 n10 c10) ?_ ⟨_, rfl, Grow.rfl' _, rfl⟩
          (generalize a'.eval = ev at ec ef e10 ⊢; simp [execOp, go_sem, *])
        · refine stepK_run hstab trivial (by intro j b h; cases h) ?_
          intro a' w' hg hs hd
          have e11 : a'.eval (.tmp 11) = .int .i64 0 := hs.rest 11 rfl
          have ec : ∀ v, a'.eval (.const v) = v := fun _ => rfl
          have ef : ∀ g, a'.eval (.func g) = .func (.func g) #[] #[] := fun _ => rfl
          clear hd hs
          refine wpv (v := .int .i64 0) ?_ ⟨_, rfl, Grow.rfl' _, rfl⟩
          (generalize a'.eval = ev at ec ef e11 ⊢; simp [execOp, go_sem, *])
        · refine stepK_run hstab trivial (by intro j b h; cases h) ?_
          intro a' w' hg hs hd
          have e46 : a'.eval (.tmp 46) = .slice s10 n10 c10 := hd ⟨1, Ground.data⟩ (by simp) rfl rfl
          have e47 : a'.eval (.tmp 47) = .int .i64 0 := hd ⟨2, Ground.data⟩ (by simp) rfl rfl
          have ec : ∀ v, a'.eval (.const v) = v := fun _ => rfl
          have ef : ∀ g, a'.eval (.func g) = .func (.func g) #[] #[] := fun _ => rfl
          clear hd hs
          refine wpv (v := .slice s10 0 c10) ?_ ⟨_, rfl, Grow.rfl' _, rfl⟩
          (generalize a'.eval = ev at ec ef e46 e47 ⊢; simp [execOp, go_sem, *])
        · refine stepK_run hstab trivial (by intro j b h; cases h) ?_
          intro a' w' hg hs hd
          have e48 : a'.eval (.tmp 48) = .slice s10 0 c10 := hd ⟨3, Ground.data⟩ (by simp) rfl rfl
          have ec : ∀ v, a'.eval (.const v) = v := fun _ => rfl
          have ef : ∀ g, a'.eval (.func g) = .func (.func g) #[] #[] := fun _ => rfl
          clear hd hs
          refine wpc ?_ (Calls.mono (chainM_any s10 0 c10 (L.take 0) w' (by omega) ((HL10.out.take' 0 (by omega)).later hg)) fun e w2 ⟨v, he, hb, hv⟩ => ⟨v, he, _, rfl, hb, hv⟩)
          (generalize a'.eval = ev at ec ef e48 ⊢; simp [execOp, go_sem, *])
        · refine stepK_run hstab trivial (by intro j b h; cases h) ?_
          intro a' w' hg hs hd
          obtain ⟨g45, e45, h45⟩ : LitM w10.heap.size (a'.eval (.tmp 45)) w' := hd ⟨0, Ground.data⟩ (by simp) rfl rfl
          obtain ⟨sl49, nl49, cl49, e49, h49⟩ : IsRowM (chainO kinS (L.take 0)) (a'.eval (.tmp 49)) w' := hd ⟨4, Ground.data⟩ (by simp) rfl rfl
          have ec : ∀ v, a'.eval (.const v) = v := fun _ => rfl
          have ef : ∀ g, a'.eval (.func g) = .func (.func g) #[] #[] := fun _ => rfl
          clear hd hs
          obtain ⟨s2, c2, w2, hrun, hown, hgb⟩ := run_ap0_sm w' 32 w10.heap.size g45 (chainO kinS (L.take 0)) h45 sl49 nl49 cl49 h49 (by have a1 := h49.1; have a2 := chainO_len kinS (L.take 0); rw [List.length_take, HL10.out.1] at a2; omega) hg.size
          refine wpv (v := .slice s2 _ c2) (w' := w2) ?_ ⟨_, rfl, hgb, ⟨s2, _, c2, rfl, hown⟩⟩
          unfold execOp; simp only [resolve, invoke, builtin, Sem.run_bind, Sem.run_pure, Result.andThen_ok, List.map_toArray, List.map_cons, List.map_nil, e45, e49, hrun]
        · refine stepK_run hstab trivial (by intro j b h; cases h) ?_
          intro a' w' hg hs hd
          have e10 : a'.eval (.tmp 10) = .slice s10 n10 c10 := hs.rest 10 rfl
          have ec : ∀ v, a'.eval (.const v) = v := fun _ => rfl
          have ef : ∀ g, a'.eval (.func g) = .func (.func g) #[] #[] := fun _ => rfl
          clear hd hs
          refine wpv (v := .slice s10 n10 c10) ?_ ⟨_, rfl, Grow.rfl' _, rfl⟩
          (generalize a'.eval = ev at ec ef e10 ⊢; simp [execOp, go_sem, *])
        · refine stepK_run hstab trivial (by intro j b h; cases h) ?_
          intro a' w' hg hs hd
          have e11 : a'.eval (.tmp 11) = .int .i64 0 := hs.rest 11 rfl
          have ec : ∀ v, a'.eval (.const v) = v := fun _ => rfl
          have ef : ∀ g, a'.eval (.func g) = .func (.func g) #[] #[] := fun _ => rfl
          clear hd hs
          refine wpv (v := .int .i64 0) ?_ ⟨_, rfl, Grow.rfl' _, rfl⟩
          (generalize a'.eval = ev at ec ef e11 ⊢; simp [execOp, go_sem, *])
        · refine stepK_run hstab trivial (by intro j b h; cases h) ?_
          intro a' w' hg hs hd
          have e51 : a'.eval (.tmp 51) = .slice s10 n10 c10 := hd ⟨6, Ground.data⟩ (by simp) rfl rfl
          have e52 : a'.eval (.tmp 52) = .int .i64 0 := hd ⟨7, Ground.data⟩ (by simp) rfl rfl
          have ec : ∀ v, a'.eval (.const v) = v := fun _ => rfl
          have ef : ∀ g, a'.eval (.func g) = .func (.func g) #[] #[] := fun _ => rfl
          clear hd hs
          refine wpv (v := .slice (fromA s10 c10 0 7) n10 c10) ?_ ⟨_, rfl, Grow.rfl' _, rfl⟩
          (generalize a'.eval = ev at ec ef e51 e52 ⊢; simp [execOp, go_sem, *])
        · refine stepK_run hstab trivial (by intro j b h; cases h) ?_
          intro a' w' hg hs hd
          have e53 : a'.eval (.tmp 53) = .slice (fromA s10 c10 0 7) n10 c10 := hd ⟨8, Ground.data⟩ (by simp) rfl rfl
          have ec : ∀ v, a'.eval (.const v) = v := fun _ => rfl
          have ef : ∀ g, a'.eval (.func g) = .func (.func g) #[] #[] := fun _ => rfl
          clear hd hs
          refine wpc ?_ (Calls.mono (chainM_any (fromA s10 c10 0 7) n10 c10 (L.drop 0) w' (by omega) ((HL10.out.from' 0 (by omega)).later hg)) fun e w2 ⟨v, he, hb, hv⟩ => ⟨v, he, _, rfl, hb, hv⟩)
          (generalize a'.eval = ev at ec ef e53 ⊢; simp [execOp, go_sem, *])
        · refine stepK_take rfl ?_
          intro a' w' hg hs hd
          obtain ⟨sc50, nc50, cc50, e50, h50⟩ : OwnRowM w10.heap.size (chainO kinS (L.take 0)) (a'.eval (.tmp 50)) w' := hd ⟨5, Ground.data⟩ (by simp) rfl rfl
          obtain ⟨sl54, nl54, cl54, e54, h54⟩ : IsRowM (chainO kinS (L.drop 0)) (a'.eval (.tmp 54)) w' := hd ⟨9, Ground.data⟩ (by simp) rfl rfl
          have ec : ∀ v, a'.eval (.const v) = v := fun _ => rfl
          have ef : ∀ g, a'.eval (.func g) = .func (.func g) #[] #[] := fun _ => rfl
          clear hd hs
          obtain ⟨s2, c2, w2, hrun, hown, hgb⟩ := run_apv_sm w' 32 w10.heap.size sc50 nc50 cc50 _ _ h50 sl54 nl54 cl54 h54 (by have a1 := h50.1; have a2 := chainO_len kinS (L.take 0); rw [List.length_take, HL10.out.1] at a2; have a3 := h54.1; have a4 := chainO_len kinS (L.drop 0); rw [List.length_drop, HL10.out.1] at a4; omega) hg.size
          refine wpv (v := .slice s2 _ c2) (w' := w2) ?_ ⟨_, rfl, hgb.grow hg (Nat.le_refl _), ⟨s2, _, c2, rfl, hown⟩, ?_⟩
          rotate_left
          · intro j u hj h
            match j with
            | 0 => cases hj
            | 1 => exact h
            | 2 => exact h
            | 3 => exact h
            | 4 => cases hj
            | 5 => cases hj
            | 6 => exact h
            | 7 => exact h
            | 8 => exact h
            | 9 => cases hj
            | 10 => cases hj
            | 11 => cases hj
            | j + 12 => exact trivial
          · unfold execOp; simp only [resolve, invoke, builtin, Sem.run_bind, Sem.run_pure, Result.andThen_ok, List.map_toArray, List.map_cons, List.map_nil, e50, e54, hrun]
        · refine stepK_run hstab trivial (by intro j b h; cases h) ?_
          intro a' w' hg hs hd
          have hq : OwnRowM w10.heap.size (chainO kinS (L.take 0) ++ chainO kinS (L.drop 0)) (a'.eval (.tmp 55)) w' := hd ⟨10, Ground.data⟩ (by simp) rfl rfl
          have ec : ∀ v, a'.eval (.const v) = v := fun _ => rfl
          have ef : ∀ g, a'.eval (.func g) = .func (.func g) #[] #[] := fun _ => rfl
          clear hd hs
          refine wpv (v := a'.eval (.tmp 55)) ?_ ⟨_, rfl, Grow.rfl' _, hq⟩
          simp [execOp, go_sem]
      · intro a' w' hg hs hd
        obtain ⟨sz, nz, cz, ez, hz⟩ : OwnRowM w10.heap.size (chainO kinS (L.take 0) ++ chainO kinS (L.drop 0)) (a'.eval (.tmp 12)) w' := hd 11 (by simp) (by intro k h; cases h)
        have E12 : a'.eval (.tmp 12) = .slice sz nz cz := ez
        have E7 : a'.eval (.tmp 7) = .bool true := hs.rest 7 rfl
        have E8 : a'.eval (.tmp 8) = .slice s5 m5 c5 := by rw [HM5.out]; exact hs.rest 8 rfl
        have E9 : a'.eval (.tmp 9) = .slice s9 m9 c9 := by rw [HM9.out]; exact hs.rest 9 rfl
        have E10 : a'.eval (.tmp 10) = .slice s10 n10 c10 := hs.rest 10 rfl
        have HSZ := hs.size
        have HDF := hs.defers
        have HZ := hide hz.is
        have hnz : nz ≤ 120 := by
          have a1 := hz.1
          have a2 := chainO_len kinS (L.take 0)
          have a3 := chainO_len kinS (L.drop 0)
          rw [List.length_take, HL10.out.1] at a2
          rw [List.length_drop, HL10.out.1] at a3
          rw [List.length_append] at a1
          omega
        have B11 := hide (Grow.trans' GG.out hg)
        have HB11 := hide (HB10.out.later hg)
        have HP11 := hide (HP10.out.later hg)
        have HL11 := hide (HL10.out.later hg)
        clear hd hs ez hz hg hstab
        generalize a' = b1 at *
        generalize w' = w11 at *
        go_upto_region 11 with fail
        let FF : Nat → Value → World → Prop := fun i vF wF => match i with | 0 => vF = .bool true | 1 => vF = .bool true | 2 => vF = .slice s5 m5 c5 | 3 => IsRowT (chainO kinT (D ++ E)) vF wF | 4 => vF = .slice s9 m9 c9 | 5 => IsRowT (chainO kinT (D ++ E)) vF wF | 6 => vF = .bool true | 7 => vF = .bool true | 8 => vF = .bool true | 9 => vF = .slice s10 n10 c10 | 10 => IsRowM (chainO kinS L) vF wF | 11 => vF = .slice sz nz cz | 12 => IsRowM (chainO kinS L) vF wF | 13 => vF = .bool true | 14 => vF = .bool true | 15 => vF = .bool true | _ => True
        have hstab : ∀ k v w1 w2, Grow w1 w2 → FF k v w1 → FF k v w2 := by
          intro k v w1 w2 hg h
          match k with
          | 0 => exact h
          | 1 => exact h
          | 2 => exact h
          | 3 => exact IsRowT.later hg h
          | 4 => exact h
          | 5 => exact IsRowT.later hg h
          | 6 => exact h
          | 7 => exact h
          | 8 => exact h
          | 9 => exact h
          | 10 => exact IsRowM.later hg h
          | 11 => exact h
          | 12 => exact IsRowM.later hg h
          | 13 => exact h
          | 14 => exact h
          | 15 => exact h
          | k + 16 => exact trivial
        refine wp_region_invS FF (fun _ => none) (by rw [HSZ]; kernel_rfl) ?_ ?_
        · refine ⟨?_, ?_, ?_, ?_, ?_, ?_, ?_, ?_, ?_, ?_, ?_, ?_, ?_, ?_, ?_, ?_, trivial⟩
          · refine stepK_run hstab trivial (by intro j b h; cases h) ?_
            intro a' w' hg hs hd
            have e7 : a'.eval (.tmp 7) = .bool true := (hs.rest 7 rfl).trans E7
            have ec : ∀ v, a'.eval (.const v) = v := fun _ => rfl
            have ef : ∀ g, a'.eval (.func g) = .func (.func g) #[] #[] := fun _ => rfl
            clear hd hs
            refine wpv (v := .bool true) ?_ ⟨_, rfl, Grow.rfl' _, rfl⟩
            (generalize a'.eval = ev at ec ef e7 ⊢; simp [execOp, go_sem, *])
          · refine stepK_run hstab trivial (by intro j b h; cases h) ?_
            intro a' w' hg hs hd
            have e56 : a'.eval (.tmp 56) = .bool true := hd ⟨0, Ground.data⟩ (by simp) rfl rfl
            have ec : ∀ v, a'.eval (.const v) = v := fun _ => rfl
            have ef : ∀ g, a'.eval (.func g) = .func (.func g) #[] #[] := fun _ => rfl
            clear hd hs
            refine wpv (v := .bool true) ?_ ⟨_, rfl, Grow.rfl' _, rfl⟩
            (generalize a'.eval = ev at ec ef e56 ⊢; simp [execOp, go_sem, *])
          · refine stepK_run hstab ⟨⟨⟨1, Ground.guard⟩, by simp, rfl, rfl⟩, fun _ _ h => h⟩ (by intro j b h; cases h; rfl) ?_
            intro a' w' hg hs hd
            have e8 : a'.eval (.tmp 8) = .slice s5 m5 c5 := (hs.rest 8 rfl).trans E8
            have ec : ∀ v, a'.eval (.const v) = v := fun _ => rfl
            have ef : ∀ g, a'.eval (.func g) = .func (.func g) #[] #[] := fun _ => rfl
            clear hd hs
            refine wpv (v := .slice s5 m5 c5) ?_ ⟨_, rfl, Grow.rfl' _, rfl⟩
            (generalize a'.eval = ev at ec ef e8 ⊢; simp [execOp, go_sem, *])
          · refine stepK_run hstab ⟨⟨⟨1, Ground.chain⟩, by simp, rfl, rfl⟩, fun _ _ h => h⟩ (by intro j b h; cases h; rfl) ?_
            intro a' w' hg hs hd
            have e58 : a'.eval (.tmp 58) = .slice s5 m5 c5 := hd ⟨2, Ground.data⟩ (by simp) rfl rfl
            have ec : ∀ v, a'.eval (.const v) = v := fun _ => rfl
            have ef : ∀ g, a'.eval (.func g) = .func (.func g) #[] #[] := fun _ => rfl
            clear hd hs
            refine wpc ?_ (Calls.mono (chainT_any s5 m5 c5 (D ++ E) w' (by omega) (HB11.out.later hg)) fun e w2 ⟨v, he, hb, hv⟩ => ⟨v, he, _, rfl, hb, hv⟩)
            (generalize a'.eval = ev at ec ef e58 ⊢; simp [execOp, go_sem, *])
          · refine stepK_run hstab ⟨⟨⟨1, Ground.guard⟩, by simp, rfl, rfl⟩, fun _ _ h => h⟩ (by intro j b h; cases h; rfl) ?_
            intro a' w' hg hs hd
            have e9 : a'.eval (.tmp 9) = .slice s9 m9 c9 := (hs.rest 9 rfl).trans E9
            have ec : ∀ v, a'.eval (.const v) = v := fun _ => rfl
            have ef : ∀ g, a'.eval (.func g) = .func (.func g) #[] #[] := fun _ => rfl
            clear hd hs
            refine wpv (v := .slice s9 m9 c9) ?_ ⟨_, rfl, Grow.rfl' _, rfl⟩
            (generalize a'.eval = ev at ec ef e9 ⊢; simp [execOp, go_sem, *])
          · refine stepK_run hstab ⟨⟨⟨1, Ground.guard⟩, by simp, rfl, rfl⟩, fun _ _ h => h⟩ (by intro j b h; cases h; rfl) ?_
            intro a' w' hg hs hd
            have e60 : a'.eval (.tmp 60) = .slice s9 m9 c9 := hd ⟨4, Ground.data⟩ (by simp) rfl rfl
            have ec : ∀ v, a'.eval (.const v) = v := fun _ => rfl
            have ef : ∀ g, a'.eval (.func g) = .func (.func g) #[] #[] := fun _ => rfl
            clear hd hs
            refine wpc ?_ (Calls.mono (unionT_at s9 m9 c9 D E w' (by omega) (HP11.out.later hg)) fun e w2 ⟨v, he, hb, hv⟩ => ⟨v, he, _, rfl, hb, hv⟩)
            (generalize a'.eval = ev at ec ef e60 ⊢; simp [execOp, go_sem, *])
          · refine stepK_run hstab ⟨⟨⟨1, Ground.guard⟩, by simp, rfl, rfl⟩, fun _ _ h => h⟩ (by intro j b h; cases h; rfl) ?_
            intro a' w' hg hs hd
            obtain ⟨sl59, nl59, cl59, e59, h59⟩ : IsRowT (chainO kinT (D ++ E)) (a'.eval (.tmp 59)) w' := hd ⟨3, Ground.data⟩ (by simp) rfl rfl
            obtain ⟨sl61, nl61, cl61, e61, h61⟩ : IsRowT (chainO kinT (D ++ E)) (a'.eval (.tmp 61)) w' := hd ⟨5, Ground.data⟩ (by simp) rfl rfl
            have ec : ∀ v, a'.eval (.const v) = v := fun _ => rfl
            have ef : ∀ g, a'.eval (.func g) = .func (.func g) #[] #[] := fun _ => rfl
            clear hd hs
            refine wpc ?_ (Calls.mono (chainSame_any sl59 sl61 cl59 cl61 nl59 nl61 _ _ true (by simp) w' (by have a1 := h59.1; have a2 := chainO_len kinT (D ++ E); have a3 := HB11.out.1; omega) h59 h61) fun e w2 ⟨he, hb⟩ => ⟨_, he, _, rfl, hb, rfl⟩)
            (generalize a'.eval = ev at ec ef e59 e61 ⊢; simp [execOp, go_sem, *])
          · refine stepK_run hstab trivial (by intro j b h; cases h) ?_
            intro a' w' hg hs hd
            have e57 : a'.eval (.tmp 57) = .bool true := hd ⟨1, Ground.data⟩ (by simp) rfl rfl
            have e62 : a'.eval (.tmp 62) = .bool true := hd ⟨6, Ground.data⟩ (by simp) rfl rfl
            have ec : ∀ v, a'.eval (.const v) = v := fun _ => rfl
            have ef : ∀ g, a'.eval (.func g) = .func (.func g) #[] #[] := fun _ => rfl
            clear hd hs
            refine wpv (v := .bool true) ?_ ⟨_, rfl, Grow.rfl' _, rfl⟩
            (generalize a'.eval = ev at ec ef e57 e62 ⊢; simp [execOp, go_sem, *])
          · refine stepK_run hstab trivial (by intro j b h; cases h) ?_
            intro a' w' hg hs hd
            have e63 : a'.eval (.tmp 63) = .bool true := hd ⟨7, Ground.data⟩ (by simp) rfl rfl
            have ec : ∀ v, a'.eval (.const v) = v := fun _ => rfl
            have ef : ∀ g, a'.eval (.func g) = .func (.func g) #[] #[] := fun _ => rfl
            clear hd hs
            refine wpv (v := .bool true) ?_ ⟨_, rfl, Grow.rfl' _, rfl⟩
            (generalize a'.eval = ev at ec ef e63 ⊢; simp [execOp, go_sem, *])
          · refine stepK_run hstab ⟨⟨⟨8, Ground.guard⟩, by simp, rfl, rfl⟩, fun _ _ h => h⟩ (by intro j b h; cases h; rfl) ?_
            intro a' w' hg hs hd
            have e10 : a'.eval (.tmp 10) = .slice s10 n10 c10 := (hs.rest 10 rfl).trans E10
            have ec : ∀ v, a'.eval (.const v) = v := fun _ => rfl
            have ef : ∀ g, a'.eval (.func g) = .func (.func g) #[] #[] := fun _ => rfl
            clear hd hs
            refine wpv (v := .slice s10 n10 c10) ?_ ⟨_, rfl, Grow.rfl' _, rfl⟩
            (generalize a'.eval = ev at ec ef e10 ⊢; simp [execOp, go_sem, *])
          · refine stepK_run hstab ⟨⟨⟨8, Ground.chain⟩, by simp, rfl, rfl⟩, fun _ _ h => h⟩ (by intro j b h; cases h; rfl) ?_
            intro a' w' hg hs hd
            have e65 : a'.eval (.tmp 65) = .slice s10 n10 c10 := hd ⟨9, Ground.data⟩ (by simp) rfl rfl
            have ec : ∀ v, a'.eval (.const v) = v := fun _ => rfl
            have ef : ∀ g, a'.eval (.func g) = .func (.func g) #[] #[] := fun _ => rfl
            clear hd hs
            refine wpc ?_ (Calls.mono (chainM_any s10 n10 c10 L w' (by omega) (HL11.out.later hg)) fun e w2 ⟨v, he, hb, hv⟩ => ⟨v, he, _, rfl, hb, hv⟩)
            (generalize a'.eval = ev at ec ef e65 ⊢; simp [execOp, go_sem, *])
          · refine stepK_run hstab ⟨⟨⟨8, Ground.guard⟩, by simp, rfl, rfl⟩, fun _ _ h => h⟩ (by intro j b h; cases h; rfl) ?_
            intro a' w' hg hs hd
            have e12 : a'.eval (.tmp 12) = .slice sz nz cz := (hs.rest 12 rfl).trans E12
            have ec : ∀ v, a'.eval (.const v) = v := fun _ => rfl
            have ef : ∀ g, a'.eval (.func g) = .func (.func g) #[] #[] := fun _ => rfl
            clear hd hs
            refine wpv (v := .slice sz nz cz) ?_ ⟨_, rfl, Grow.rfl' _, rfl⟩
            (generalize a'.eval = ev at ec ef e12 ⊢; simp [execOp, go_sem, *])
          · refine stepK_run hstab ⟨⟨⟨8, Ground.guard⟩, by simp, rfl, rfl⟩, fun _ _ h => h⟩ (by intro j b h; cases h; rfl) ?_
            intro a' w' hg hs hd
            have e67 : a'.eval (.tmp 67) = .slice sz nz cz := hd ⟨11, Ground.data⟩ (by simp) rfl rfl
            have ec : ∀ v, a'.eval (.const v) = v := fun _ => rfl
            have ef : ∀ g, a'.eval (.func g) = .func (.func g) #[] #[] := fun _ => rfl
            clear hd hs
            refine wpc ?_ (Calls.mono (unionM_at sz nz cz L 0 w' (by omega) (HZ.out.later hg)) fun e w2 ⟨v, he, hb, hv⟩ => ⟨v, he, _, rfl, hb, hv⟩)
            (generalize a'.eval = ev at ec ef e67 ⊢; simp [execOp, go_sem, *])
          · refine stepK_run hstab ⟨⟨⟨8, Ground.guard⟩, by simp, rfl, rfl⟩, fun _ _ h => h⟩ (by intro j b h; cases h; rfl) ?_
            intro a' w' hg hs hd
            obtain ⟨sl66, nl66, cl66, e66, h66⟩ : IsRowM (chainO kinS L) (a'.eval (.tmp 66)) w' := hd ⟨10, Ground.data⟩ (by simp) rfl rfl
            obtain ⟨sl68, nl68, cl68, e68, h68⟩ : IsRowM (chainO kinS L) (a'.eval (.tmp 68)) w' := hd ⟨12, Ground.data⟩ (by simp) rfl rfl
            have ec : ∀ v, a'.eval (.const v) = v := fun _ => rfl
            have ef : ∀ g, a'.eval (.func g) = .func (.func g) #[] #[] := fun _ => rfl
            clear hd hs
            refine wpc ?_ (Calls.mono (sameM_any sl66 sl68 cl66 cl68 nl66 nl68 _ _ true (by simp) w' (by have a1 := h66.1; have a2 := chainO_len kinS L; have a3 := HL11.out.1; omega) h66 h68) fun e w2 ⟨he, hb⟩ => ⟨_, he, _, rfl, hb, rfl⟩)
            (generalize a'.eval = ev at ec ef e66 e68 ⊢; simp [execOp, go_sem, *])
          · refine stepK_run hstab trivial (by intro j b h; cases h) ?_
            intro a' w' hg hs hd
            have e64 : a'.eval (.tmp 64) = .bool true := hd ⟨8, Ground.data⟩ (by simp) rfl rfl
            have e69 : a'.eval (.tmp 69) = .bool true := hd ⟨13, Ground.data⟩ (by simp) rfl rfl
            have ec : ∀ v, a'.eval (.const v) = v := fun _ => rfl
            have ef : ∀ g, a'.eval (.func g) = .func (.func g) #[] #[] := fun _ => rfl
            clear hd hs
            refine wpv (v := .bool true) ?_ ⟨_, rfl, Grow.rfl' _, rfl⟩
            (generalize a'.eval = ev at ec ef e64 e69 ⊢; simp [execOp, go_sem, *])
          · refine stepK_run hstab trivial (by intro j b h; cases h) ?_
            intro a' w' hg hs hd
            have e70 : a'.eval (.tmp 70) = .bool true := hd ⟨14, Ground.data⟩ (by simp) rfl rfl
            have ec : ∀ v, a'.eval (.const v) = v := fun _ => rfl
            have ef : ∀ g, a'.eval (.func g) = .func (.func g) #[] #[] := fun _ => rfl
            clear hd hs
            refine wpv (v := .bool true) ?_ ⟨_, rfl, Grow.rfl' _, rfl⟩
            (generalize a'.eval = ev at ec ef e70 ⊢; simp [execOp, go_sem, *])
        · intro a' w' hg hs hd
          have e6 : a'.eval (.tmp 6) = .bool true := hd 15 (by simp) (by intro k h; cases h)
          go_wp2_with fail
          refine bodyPost_ret (v := .bool true) ?_ (by rw [hs.defers]; exact HDF) ⟨rfl, Grow.trans' B11.out hg⟩
          clear hd hs hstab
          simpa [results, Try.results8, Act.eval] using e6

theorem ChainUnion_any (s : Option Addr) (n cap : Nat) (d : List Tm) (s' : Option Addr) (n' cap' : Nat) (d' : List Tm) (x : CutA) (w : World) (hd : IsTms w s n cap d) (hd' : IsTms w s' n' cap' d') (hx : IsSms w x.s x.n x.cap x.l) :
    Calls Try.prog 8 #[.slice s n cap, .slice s' n' cap', .agg #[.slice x.s x.n x.cap, .int .i64 x.k]] w fun e w' => e = .returned (.bool true) ∧ Grow w w' :=
  ChainUnion_walk s n cap d s' n' cap' d' x.s x.n x.cap x.l x.k w hd hd' hx

end Go.Proofs.Ytkpecibbpogedaa
