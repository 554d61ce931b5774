/-
  What the law CountedFronts does: for every row of numbers it returns true, and what was there stays as it was.
-/
import Derived.Test.YtpkhmhigoafklaaLCtH
import Derived.Test.YtpkhmhigoafklaaCFr
import Derived.Test.YtpkhmhigoafklaaRTm
namespace Go.Proofs.Ytpkhmhigoafklaa
set_option maxRecDepth 100000
open Go.RowKit Go.Sort
attribute [local go_sem ↓] run_minI eqTm
set_option linter.unusedVariables false
set_option linter.unusedSimpArgs false

set_option maxHeartbeats 4000000 in
theorem CountedFronts_any (s : Option Addr) (n cap : Nat) (d : List Opn) (w : World) (hd : IsOps w s n cap d) :
    Calls Try.prog 5 #[.slice s n cap] w fun e w' => e = .returned (.bool true) ∧ Grow w w' := by
  have HD := hide hd
  clear hd
  go_enter Try.func5, Try.ntmps5
  go_wp2_with fail
  refine (shown4_any w).mono ?_
  rintro e w1 ⟨rfl, hb⟩
  have G1 := hide hb
  clear hb
  go_wp2_with fail
  refine (new_any w1).mono ?_
  rintro e w2 ⟨p, b, rfl, hb, hR, hp1, hb1⟩
  have G2 := hide (Grow.trans' G1.out hb)
  have R2 := hide hR
  have hwb : w.heap.size ≤ b := by have := G1.out.size; omega
  clear hb hR G1 hp1 hb1
  go_wp2_with fail
  go_loopw [5] (fun i wr => ∃ k : Nat, k ≤ n ∧ k ≤ 40 ∧ i = .int .i64 k ∧ Grow w wr ∧ RepC wr p b (Cs.none.adds (d.take k))) (fun i _ => 40 - (intOf i).toNat)
  case atStart => exact ⟨0, Nat.zero_le _, Nat.zero_le _, rfl, G2.out, R2.out⟩
  case round =>
    obtain ⟨k, hk, hk40, rfl, hg, hR⟩ := hrel
    have HG := hide hg
    have HR := hide hR
    clear hg hR G2 R2
    by_cases hlt : k < n ∧ k < 40
    · obtain ⟨hlt, hlt40⟩ := hlt
      obtain ⟨bb, o, rfl, hr1, hkd⟩ := HD.out.see k (by omega)
      have HR1 := hide hr1
      obtain ⟨y, hy⟩ : ∃ y, y = d[k] := ⟨_, rfl⟩
      have HY := hide hy
      have HS := hide (Cs.adds_take Cs.none d k hkd)
      rw [← hy] at HS
      obtain ⟨S, hS⟩ : ∃ S, S = Cs.none.adds (d.take k) := ⟨_, rfl⟩
      have hSO : S.ok := by rw [hS]; exact Cs.adds_ok Cs.none_ok _
      obtain ⟨S', hS'⟩ : ∃ S', S' = S.add y.t y.n := ⟨_, rfl⟩
      rw [← hS] at HR HS
      rw [← hS'] at HS
      have HSO := hide hSO
      have HSP := hide (show S'.ok from by rw [hS']; exact Cs.add_ok hSO)
      have HGN := hide (show S.gone y.t y.n = outO S.front S'.front from by rw [hS']; rfl)
      have HCM := hide (show S.come y.t y.n = outO S'.front S.front from by rw [hS']; rfl)
      have HA := hide (fun w' (h : RepC w' p b S) => add_any p b S y.t y.n w' hSO h)
      have hi1 : (0 : Int) ≤ (k : Int) := by omega
      have hi2 : (k : Int) < (n : Int) := by omega
      have hi3 : (k : Int) < 40 := by omega
      have HSE := hide hS'
      clear hr1 hy hS hSO hS'
      go_wp2_with fail
      refine (front_any p b S wr HSO.out HR.out).mono ?_
      rintro e w3 ⟨v, rfl, hb, sW, nW, cW, rfl, hI⟩
      have G5 := hide (Grow.trans' HG.out hb)
      have R5 := hide (HR.out.later hb)
      have W5 := hide hI
      have hnW : nW ≤ 400 := by have h1 := hI.1; have h2 := Cs.front_len HSO.out; omega
      clear hb hI HG HR
      go_wp2_with fail
      refine wp_region_pivot (fun i vF wF => match i with | 0 => vF = .pointer (some ⟨p, 0, none⟩) | 1 => vF = .slice (some ⟨bb, o, none⟩) n cap | 2 => vF = .int .i64 (k : Int) | 3 => vF = .pointer (some ⟨bb, o + k * 6, none⟩) | 4 => vF = .pointer (some ⟨bb, o + k * 6, none⟩) | 5 => vF = .agg #[.int .i64 (y.t).e, .int .i64 (y.t).d, .int .i64 (y.t).x, .int .i64 (y.t).y, .int .i64 (y.t).z] | 6 => vF = .slice (some ⟨bb, o, none⟩) n cap | 7 => vF = .int .i64 (k : Int) | 8 => vF = .pointer (some ⟨bb, o + k * 6, none⟩) | 9 => vF = .pointer (some ⟨bb, o + k * 6 + 5, none⟩) | 10 => vF = .int .i64 y.n | _ => True) 11 _ rfl rfl (by kernel_rfl) (by kernel_rfl) (by kernel_rfl) (fun _ _ _ _ _ h => h) ?_ ?_
      · refine ⟨?_, ?_, ?_, ?_, ?_, ?_, ?_, ?_, ?_, ?_, ?_, trivial⟩
        · refine stepOne_run trivial ?_
          intro a' w' hg hs hd
          have e4 : a'.eval (.tmp 4) = .pointer (some ⟨p, 0, none⟩) := hs.rest 4 rfl
          have ec : ∀ v, a'.eval (.const v) = v := fun _ => rfl
          have ef : ∀ g, a'.eval (.func g) = .func (.func g) #[] #[] := fun _ => rfl
          clear hd hs
          refine wpv (v := .pointer (some ⟨p, 0, none⟩)) ?_ ⟨_, rfl, Grow.rfl' _, rfl⟩
          (generalize a'.eval = ev at ec ef e4 ⊢; simp [execOp, go_sem, *])
        · refine stepOne_run trivial ?_
          intro a' w' hg hs hd
          have e0 : a'.eval (.tmp 0) = .slice (some ⟨bb, o, none⟩) n cap := hs.rest 0 rfl
          have ec : ∀ v, a'.eval (.const v) = v := fun _ => rfl
          have ef : ∀ g, a'.eval (.func g) = .func (.func g) #[] #[] := fun _ => rfl
          clear hd hs
          refine wpv (v := .slice (some ⟨bb, o, none⟩) n cap) ?_ ⟨_, rfl, Grow.rfl' _, rfl⟩
          (generalize a'.eval = ev at ec ef e0 ⊢; simp [execOp, go_sem, *])
        · refine stepOne_run trivial ?_
          intro a' w' hg hs hd
          have e5 : a'.eval (.tmp 5) = .int .i64 (k : Int) := hs.rest 5 rfl
          have ec : ∀ v, a'.eval (.const v) = v := fun _ => rfl
          have ef : ∀ g, a'.eval (.func g) = .func (.func g) #[] #[] := fun _ => rfl
          clear hd hs
          refine wpv (v := .int .i64 (k : Int)) ?_ ⟨_, rfl, Grow.rfl' _, rfl⟩
          (generalize a'.eval = ev at ec ef e5 ⊢; simp [execOp, go_sem, *])
        · refine stepOne_run trivial ?_
          intro a' w' hg hs hd
          have e39 : a'.eval (.tmp 39) = .slice (some ⟨bb, o, none⟩) n cap := hd ⟨1, Ground.data⟩ (by simp) rfl
          have e40 : a'.eval (.tmp 40) = .int .i64 (k : Int) := hd ⟨2, Ground.data⟩ (by simp) rfl
          have ec : ∀ v, a'.eval (.const v) = v := fun _ => rfl
          have ef : ∀ g, a'.eval (.func g) = .func (.func g) #[] #[] := fun _ => rfl
          clear hd hs
          refine wpv (v := .pointer (some ⟨bb, o + k * 6, none⟩)) ?_ ⟨_, rfl, Grow.rfl' _, rfl⟩
          (generalize a'.eval = ev at ec ef e39 e40 ⊢; simp [execOp, go_sem, *])
        · refine stepOne_run trivial ?_
          intro a' w' hg hs hd
          have e41 : a'.eval (.tmp 41) = .pointer (some ⟨bb, o + k * 6, none⟩) := hd ⟨3, Ground.data⟩ (by simp) rfl
          have ec : ∀ v, a'.eval (.const v) = v := fun _ => rfl
          have ef : ∀ g, a'.eval (.func g) = .func (.func g) #[] #[] := fun _ => rfl
          clear hd hs
          refine wpv (v := .pointer (some ⟨bb, o + k * 6, none⟩)) ?_ ⟨_, rfl, Grow.rfl' _, rfl⟩
          (generalize a'.eval = ev at ec ef e41 ⊢; simp [execOp, go_sem, *])
        · refine stepOne_run trivial ?_
          intro a' w' hg hs hd
          have e42 : a'.eval (.tmp 42) = .pointer (some ⟨bb, o + k * 6, none⟩) := hd ⟨4, Ground.data⟩ (by simp) rfl
          have ec : ∀ v, a'.eval (.const v) = v := fun _ => rfl
          have ef : ∀ g, a'.eval (.func g) = .func (.func g) #[] #[] := fun _ => rfl
          obtain ⟨p0, p1, p2, p3, p4, p5⟩ := (HR1.out.later (Grow.trans' G5.out hg)).at k hkd; rw [← HY.out] at p0 p1 p2 p3 p4 p5
          clear hd hs
          refine wpv (v := .agg #[.int .i64 (y.t).e, .int .i64 (y.t).d, .int .i64 (y.t).x, .int .i64 (y.t).y, .int .i64 (y.t).z]) ?_ ⟨_, rfl, Grow.rfl' _, rfl⟩
          (generalize a'.eval = ev at ec ef e42 ⊢; simp [execOp, go_sem, *])
        · refine stepOne_run trivial ?_
          intro a' w' hg hs hd
          have e0 : a'.eval (.tmp 0) = .slice (some ⟨bb, o, none⟩) n cap := hs.rest 0 rfl
          have ec : ∀ v, a'.eval (.const v) = v := fun _ => rfl
          have ef : ∀ g, a'.eval (.func g) = .func (.func g) #[] #[] := fun _ => rfl
          clear hd hs
          refine wpv (v := .slice (some ⟨bb, o, none⟩) n cap) ?_ ⟨_, rfl, Grow.rfl' _, rfl⟩
          (generalize a'.eval = ev at ec ef e0 ⊢; simp [execOp, go_sem, *])
        · refine stepOne_run trivial ?_
          intro a' w' hg hs hd
          have e5 : a'.eval (.tmp 5) = .int .i64 (k : Int) := hs.rest 5 rfl
          have ec : ∀ v, a'.eval (.const v) = v := fun _ => rfl
          have ef : ∀ g, a'.eval (.func g) = .func (.func g) #[] #[] := fun _ => rfl
          clear hd hs
          refine wpv (v := .int .i64 (k : Int)) ?_ ⟨_, rfl, Grow.rfl' _, rfl⟩
          (generalize a'.eval = ev at ec ef e5 ⊢; simp [execOp, go_sem, *])
        · refine stepOne_run trivial ?_
          intro a' w' hg hs hd
          have e44 : a'.eval (.tmp 44) = .slice (some ⟨bb, o, none⟩) n cap := hd ⟨6, Ground.data⟩ (by simp) rfl
          have e45 : a'.eval (.tmp 45) = .int .i64 (k : Int) := hd ⟨7, Ground.data⟩ (by simp) rfl
          have ec : ∀ v, a'.eval (.const v) = v := fun _ => rfl
          have ef : ∀ g, a'.eval (.func g) = .func (.func g) #[] #[] := fun _ => rfl
          clear hd hs
          refine wpv (v := .pointer (some ⟨bb, o + k * 6, none⟩)) ?_ ⟨_, rfl, Grow.rfl' _, rfl⟩
          (generalize a'.eval = ev at ec ef e44 e45 ⊢; simp [execOp, go_sem, *])
        · refine stepOne_run trivial ?_
          intro a' w' hg hs hd
          have e46 : a'.eval (.tmp 46) = .pointer (some ⟨bb, o + k * 6, none⟩) := hd ⟨8, Ground.data⟩ (by simp) rfl
          have ec : ∀ v, a'.eval (.const v) = v := fun _ => rfl
          have ef : ∀ g, a'.eval (.func g) = .func (.func g) #[] #[] := fun _ => rfl
          clear hd hs
          refine wpv (v := .pointer (some ⟨bb, o + k * 6 + 5, none⟩)) ?_ ⟨_, rfl, Grow.rfl' _, rfl⟩
          (generalize a'.eval = ev at ec ef e46 ⊢; simp [execOp, go_sem, *])
        · refine stepOne_run trivial ?_
          intro a' w' hg hs hd
          have e47 : a'.eval (.tmp 47) = .pointer (some ⟨bb, o + k * 6 + 5, none⟩) := hd ⟨9, Ground.data⟩ (by simp) rfl
          have ec : ∀ v, a'.eval (.const v) = v := fun _ => rfl
          have ef : ∀ g, a'.eval (.func g) = .func (.func g) #[] #[] := fun _ => rfl
          obtain ⟨p0, p1, p2, p3, p4, p5⟩ := (HR1.out.later (Grow.trans' G5.out hg)).at k hkd; rw [← HY.out] at p0 p1 p2 p3 p4 p5
          clear hd hs
          refine wpv (v := .int .i64 y.n) ?_ ⟨_, rfl, Grow.rfl' _, rfl⟩
          (generalize a'.eval = ev at ec ef e47 ⊢; simp [execOp, go_sem, *])
      · intro a' w' hg hs hd
        have e38 : a'.eval (.tmp 38) = .pointer (some ⟨p, 0, none⟩) := hd 0 (by omega)
        have e43 : a'.eval (.tmp 43) = .agg #[.int .i64 (y.t).e, .int .i64 (y.t).d, .int .i64 (y.t).x, .int .i64 (y.t).y, .int .i64 (y.t).z] := hd 5 (by omega)
        have e48 : a'.eval (.tmp 48) = .int .i64 y.n := hd 10 (by omega)
        have ec : ∀ v, a'.eval (.const v) = v := fun _ => rfl
        have ef : ∀ g, a'.eval (.func g) = .func (.func g) #[] #[] := fun _ => rfl
        refine wpc ?_ ((HA.out w' (R5.out.later hg)).mono ?_)
        · (generalize a'.eval = ev at ec ef e38 e43 e48 ⊢; simp [execOp, go_sem, *])
        rintro e w4 ⟨s1, n1, c1, s2, n2, c2, rfl, hg4, hR4, hI1, hI2⟩
        obtain ⟨ev, hev⟩ : ∃ ev, S.err y.t y.n = ev := ⟨_, rfl⟩
        rw [hev]
        rw [HGN.out] at hI1
        rw [HCM.out] at hI2
        rw [← HSE.out] at hR4
        refine ⟨_, rfl, _, rfl, ?_⟩
        have G6 := hide (grow_step (Grow.trans' G5.out hg) hg4 hwb)
        have W6 := hide ((W5.out.later hg).turn (R5.out.later hg).map.block hg4)
        have R6 := hide hR4
        have J6 := hide hI1
        have K6 := hide hI2
        have hn1 : n1 ≤ 400 := by have h1 := hI1.1; have h2 := outO_len S.front S'.front; have h3 := Cs.front_len HSO.out; omega
        have hn2 : n2 ≤ 400 := by have h1 := hI2.1; have h2 := outO_len S'.front S.front; have h3 := Cs.front_len HSP.out; omega
        clear hg4 hR4 hI1 hI2 hg hev
        clear hd hs e38 e43 e48 ec ef
        refine ⟨fun i vF wF => match i with | 11 => vF = .tuple #[.slice s1 n1 c1, .slice s2 n2 c2, .int .i64 ev] | 12 => vF = .tuple #[.slice s1 n1 c1, .slice s2 n2 c2, .int .i64 ev] | 13 => vF = .slice s1 n1 c1 | 14 => vF = .slice s2 n2 c2 | 15 => vF = .int .i64 ev | 16 => vF = .slice s1 n1 c1 | 17 => vF = .slice s2 n2 c2 | 18 => vF = .int .i64 ev | _ => True, fun _ _ _ _ _ h => h, ?_, rfl, ?_, ?_⟩
        · intro i u w' hi
          match i, hi with
          | 0, _ => exact trivial
          | 1, _ => exact trivial
          | 2, _ => exact trivial
          | 3, _ => exact trivial
          | 4, _ => exact trivial
          | 5, _ => exact trivial
          | 6, _ => exact trivial
          | 7, _ => exact trivial
          | 8, _ => exact trivial
          | 9, _ => exact trivial
          | 10, _ => exact trivial
          | k + 11, h => exact absurd h (by omega)
        · refine ⟨?_, ?_, ?_, ?_, ?_, ?_, ?_, trivial⟩
          · refine stepOne_run trivial ?_
            intro a' w' hg hs hd
            have e49 : a'.eval (.tmp 49) = .tuple #[.slice s1 n1 c1, .slice s2 n2 c2, .int .i64 ev] := hd ⟨11, Ground.data⟩ (by simp) rfl
            have ec : ∀ v, a'.eval (.const v) = v := fun _ => rfl
            have ef : ∀ g, a'.eval (.func g) = .func (.func g) #[] #[] := fun _ => rfl
            clear hd hs
            refine wpv (v := .tuple #[.slice s1 n1 c1, .slice s2 n2 c2, .int .i64 ev]) ?_ ⟨_, rfl, Grow.rfl' _, rfl⟩
            (generalize a'.eval = ev at ec ef e49 ⊢; simp [execOp, go_sem, *])
          · refine stepOne_run trivial ?_
            intro a' w' hg hs hd
            have e37 : a'.eval (.tmp 37) = .tuple #[.slice s1 n1 c1, .slice s2 n2 c2, .int .i64 ev] := hd ⟨12, Ground.data⟩ (by simp) rfl
            have ec : ∀ v, a'.eval (.const v) = v := fun _ => rfl
            have ef : ∀ g, a'.eval (.func g) = .func (.func g) #[] #[] := fun _ => rfl
            clear hd hs
            refine wpv (v := .slice s1 n1 c1) ?_ ⟨_, rfl, Grow.rfl' _, rfl⟩
            (generalize a'.eval = ev at ec ef e37 ⊢; simp [execOp, go_sem, *])
          · refine stepOne_run trivial ?_
            intro a' w' hg hs hd
            have e37 : a'.eval (.tmp 37) = .tuple #[.slice s1 n1 c1, .slice s2 n2 c2, .int .i64 ev] := hd ⟨12, Ground.data⟩ (by simp) rfl
            have ec : ∀ v, a'.eval (.const v) = v := fun _ => rfl
            have ef : ∀ g, a'.eval (.func g) = .func (.func g) #[] #[] := fun _ => rfl
            clear hd hs
            refine wpv (v := .slice s2 n2 c2) ?_ ⟨_, rfl, Grow.rfl' _, rfl⟩
            (generalize a'.eval = ev at ec ef e37 ⊢; simp [execOp, go_sem, *])
          · refine stepOne_run trivial ?_
            intro a' w' hg hs hd
            have e37 : a'.eval (.tmp 37) = .tuple #[.slice s1 n1 c1, .slice s2 n2 c2, .int .i64 ev] := hd ⟨12, Ground.data⟩ (by simp) rfl
            have ec : ∀ v, a'.eval (.const v) = v := fun _ => rfl
            have ef : ∀ g, a'.eval (.func g) = .func (.func g) #[] #[] := fun _ => rfl
            clear hd hs
            refine wpv (v := .int .i64 ev) ?_ ⟨_, rfl, Grow.rfl' _, rfl⟩
            (generalize a'.eval = ev at ec ef e37 ⊢; simp [execOp, go_sem, *])
          · refine stepOne_run trivial ?_
            intro a' w' hg hs hd
            have e50 : a'.eval (.tmp 50) = .slice s1 n1 c1 := hd ⟨13, Ground.data⟩ (by simp) rfl
            have ec : ∀ v, a'.eval (.const v) = v := fun _ => rfl
            have ef : ∀ g, a'.eval (.func g) = .func (.func g) #[] #[] := fun _ => rfl
            clear hd hs
            refine wpv (v := .slice s1 n1 c1) ?_ ⟨_, rfl, Grow.rfl' _, rfl⟩
            (generalize a'.eval = ev at ec ef e50 ⊢; simp [execOp, go_sem, *])
          · refine stepOne_run trivial ?_
            intro a' w' hg hs hd
            have e51 : a'.eval (.tmp 51) = .slice s2 n2 c2 := hd ⟨14, Ground.data⟩ (by simp) rfl
            have ec : ∀ v, a'.eval (.const v) = v := fun _ => rfl
            have ef : ∀ g, a'.eval (.func g) = .func (.func g) #[] #[] := fun _ => rfl
            clear hd hs
            refine wpv (v := .slice s2 n2 c2) ?_ ⟨_, rfl, Grow.rfl' _, rfl⟩
            (generalize a'.eval = ev at ec ef e51 ⊢; simp [execOp, go_sem, *])
          · refine stepOne_run trivial ?_
            intro a' w' hg hs hd
            have e52 : a'.eval (.tmp 52) = .int .i64 ev := hd ⟨15, Ground.data⟩ (by simp) rfl
            have ec : ∀ v, a'.eval (.const v) = v := fun _ => rfl
            have ef : ∀ g, a'.eval (.func g) = .func (.func g) #[] #[] := fun _ => rfl
            clear hd hs
            refine wpv (v := .int .i64 ev) ?_ ⟨_, rfl, Grow.rfl' _, rfl⟩
            (generalize a'.eval = ev at ec ef e52 ⊢; simp [execOp, go_sem, *])
        · intro a' w' hg hs hd
          have G7 := hide (Grow.trans' G6.out hg)
          have R7 := hide (R6.out.later hg)
          have W7 := hide (W6.out.later hg)
          have J7 := hide (J6.out.later hg)
          have K7 := hide (K6.out.later hg)
          clear hg G5 R5 W5 G6 R6 W6 J6 K6 HA HGN HCM HR1
          have fz49 : a'.tmps.getD 49 undef = .tuple #[.slice s1 n1 c1, .slice s2 n2 c2, .int .i64 ev] := hd 11 (by simp); have fz37 : a'.tmps.getD 37 undef = .tuple #[.slice s1 n1 c1, .slice s2 n2 c2, .int .i64 ev] := hd 12 (by simp); have fz50 : a'.tmps.getD 50 undef = .slice s1 n1 c1 := hd 13 (by simp); have fz51 : a'.tmps.getD 51 undef = .slice s2 n2 c2 := hd 14 (by simp); have fz52 : a'.tmps.getD 52 undef = .int .i64 ev := hd 15 (by simp); have fz7 : a'.tmps.getD 7 undef = .slice s1 n1 c1 := hd 16 (by simp); have fz8 : a'.tmps.getD 8 undef = .slice s2 n2 c2 := hd 17 (by simp); have fz9 : a'.tmps.getD 9 undef = .int .i64 ev := hd 18 (by simp); rw [frame_eq hs [false, false, false, false, false, false, false, true, true, true, false, false, false, false, false, false, false, false, false, false, false, false, false, false, false, false, false, false, false, false, false, false, false, false, false, false, false, true, true, true, true, true, true, true, true, true, true, true, true, true, true, true, true, false, false, false, false, false, false, false, false, false, false, false, false, false, false, false, false, false, false, false, false, false, false, false, false, false, false, false, false, false, false, false, false, false, false, false, false, false, false, false, false, false, false, false, false, false, false, false, false, false, false, false, false, false, false, false, false, false, false, false, false, false, false, false, false, false, false, false, false, false, false, false, false, false, false, false, false, false, false, false, false, false, false, false, false] (by kernel_rfl)]; simp only [mergeL, fz49, fz37, fz50, fz51, fz52, fz7, fz8, fz9]; clear hs hd fz49 fz37 fz50 fz51 fz52 fz7 fz8 fz9; generalize a'.tmps = TT at *
          go_wp2_with fail
          refine (front_any p b S' w' HSP.out R7.out).mono ?_
          rintro e w8 ⟨v, rfl, hb, sN, nN, cN, rfl, hI⟩
          have G8 := hide (Grow.trans' G7.out hb)
          have R8 := hide (R7.out.later hb)
          have W8 := hide (W7.out.later hb)
          have J8 := hide (J7.out.later hb)
          have K8 := hide (K7.out.later hb)
          have N8 := hide hI
          have hnN : nN ≤ 400 := by have h1 := hI.1; have h2 := Cs.front_len HSP.out; omega
          have hlen : (nW : Int) - (n1 : Int) + (n2 : Int) = (nN : Int) := by
            have h1 := W8.out.1; have h2 := J8.out.1; have h3 := K8.out.1; have h4 := hI.1
            have h5 := front_count (Cs.front_rises S) (Cs.front_rises S')
            omega
          clear hb hI G7 R7 W7 J7 K7
          go_wp2_with fail
          go_loopw [11] (fun i wr => ∃ j : Nat, j ≤ n1 ∧ i = .int .i64 j ∧ Grow w8 wr) (fun i _ => n1 - (intOf i).toNat)
          case atStart => exact ⟨0, Nat.zero_le _, rfl, Grow.rfl' _⟩
          case round =>
            obtain ⟨j, hj, rfl, hg⟩ := hrel
            have HG9 := hide hg
            clear hg
            by_cases hjl : j < n1
            · have hjd : j < (outO S.front S'.front).length := by rw [J8.out.1]; exact hjl
              obtain ⟨bj, oj, rfl, hrj⟩ := J8.out.2.2.resolve_left (fun e => by rw [e] at hjd; simp at hjd)
              obtain ⟨x, hx⟩ : ∃ x, x = (outO S.front S'.front)[j] := ⟨_, rfl⟩
              have hxm : x ∈ S.front ∧ x ∉ S'.front := by rw [hx]; exact mem_outO.1 (List.getElem_mem _)
              obtain ⟨p0, p1, p2, p3, p4⟩ := (hrj.later HG9.out).at j hjd
              rw [← hx] at p0 p1 p2 p3 p4
              have HP := hide (And.intro p0 (And.intro p1 (And.intro p2 (And.intro p3 p4))))
              have C1 := hide (in_at sW nW cW S.front x (q := true) (by simp [hxm.1]) wr (by omega) (W8.out.later HG9.out))
              have C2 := hide (fun w' (h : IsTms w' sN nN cN S'.front) => in_at sN nN cN S'.front x (q := false) (by simp [hxm.2]) w' (by omega) h)
              have hi7 : (0 : Int) ≤ (j : Int) := by omega
              have hi8 : (j : Int) < (n1 : Int) := by omega
              clear hrj hx hxm
              go_wp2_with fail
              refine (C1.out).mono ?_
              rintro e w9 ⟨rfl, hb⟩
              have HG10 := hide (Grow.trans' HG9.out hb)
              have HP2 := hide (Box5.later hb HP.out)
              clear hb p0 p1 p2 p3 p4 C1
              obtain ⟨p0, p1, p2, p3, p4⟩ := HP2.out
              go_wp2_with fail
              refine (C2.out w9 (N8.out.later HG10.out)).mono ?_
              rintro e w10 ⟨rfl, hb⟩
              have HG11 := hide (Grow.trans' HG10.out hb)
              clear hb p0 p1 p2 p3 p4 C2
              go_wp2_with fail
              go_roundw
              case rel => exact ⟨j + 1, by omega, by go_num, HG11.out⟩
              case measure => simp [intOf]; omega
            · have hi8 : ¬ (j : Int) < (n1 : Int) := by omega
              have G9 := hide (Grow.trans' G8.out HG9.out)
              have R9 := hide (R8.out.later HG9.out)
              have W9 := hide (W8.out.later HG9.out)
              have K9 := hide (K8.out.later HG9.out)
              have N9 := hide (N8.out.later HG9.out)
              clear G8 R8 W8 K8 N8 J8 HG9
              obtain ⟨w9, hw9⟩ : ∃ w9, w9 = wr := ⟨_, rfl⟩
              rw [← hw9] at G9 R9 W9 K9 N9 ⊢
              clear hw9
              go_wp2_with fail
              go_loopw [12] (fun i wr => ∃ j : Nat, j ≤ n2 ∧ i = .int .i64 j ∧ Grow w9 wr) (fun i _ => n2 - (intOf i).toNat)
              case atStart => exact ⟨0, Nat.zero_le _, rfl, Grow.rfl' _⟩
              case round =>
                obtain ⟨j, hj, rfl, hg⟩ := hrel
                have HG9 := hide hg
                clear hg
                by_cases hjl : j < n2
                · have hjd : j < (outO S'.front S.front).length := by rw [K9.out.1]; exact hjl
                  obtain ⟨bj, oj, rfl, hrj⟩ := K9.out.2.2.resolve_left (fun e => by rw [e] at hjd; simp at hjd)
                  obtain ⟨x, hx⟩ : ∃ x, x = (outO S'.front S.front)[j] := ⟨_, rfl⟩
                  have hxm : x ∈ S'.front ∧ x ∉ S.front := by rw [hx]; exact mem_outO.1 (List.getElem_mem _)
                  obtain ⟨p0, p1, p2, p3, p4⟩ := (hrj.later HG9.out).at j hjd
                  rw [← hx] at p0 p1 p2 p3 p4
                  have HP := hide (And.intro p0 (And.intro p1 (And.intro p2 (And.intro p3 p4))))
                  have C1 := hide (in_at sW nW cW S.front x (q := false) (by simp [hxm.2]) wr (by omega) (W9.out.later HG9.out))
                  have C2 := hide (fun w' (h : IsTms w' sN nN cN S'.front) => in_at sN nN cN S'.front x (q := true) (by simp [hxm.1]) w' (by omega) h)
                  have hi7 : (0 : Int) ≤ (j : Int) := by omega
                  have hi9 : (j : Int) < (n2 : Int) := by omega
                  clear hrj hx hxm
                  go_wp2_with fail
                  refine (C1.out).mono ?_
                  rintro e w10 ⟨rfl, hb⟩
                  have HG10 := hide (Grow.trans' HG9.out hb)
                  have HP2 := hide (Box5.later hb HP.out)
                  clear hb p0 p1 p2 p3 p4 C1
                  obtain ⟨p0, p1, p2, p3, p4⟩ := HP2.out
                  go_wp2_with fail
                  refine (C2.out w10 (N9.out.later HG10.out)).mono ?_
                  rintro e w11 ⟨rfl, hb⟩
                  have HG11 := hide (Grow.trans' HG10.out hb)
                  clear hb p0 p1 p2 p3 p4 C2
                  go_wp2_with fail
                  go_roundw
                  case rel => exact ⟨j + 1, by omega, by go_num, HG11.out⟩
                  case measure => simp [intOf]; omega
                · have hi9 : ¬ (j : Int) < (n2 : Int) := by omega
                  have G10 := hide (Grow.trans' G9.out HG9.out)
                  have R10 := hide (R9.out.later HG9.out)
                  have N10 := hide (N9.out.later HG9.out)
                  clear G9 R9 W9 K9 N9 HG9
                  go_wp2_with fail
                  refine (all_any p b S' wr HSP.out R10.out).mono ?_
                  rintro e w11 ⟨v, rfl, hb, sA, nA, cA, rfl, hI⟩
                  have hnA : nA ≤ 400 := by have h1 := hI.1; have h2 := HSP.out.few; omega
                  have G11 := hide (Grow.trans' G10.out hb)
                  have R11 := hide (R10.out.later hb)
                  have N11 := hide (N10.out.later hb)
                  have A11 := hide hI
                  have U11 : Hid (OwnS (w11.alloc (.cells #[] 25)) w11.heap.size w11.heap.size 0 []) := hide (OwnS.lit0 w11 w11.heap.size (Nat.le_refl _))
                  have V11 : Hid (Grow w11 (w11.alloc (.cells #[] 25))) := hide (Grow.alloc' _ _)
                  clear hb hI G10 R10 N10
                  go_wp2_with fail
                  generalize w11.alloc (.cells #[] 25) = w12 at *
                  go_loopw [14, 15] (fun v i wr => ∃ (j : Nat) (s' : Option Addr) (m cap' : Nat), j ≤ nA ∧ v = .slice s' m cap' ∧ i = .int .i64 j ∧ Grow w11 wr ∧ OwnSV wr w11.heap.size s' m cap' ((S'.T.take j).filter fun x => decide (0 < S'.f x))) (fun _ i _ => nA - (intOf i).toNat)
                  case atStart => exact ⟨0, _, 0, 0, Nat.zero_le _, rfl, rfl, V11.out, OwnSV.of U11.out rfl⟩
                  case round =>
                    obtain ⟨j, s', m, cap', hj, rfl, rfl, hg, hO⟩ := hrel
                    have HG := hide hg
                    have HO := hide hO
                    have hml : m ≤ nA := by
                      have h1 := hO.1
                      have h2 := List.length_filter_le (fun x => decide (0 < S'.f x)) (S'.T.take j)
                      have h3 := A11.out.1
                      rw [List.length_take] at h2
                      omega
                    have hzr : w11.heap.size ≤ wr.heap.size := hg.size
                    clear hg hO V11 U11
                    by_cases hjl : j < nA
                    · have hjd : j < S'.T.length := by rw [A11.out.1]; exact hjl
                      obtain ⟨bj, oj, rfl, hrj⟩ := A11.out.2.2.resolve_left (fun e => by rw [e] at hjd; simp at hjd)
                      obtain ⟨x, hx⟩ : ∃ x, x = S'.T[j] := ⟨_, rfl⟩
                      have hxw : wfT x := by rw [hx]; exact wfT_may (HSP.out.may _ (List.getElem_mem _))
                      have HE := hide (filter_take_succ (fun x => decide (0 < S'.f x)) S'.T j hjd)
                      rw [← hx] at HE
                      obtain ⟨c, hc⟩ : ∃ c, S'.f x = c := ⟨_, rfl⟩
                      obtain ⟨p0, p1, p2, p3, p4⟩ := (hrj.later HG.out).at j hjd
                      rw [← hx] at p0 p1 p2 p3 p4
                      have HP := hide (And.intro p0 (And.intro p1 (And.intro p2 (And.intro p3 p4))))
                      have C1 := hide (count_at p b S' x hc wr hxw (R11.out.later HG.out))
                      have HCX := hide hc
                      have hi7 : (0 : Int) ≤ (j : Int) := by omega
                      have hi10 : (j : Int) < (nA : Int) := by omega
                      clear hrj hx hxw hc
                      go_wp2_with fail
                      refine (C1.out).mono ?_
                      rintro e w13 ⟨rfl, hb⟩
                      have HG13 := hide (Grow.trans' HG.out hb)
                      have HO13 := hide (HO.out.later hb)
                      have HP13 := hide (Box5.later hb HP.out)
                      have hz13 : w11.heap.size ≤ w13.heap.size := HG13.out.size
                      clear hb p0 p1 p2 p3 p4 C1 HG HO HP
                      by_cases hc0 : 0 < c
                      · obtain ⟨p0, p1, p2, p3, p4⟩ := HP13.out
                        go_wp2_with (at_builtin; refine wpList_apv_tm rfl _ _ rfl w11.heap.size s' cap' ((S'.T.take j).filter fun x => decide (0 < S'.f x)) [x] m rfl (HO13.out.later (Grow.alloc' _ _)) w13.heap.size 0 1 1 rfl rfl (by omega) (RowT_one w13 x) ?hl ?hb ?_)
                        case hl => rw [HO13.out.1]; omega
                        case hb => simp; omega
                        intro g' c' w14 O2 gb
                        have G14 := hide (gb.grow (Grow.trans' HG13.out (Grow.alloc' _ _)) (Nat.le_refl _))
                        have HO14 := hide O2
                        clear gb O2 p0 p1 p2 p3 p4
                        go_wp2_with fail
                        go_roundw
                        case rel =>
                          refine ⟨j + 1, some ⟨g', 0, none⟩, m + 1, c', by omega, rfl, by go_num, G14.out, ?_⟩
                          rw [HE.out, HCX.out, if_pos (by simpa using hc0)]
                          refine OwnSV.of HO14.out ?_
                          have := HO13.out.1
                          simp [this]
                        case measure => simp [intOf]; omega
                      · go_wp2_with fail
                        go_roundw
                        case rel =>
                          refine ⟨j + 1, s', m, cap', by omega, rfl, by go_num, HG13.out, ?_⟩
                          rw [HE.out, HCX.out, if_neg (by simpa using hc0), List.append_nil]
                          exact HO13.out
                        case measure => simp [intOf]; omega
                    · have hi10 : ¬ (j : Int) < (nA : Int) := by omega
                      have hup : (S'.T.take j).filter (fun x => decide (0 < S'.f x)) = S'.up := by rw [List.take_of_length_le (by rw [A11.out.1]; omega)]; rfl
                      have C1 := hide (refTimes_any s' m cap' S'.up wr (by omega) (hup ▸ HO.out.is))
                      clear hup HO
                      go_wp2_with fail
                      refine (C1.out).mono ?_
                      rintro e w13 ⟨v, rfl, hb, sT, nT, cT, rfl, hI⟩
                      have HG13 := hide (Grow.trans' HG.out hb)
                      have C2 := hide (sameT_any sN sT cN cT nN nT S'.front S'.front true (by simp) w13 (by omega) (N11.out.later HG13.out) hI)
                      clear hb hI C1 HG
                      go_wp2_with fail
                      refine (C2.out).mono ?_
                      rintro e w14 ⟨rfl, hb⟩
                      have HG14 := hide (Grow.trans' HG13.out hb)
                      clear hb C2 HG13
                      go_wp2_with fail
                      go_roundw
                      case rel => exact ⟨k + 1, by omega, by omega, by go_num, Grow.trans' G11.out HG14.out, by rw [HS.out]; exact R11.out.later HG14.out⟩
                      case measure => simp [intOf]; omega
    · by_cases hlt1 : (k : Int) < (n : Int)
      all_goals
        have hi5 : ¬ ((k : Int) < (n : Int) ∧ (k : Int) < 40) := by omega
        have hi6 : ¬ (k : Int) < 40 ∨ ¬ (k : Int) < (n : Int) := by omega
        go_wp2_with fail
        go_ret
        exact ⟨rfl, HG.out⟩

end Go.Proofs.Ytpkhmhigoafklaa
