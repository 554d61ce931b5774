/-
  What the law CountedApart does: for every two rows of numbers it returns true, and what was there stays as it was.
-/
import Derived.Test.YtpkhmhigoafklaaLCtH
import Derived.Test.YtpkhmhigoafklaaCFr
import Derived.Test.YtpkhmhigoafklaaCCl
namespace Go.Proofs.Ytpkhmhigoafklaa
set_option maxRecDepth 100000
open Go.RowKit Go.Sort
attribute [local go_sem ↓] run_minI eqTm
set_option linter.unusedVariables false
set_option linter.unusedSimpArgs false

set_option maxHeartbeats 4000000 in
theorem Apart_aa (s : Option Addr) (n cap : Nat) (d : List Opn) (s1 : Option Addr) (n1 cap1 : Nat) (d1 : List Opn) (w : World) (hn : n ≤ 30) (hm : n1 ≤ 30) (hd : IsOps w s n cap d) (hd1 : IsOps w s1 n1 cap1 d1) :
    Calls Try.prog 8 #[.slice s n cap, .slice s1 n1 cap1] w fun e w' => e = .returned (.bool true) ∧ Grow w w' := by
  have HD := hide hd
  have HD1 := hide hd1
  clear hd hd1
  go_enter Try.func8, Try.ntmps8
  go_wp2_with fail
  refine (shown4_any w).mono ?_
  rintro e w1 ⟨rfl, hb⟩
  have G1 := hide hb
  clear hb
  go_wp2_with fail
  refine (new_any w1).mono ?_
  rintro e w2 ⟨p, b, rfl, hb, hR, hp1, hb1⟩
  have G2 := hide (Grow.trans' G1.out hb)
  have R2 := hide hR
  have hwb : w.heap.size ≤ b := by have := G1.out.size; omega
  have hpl : p < w2.heap.size := hR.lt
  have hbl : b < w2.heap.size := hR.map.lt
  clear hb hR G1 hp1 hb1
  go_wp2_with fail
  refine (new_any w2).mono ?_
  rintro e w3 ⟨p', b', rfl, hb, hR, hp1, hb1⟩
  have G3 := hide (Grow.trans' G2.out hb)
  have R3 := hide (R2.out.later hb)
  have Q3 := hide hR
  have hwb' : w.heap.size ≤ b' := by have := G2.out.size; omega
  have hpb : p ≠ b' := by omega
  have hbb : b ≠ b' := by omega
  have hpb' : p' ≠ b := by omega
  clear hb hR G2 R2 hp1 hb1 hpl hbl
  go_wp2_with fail
  go_loopw [8] (fun i wr => ∃ k : Nat, k ≤ n ∧ k ≤ 30 ∧ i = .int .i64 k ∧ Grow w wr ∧ RepC wr p b (Cs.none.adds (d.take k)) ∧ RepC wr p' b' (Cs.none.adds (d.take k))) (fun i _ => 30 - (intOf i).toNat)
  case atStart => exact ⟨0, Nat.zero_le _, Nat.zero_le _, rfl, G3.out, R3.out, Q3.out⟩
  case round =>
    obtain ⟨k, hk, hk30, rfl, hg, hR, hQ⟩ := hrel
    have HG := hide hg
    have HR := hide hR
    have HQ := hide hQ
    clear hg hR hQ G3 R3 Q3
    by_cases hlt : k < n ∧ k < 30
    · obtain ⟨hlt, hlt30⟩ := hlt
      obtain ⟨bb, o, rfl, hr1, hkd⟩ := HD.out.see k (by omega)
      have HR1 := hide hr1
      obtain ⟨y, hy⟩ : ∃ y, y = d[k] := ⟨_, rfl⟩
      have HY := hide hy
      have HS := hide (Cs.adds_take Cs.none d k hkd)
      rw [← hy] at HS
      have hi1 : (0 : Int) ≤ (k : Int) := by omega
      have hi2 : (k : Int) < (n : Int) := by omega
      have hi3 : (k : Int) < 30 := by omega
      have HA := hide (fun p b w' (h : RepC w' p b (Cs.none.adds (d.take k))) => add_any p b (Cs.none.adds (d.take k)) y.t y.n w' (Cs.adds_ok Cs.none_ok _) h)
      clear hr1 hy
      go_wp2_with fail
      refine wp_region_end (fun i vF wF => match i with | 0 => vF = .pointer (some ⟨p, 0, none⟩) | 1 => vF = .slice (some ⟨bb, o, none⟩) n cap | 2 => vF = .int .i64 (k : Int) | 3 => vF = .pointer (some ⟨bb, o + k * 6, none⟩) | 4 => vF = .pointer (some ⟨bb, o + k * 6, none⟩) | 5 => vF = .agg #[.int .i64 (y.t).e, .int .i64 (y.t).d, .int .i64 (y.t).x, .int .i64 (y.t).y, .int .i64 (y.t).z] | 6 => vF = .slice (some ⟨bb, o, none⟩) n cap | 7 => vF = .int .i64 (k : Int) | 8 => vF = .pointer (some ⟨bb, o + k * 6, none⟩) | 9 => vF = .pointer (some ⟨bb, o + k * 6 + 5, none⟩) | 10 => vF = .int .i64 y.n | _ => True) 11 _ rfl rfl rfl (by kernel_rfl) (by kernel_rfl) ?_ ?_ ?_
      · intro k v w1 w2 hg h
        match k with
        | 0 => exact h
        | 1 => exact h
        | 2 => exact h
        | 3 => exact h
        | 4 => exact h
        | 5 => exact h
        | 6 => exact h
        | 7 => exact h
        | 8 => exact h
        | 9 => exact h
        | 10 => exact h
        | k + 11 => exact trivial
      · refine ⟨?_, ?_, ?_, ?_, ?_, ?_, ?_, ?_, ?_, ?_, ?_, trivial⟩
        · refine stepOne_run trivial ?_
          intro a' w' hg hs hd
          have e6 : a'.eval (.tmp 6) = .pointer (some ⟨p, 0, none⟩) := hs.rest 6 rfl
          have ec : ∀ v, a'.eval (.const v) = v := fun _ => rfl
          have ef : ∀ g, a'.eval (.func g) = .func (.func g) #[] #[] := fun _ => rfl
          clear hd hs
          refine wpv (v := .pointer (some ⟨p, 0, none⟩)) ?_ ⟨_, rfl, Grow.rfl' _, rfl⟩
          (generalize a'.eval = ev at ec ef e6 ⊢; simp [execOp, go_sem, *])
        · refine stepOne_run trivial ?_
          intro a' w' hg hs hd
          have e0 : a'.eval (.tmp 0) = .slice (some ⟨bb, o, none⟩) n cap := hs.rest 0 rfl
          have ec : ∀ v, a'.eval (.const v) = v := fun _ => rfl
          have ef : ∀ g, a'.eval (.func g) = .func (.func g) #[] #[] := fun _ => rfl
          clear hd hs
          refine wpv (v := .slice (some ⟨bb, o, none⟩) n cap) ?_ ⟨_, rfl, Grow.rfl' _, rfl⟩
          (generalize a'.eval = ev at ec ef e0 ⊢; simp [execOp, go_sem, *])
        · refine stepOne_run trivial ?_
          intro a' w' hg hs hd
          have e8 : a'.eval (.tmp 8) = .int .i64 (k : Int) := hs.rest 8 rfl
          have ec : ∀ v, a'.eval (.const v) = v := fun _ => rfl
          have ef : ∀ g, a'.eval (.func g) = .func (.func g) #[] #[] := fun _ => rfl
          clear hd hs
          refine wpv (v := .int .i64 (k : Int)) ?_ ⟨_, rfl, Grow.rfl' _, rfl⟩
          (generalize a'.eval = ev at ec ef e8 ⊢; simp [execOp, go_sem, *])
        · refine stepOne_run trivial ?_
          intro a' w' hg hs hd
          have e42 : a'.eval (.tmp 42) = .slice (some ⟨bb, o, none⟩) n cap := hd ⟨1, Ground.data⟩ (by simp) rfl
          have e43 : a'.eval (.tmp 43) = .int .i64 (k : Int) := hd ⟨2, Ground.data⟩ (by simp) rfl
          have ec : ∀ v, a'.eval (.const v) = v := fun _ => rfl
          have ef : ∀ g, a'.eval (.func g) = .func (.func g) #[] #[] := fun _ => rfl
          clear hd hs
          refine wpv (v := .pointer (some ⟨bb, o + k * 6, none⟩)) ?_ ⟨_, rfl, Grow.rfl' _, rfl⟩
          (generalize a'.eval = ev at ec ef e42 e43 ⊢; simp [execOp, go_sem, *])
        · refine stepOne_run trivial ?_
          intro a' w' hg hs hd
          have e44 : a'.eval (.tmp 44) = .pointer (some ⟨bb, o + k * 6, none⟩) := hd ⟨3, Ground.data⟩ (by simp) rfl
          have ec : ∀ v, a'.eval (.const v) = v := fun _ => rfl
          have ef : ∀ g, a'.eval (.func g) = .func (.func g) #[] #[] := fun _ => rfl
          clear hd hs
          refine wpv (v := .pointer (some ⟨bb, o + k * 6, none⟩)) ?_ ⟨_, rfl, Grow.rfl' _, rfl⟩
          (generalize a'.eval = ev at ec ef e44 ⊢; simp [execOp, go_sem, *])
        · refine stepOne_run trivial ?_
          intro a' w' hg hs hd
          have e45 : a'.eval (.tmp 45) = .pointer (some ⟨bb, o + k * 6, none⟩) := hd ⟨4, Ground.data⟩ (by simp) rfl
          have ec : ∀ v, a'.eval (.const v) = v := fun _ => rfl
          have ef : ∀ g, a'.eval (.func g) = .func (.func g) #[] #[] := fun _ => rfl
          obtain ⟨p0, p1, p2, p3, p4, p5⟩ := (HR1.out.later (Grow.trans' HG.out hg)).at k hkd; rw [← HY.out] at p0 p1 p2 p3 p4 p5
          clear hd hs
          refine wpv (v := .agg #[.int .i64 (y.t).e, .int .i64 (y.t).d, .int .i64 (y.t).x, .int .i64 (y.t).y, .int .i64 (y.t).z]) ?_ ⟨_, rfl, Grow.rfl' _, rfl⟩
          (generalize a'.eval = ev at ec ef e45 ⊢; simp [execOp, go_sem, *])
        · refine stepOne_run trivial ?_
          intro a' w' hg hs hd
          have e0 : a'.eval (.tmp 0) = .slice (some ⟨bb, o, none⟩) n cap := hs.rest 0 rfl
          have ec : ∀ v, a'.eval (.const v) = v := fun _ => rfl
          have ef : ∀ g, a'.eval (.func g) = .func (.func g) #[] #[] := fun _ => rfl
          clear hd hs
          refine wpv (v := .slice (some ⟨bb, o, none⟩) n cap) ?_ ⟨_, rfl, Grow.rfl' _, rfl⟩
          (generalize a'.eval = ev at ec ef e0 ⊢; simp [execOp, go_sem, *])
        · refine stepOne_run trivial ?_
          intro a' w' hg hs hd
          have e8 : a'.eval (.tmp 8) = .int .i64 (k : Int) := hs.rest 8 rfl
          have ec : ∀ v, a'.eval (.const v) = v := fun _ => rfl
          have ef : ∀ g, a'.eval (.func g) = .func (.func g) #[] #[] := fun _ => rfl
          clear hd hs
          refine wpv (v := .int .i64 (k : Int)) ?_ ⟨_, rfl, Grow.rfl' _, rfl⟩
          (generalize a'.eval = ev at ec ef e8 ⊢; simp [execOp, go_sem, *])
        · refine stepOne_run trivial ?_
          intro a' w' hg hs hd
          have e47 : a'.eval (.tmp 47) = .slice (some ⟨bb, o, none⟩) n cap := hd ⟨6, Ground.data⟩ (by simp) rfl
          have e48 : a'.eval (.tmp 48) = .int .i64 (k : Int) := hd ⟨7, Ground.data⟩ (by simp) rfl
          have ec : ∀ v, a'.eval (.const v) = v := fun _ => rfl
          have ef : ∀ g, a'.eval (.func g) = .func (.func g) #[] #[] := fun _ => rfl
          clear hd hs
          refine wpv (v := .pointer (some ⟨bb, o + k * 6, none⟩)) ?_ ⟨_, rfl, Grow.rfl' _, rfl⟩
          (generalize a'.eval = ev at ec ef e47 e48 ⊢; simp [execOp, go_sem, *])
        · refine stepOne_run trivial ?_
          intro a' w' hg hs hd
          have e49 : a'.eval (.tmp 49) = .pointer (some ⟨bb, o + k * 6, none⟩) := hd ⟨8, Ground.data⟩ (by simp) rfl
          have ec : ∀ v, a'.eval (.const v) = v := fun _ => rfl
          have ef : ∀ g, a'.eval (.func g) = .func (.func g) #[] #[] := fun _ => rfl
          clear hd hs
          refine wpv (v := .pointer (some ⟨bb, o + k * 6 + 5, none⟩)) ?_ ⟨_, rfl, Grow.rfl' _, rfl⟩
          (generalize a'.eval = ev at ec ef e49 ⊢; simp [execOp, go_sem, *])
        · refine stepOne_run trivial ?_
          intro a' w' hg hs hd
          have e50 : a'.eval (.tmp 50) = .pointer (some ⟨bb, o + k * 6 + 5, none⟩) := hd ⟨9, Ground.data⟩ (by simp) rfl
          have ec : ∀ v, a'.eval (.const v) = v := fun _ => rfl
          have ef : ∀ g, a'.eval (.func g) = .func (.func g) #[] #[] := fun _ => rfl
          obtain ⟨p0, p1, p2, p3, p4, p5⟩ := (HR1.out.later (Grow.trans' HG.out hg)).at k hkd; rw [← HY.out] at p0 p1 p2 p3 p4 p5
          clear hd hs
          refine wpv (v := .int .i64 y.n) ?_ ⟨_, rfl, Grow.rfl' _, rfl⟩
          (generalize a'.eval = ev at ec ef e50 ⊢; simp [execOp, go_sem, *])
      · intro a' w' hg hs hd
        have e41 : a'.eval (.tmp 41) = .pointer (some ⟨p, 0, none⟩) := hd 0 (by omega)
        have e46 : a'.eval (.tmp 46) = .agg #[.int .i64 (y.t).e, .int .i64 (y.t).d, .int .i64 (y.t).x, .int .i64 (y.t).y, .int .i64 (y.t).z] := hd 5 (by omega)
        have e51 : a'.eval (.tmp 51) = .int .i64 y.n := hd 10 (by omega)
        have ec : ∀ v, a'.eval (.const v) = v := fun _ => rfl
        have ef : ∀ g, a'.eval (.func g) = .func (.func g) #[] #[] := fun _ => rfl
        refine wpc ?_ ((HA.out p b w' (HR.out.later hg)).mono ?_)
        · (generalize a'.eval = ev at ec ef e41 e46 e51 ⊢; simp [execOp, go_sem, *])
        rintro e w4 ⟨t1, m1, c1, t2, m2, c2, rfl, hg3, hR3, -, -⟩
        refine ⟨_, rfl, ?_⟩
        have HG3 := hide (grow_step (Grow.trans' HG.out hg) hg3 hwb)
        have HR3 := hide hR3
        have HQ3 := hide ((HQ.out.later hg).far hg3 hpb' (Ne.symm hbb))
        clear hg3 hR3 e41 e46 e51 ec ef HG HR HQ hg
        rw [frame_eq hs [false, false, false, false, false, false, false, false, false, false, false, false, false, false, false, false, false, false, false, false, false, false, false, false, false, false, false, false, false, false, false, false, false, false, false, false, false, false, false, false, false, true, true, true, true, true, true, true, true, true, true, true, true, false, false, false, false, false, false, false, false, false, false, false, false, false, false, false, false, false, false, false, false, false, false, false, false, false, false, false, false, false, false, false, false, false, false, false, false, false, false, false, false, false, false, false, false, false, false, false, false, false, false, false, false, false, false, false, false, false, false, false, false, false, false, false, false, false, false, false, false, false, false, false, false, false, false, false, false, false, false, false, false, false, false, false, false, false, false, false] (by kernel_rfl)]; simp only [mergeL]; clear hs hd; generalize a'.tmps = TT at *; try go_frame
        go_wp2_with fail
        refine wp_region_end (fun i vF wF => match i with | 0 => vF = .pointer (some ⟨p', 0, none⟩) | 1 => vF = .slice (some ⟨bb, o, none⟩) n cap | 2 => vF = .int .i64 (k : Int) | 3 => vF = .pointer (some ⟨bb, o + k * 6, none⟩) | 4 => vF = .pointer (some ⟨bb, o + k * 6, none⟩) | 5 => vF = .agg #[.int .i64 (y.t).e, .int .i64 (y.t).d, .int .i64 (y.t).x, .int .i64 (y.t).y, .int .i64 (y.t).z] | 6 => vF = .slice (some ⟨bb, o, none⟩) n cap | 7 => vF = .int .i64 (k : Int) | 8 => vF = .pointer (some ⟨bb, o + k * 6, none⟩) | 9 => vF = .pointer (some ⟨bb, o + k * 6 + 5, none⟩) | 10 => vF = .int .i64 y.n | _ => True) 11 _ rfl rfl rfl (by kernel_rfl) (by kernel_rfl) ?_ ?_ ?_
        · intro k v w1 w2 hg h
          match k with
          | 0 => exact h
          | 1 => exact h
          | 2 => exact h
          | 3 => exact h
          | 4 => exact h
          | 5 => exact h
          | 6 => exact h
          | 7 => exact h
          | 8 => exact h
          | 9 => exact h
          | 10 => exact h
          | k + 11 => exact trivial
        · refine ⟨?_, ?_, ?_, ?_, ?_, ?_, ?_, ?_, ?_, ?_, ?_, trivial⟩
          · refine stepOne_run trivial ?_
            intro a' w' hg hs hd
            have e7 : a'.eval (.tmp 7) = .pointer (some ⟨p', 0, none⟩) := hs.rest 7 rfl
            have ec : ∀ v, a'.eval (.const v) = v := fun _ => rfl
            have ef : ∀ g, a'.eval (.func g) = .func (.func g) #[] #[] := fun _ => rfl
            clear hd hs
            refine wpv (v := .pointer (some ⟨p', 0, none⟩)) ?_ ⟨_, rfl, Grow.rfl' _, rfl⟩
            (generalize a'.eval = ev at ec ef e7 ⊢; simp [execOp, go_sem, *])
          · refine stepOne_run trivial ?_
            intro a' w' hg hs hd
            have e0 : a'.eval (.tmp 0) = .slice (some ⟨bb, o, none⟩) n cap := hs.rest 0 rfl
            have ec : ∀ v, a'.eval (.const v) = v := fun _ => rfl
            have ef : ∀ g, a'.eval (.func g) = .func (.func g) #[] #[] := fun _ => rfl
            clear hd hs
            refine wpv (v := .slice (some ⟨bb, o, none⟩) n cap) ?_ ⟨_, rfl, Grow.rfl' _, rfl⟩
            (generalize a'.eval = ev at ec ef e0 ⊢; simp [execOp, go_sem, *])
          · refine stepOne_run trivial ?_
            intro a' w' hg hs hd
            have e8 : a'.eval (.tmp 8) = .int .i64 (k : Int) := hs.rest 8 rfl
            have ec : ∀ v, a'.eval (.const v) = v := fun _ => rfl
            have ef : ∀ g, a'.eval (.func g) = .func (.func g) #[] #[] := fun _ => rfl
            clear hd hs
            refine wpv (v := .int .i64 (k : Int)) ?_ ⟨_, rfl, Grow.rfl' _, rfl⟩
            (generalize a'.eval = ev at ec ef e8 ⊢; simp [execOp, go_sem, *])
          · refine stepOne_run trivial ?_
            intro a' w' hg hs hd
            have e54 : a'.eval (.tmp 54) = .slice (some ⟨bb, o, none⟩) n cap := hd ⟨1, Ground.data⟩ (by simp) rfl
            have e55 : a'.eval (.tmp 55) = .int .i64 (k : Int) := hd ⟨2, Ground.data⟩ (by simp) rfl
            have ec : ∀ v, a'.eval (.const v) = v := fun _ => rfl
            have ef : ∀ g, a'.eval (.func g) = .func (.func g) #[] #[] := fun _ => rfl
            clear hd hs
            refine wpv (v := .pointer (some ⟨bb, o + k * 6, none⟩)) ?_ ⟨_, rfl, Grow.rfl' _, rfl⟩
            (generalize a'.eval = ev at ec ef e54 e55 ⊢; simp [execOp, go_sem, *])
          · refine stepOne_run trivial ?_
            intro a' w' hg hs hd
            have e56 : a'.eval (.tmp 56) = .pointer (some ⟨bb, o + k * 6, none⟩) := hd ⟨3, Ground.data⟩ (by simp) rfl
            have ec : ∀ v, a'.eval (.const v) = v := fun _ => rfl
            have ef : ∀ g, a'.eval (.func g) = .func (.func g) #[] #[] := fun _ => rfl
            clear hd hs
            refine wpv (v := .pointer (some ⟨bb, o + k * 6, none⟩)) ?_ ⟨_, rfl, Grow.rfl' _, rfl⟩
            (generalize a'.eval = ev at ec ef e56 ⊢; simp [execOp, go_sem, *])
          · refine stepOne_run trivial ?_
            intro a' w' hg hs hd
            have e57 : a'.eval (.tmp 57) = .pointer (some ⟨bb, o + k * 6, none⟩) := hd ⟨4, Ground.data⟩ (by simp) rfl
            have ec : ∀ v, a'.eval (.const v) = v := fun _ => rfl
            have ef : ∀ g, a'.eval (.func g) = .func (.func g) #[] #[] := fun _ => rfl
            obtain ⟨p0, p1, p2, p3, p4, p5⟩ := (HR1.out.later (Grow.trans' HG3.out hg)).at k hkd; rw [← HY.out] at p0 p1 p2 p3 p4 p5
            clear hd hs
            refine wpv (v := .agg #[.int .i64 (y.t).e, .int .i64 (y.t).d, .int .i64 (y.t).x, .int .i64 (y.t).y, .int .i64 (y.t).z]) ?_ ⟨_, rfl, Grow.rfl' _, rfl⟩
            (generalize a'.eval = ev at ec ef e57 ⊢; simp [execOp, go_sem, *])
          · refine stepOne_run trivial ?_
            intro a' w' hg hs hd
            have e0 : a'.eval (.tmp 0) = .slice (some ⟨bb, o, none⟩) n cap := hs.rest 0 rfl
            have ec : ∀ v, a'.eval (.const v) = v := fun _ => rfl
            have ef : ∀ g, a'.eval (.func g) = .func (.func g) #[] #[] := fun _ => rfl
            clear hd hs
            refine wpv (v := .slice (some ⟨bb, o, none⟩) n cap) ?_ ⟨_, rfl, Grow.rfl' _, rfl⟩
            (generalize a'.eval = ev at ec ef e0 ⊢; simp [execOp, go_sem, *])
          · refine stepOne_run trivial ?_
            intro a' w' hg hs hd
            have e8 : a'.eval (.tmp 8) = .int .i64 (k : Int) := hs.rest 8 rfl
            have ec : ∀ v, a'.eval (.const v) = v := fun _ => rfl
            have ef : ∀ g, a'.eval (.func g) = .func (.func g) #[] #[] := fun _ => rfl
            clear hd hs
            refine wpv (v := .int .i64 (k : Int)) ?_ ⟨_, rfl, Grow.rfl' _, rfl⟩
            (generalize a'.eval = ev at ec ef e8 ⊢; simp [execOp, go_sem, *])
          · refine stepOne_run trivial ?_
            intro a' w' hg hs hd
            have e59 : a'.eval (.tmp 59) = .slice (some ⟨bb, o, none⟩) n cap := hd ⟨6, Ground.data⟩ (by simp) rfl
            have e60 : a'.eval (.tmp 60) = .int .i64 (k : Int) := hd ⟨7, Ground.data⟩ (by simp) rfl
            have ec : ∀ v, a'.eval (.const v) = v := fun _ => rfl
            have ef : ∀ g, a'.eval (.func g) = .func (.func g) #[] #[] := fun _ => rfl
            clear hd hs
            refine wpv (v := .pointer (some ⟨bb, o + k * 6, none⟩)) ?_ ⟨_, rfl, Grow.rfl' _, rfl⟩
            (generalize a'.eval = ev at ec ef e59 e60 ⊢; simp [execOp, go_sem, *])
          · refine stepOne_run trivial ?_
            intro a' w' hg hs hd
            have e61 : a'.eval (.tmp 61) = .pointer (some ⟨bb, o + k * 6, none⟩) := hd ⟨8, Ground.data⟩ (by simp) rfl
            have ec : ∀ v, a'.eval (.const v) = v := fun _ => rfl
            have ef : ∀ g, a'.eval (.func g) = .func (.func g) #[] #[] := fun _ => rfl
            clear hd hs
            refine wpv (v := .pointer (some ⟨bb, o + k * 6 + 5, none⟩)) ?_ ⟨_, rfl, Grow.rfl' _, rfl⟩
            (generalize a'.eval = ev at ec ef e61 ⊢; simp [execOp, go_sem, *])
          · refine stepOne_run trivial ?_
            intro a' w' hg hs hd
            have e62 : a'.eval (.tmp 62) = .pointer (some ⟨bb, o + k * 6 + 5, none⟩) := hd ⟨9, Ground.data⟩ (by simp) rfl
            have ec : ∀ v, a'.eval (.const v) = v := fun _ => rfl
            have ef : ∀ g, a'.eval (.func g) = .func (.func g) #[] #[] := fun _ => rfl
            obtain ⟨p0, p1, p2, p3, p4, p5⟩ := (HR1.out.later (Grow.trans' HG3.out hg)).at k hkd; rw [← HY.out] at p0 p1 p2 p3 p4 p5
            clear hd hs
            refine wpv (v := .int .i64 y.n) ?_ ⟨_, rfl, Grow.rfl' _, rfl⟩
            (generalize a'.eval = ev at ec ef e62 ⊢; simp [execOp, go_sem, *])
        · intro a' w' hg hs hd
          have e53 : a'.eval (.tmp 53) = .pointer (some ⟨p', 0, none⟩) := hd 0 (by omega)
          have e58 : a'.eval (.tmp 58) = .agg #[.int .i64 (y.t).e, .int .i64 (y.t).d, .int .i64 (y.t).x, .int .i64 (y.t).y, .int .i64 (y.t).z] := hd 5 (by omega)
          have e63 : a'.eval (.tmp 63) = .int .i64 y.n := hd 10 (by omega)
          have ec : ∀ v, a'.eval (.const v) = v := fun _ => rfl
          have ef : ∀ g, a'.eval (.func g) = .func (.func g) #[] #[] := fun _ => rfl
          refine wpc ?_ ((HA.out p' b' w' (HQ3.out.later hg)).mono ?_)
          · (generalize a'.eval = ev at ec ef e53 e58 e63 ⊢; simp [execOp, go_sem, *])
          rintro e w5 ⟨t3, m3, c3, t4, m4, c4, rfl, hg5, hR5, -, -⟩
          refine ⟨_, rfl, ?_⟩
          have HG5 := hide (grow_step (Grow.trans' HG3.out hg) hg5 hwb')
          have HQ5 := hide hR5
          have HR5 := hide ((HR3.out.later hg).far hg5 hpb hbb)
          clear hg5 hR5 e53 e58 e63 ec ef HG3 HR3 HQ3 hg
          rw [frame_eq hs [false, false, false, false, false, false, false, false, false, false, false, false, false, false, false, false, false, false, false, false, false, false, false, false, false, false, false, false, false, false, false, false, false, false, false, false, false, false, false, false, false, false, false, false, false, false, false, false, false, false, false, false, false, true, true, true, true, true, true, true, true, true, true, true, true, false, false, false, false, false, false, false, false, false, false, false, false, false, false, false, false, false, false, false, false, false, false, false, false, false, false, false, false, false, false, false, false, false, false, false, false, false, false, false, false, false, false, false, false, false, false, false, false, false, false, false, false, false, false, false, false, false, false, false, false, false, false, false, false, false, false, false, false, false, false, false, false, false, false, false] (by kernel_rfl)]; simp only [mergeL]; clear hs hd; generalize a'.tmps = TT at *; try go_frame
          go_wp2_with fail
          go_roundw
          case rel => exact ⟨k + 1, by omega, by omega, by go_num, HG5.out, by rw [HS.out]; exact HR5.out, by rw [HS.out]; exact HQ5.out⟩
          case measure => simp [intOf]; omega
    · have hx1 : ¬ (k : Int) < (n : Int) := (by omega)
      obtain ⟨S, hS⟩ : ∃ S, S = Cs.none.adds (d.take k) := ⟨_, rfl⟩
      have hSO : S.ok := by rw [hS]; exact Cs.adds_ok Cs.none_ok _
      rw [← hS] at HR HQ
      have HSO := hide hSO
      clear hS hSO hlt
      go_wp2_with fail
      refine (clone_any p b S wr HR.out).mono ?_
      rintro e w4 ⟨q, c, rfl, hb, hR, hp1, hb1⟩
      have G4 := hide (Grow.trans' HG.out hb)
      have R4 := hide (HR.out.later hb)
      have Q4 := hide (HQ.out.later hb)
      have B4 := hide hR
      have hpl : p < wr.heap.size := HR.out.lt
      have hbl : b < wr.heap.size := HR.out.map.lt
      have hpl' : p' < wr.heap.size := HQ.out.lt
      have hbl' : b' < wr.heap.size := HQ.out.map.lt
      have hwc : w.heap.size ≤ c := by have := HG.out.size; omega
      have hpc : p ≠ c := by omega
      have hbc : b ≠ c := by omega
      have hpc' : p' ≠ c := by omega
      have hbc' : b' ≠ c := by omega
      have hqb : q ≠ b := by omega
      clear hb hR HG HR HQ hp1 hb1 hpl hbl hpl' hbl'
      clear hk hk30 hx1
      go_wp2_with fail
      go_loopw [10] (fun i wr => ∃ k : Nat, k ≤ n1 ∧ k ≤ 30 ∧ i = .int .i64 k ∧ Grow w wr ∧ RepC wr p b S ∧ RepC wr p' b' S ∧ RepC wr q c (S.adds (d1.take k))) (fun i _ => 30 - (intOf i).toNat)
      case atStart => exact ⟨0, Nat.zero_le _, Nat.zero_le _, rfl, G4.out, R4.out, Q4.out, B4.out⟩
      case round =>
        obtain ⟨k, hk, hk30, rfl, hg, hR, hQ, hB⟩ := hrel
        have HG := hide hg
        have HR := hide hR
        have HQ := hide hQ
        have HB := hide hB
        clear hg hR hQ hB G4 R4 Q4 B4
        by_cases hlt : k < n1 ∧ k < 30
        · obtain ⟨hlt, hlt30⟩ := hlt
          obtain ⟨bb, o, rfl, hr1, hkd⟩ := HD1.out.see k (by omega)
          have HR1 := hide hr1
          obtain ⟨y, hy⟩ : ∃ y, y = d1[k] := ⟨_, rfl⟩
          have HY := hide hy
          have HS := hide (Cs.adds_take S d1 k hkd)
          rw [← hy] at HS
          have hi1 : (0 : Int) ≤ (k : Int) := by omega
          have hi2 : (k : Int) < (n1 : Int) := by omega
          have hi3 : (k : Int) < 30 := by omega
          have HA := hide (fun w' (h : RepC w' q c (S.adds (d1.take k))) => add_any q c (S.adds (d1.take k)) y.t y.n w' (Cs.adds_ok HSO.out _) h)
          clear hr1 hy
          go_wp2_with fail
          refine wp_region_end (fun i vF wF => match i with | 0 => vF = .pointer (some ⟨q, 0, none⟩) | 1 => vF = .slice (some ⟨bb, o, none⟩) n1 cap1 | 2 => vF = .int .i64 (k : Int) | 3 => vF = .pointer (some ⟨bb, o + k * 6, none⟩) | 4 => vF = .pointer (some ⟨bb, o + k * 6, none⟩) | 5 => vF = .agg #[.int .i64 (y.t).e, .int .i64 (y.t).d, .int .i64 (y.t).x, .int .i64 (y.t).y, .int .i64 (y.t).z] | 6 => vF = .slice (some ⟨bb, o, none⟩) n1 cap1 | 7 => vF = .int .i64 (k : Int) | 8 => vF = .pointer (some ⟨bb, o + k * 6, none⟩) | 9 => vF = .pointer (some ⟨bb, o + k * 6 + 5, none⟩) | 10 => vF = .int .i64 y.n | _ => True) 11 _ rfl rfl rfl (by kernel_rfl) (by kernel_rfl) ?_ ?_ ?_
          · intro k v w1 w2 hg h
            match k with
            | 0 => exact h
            | 1 => exact h
            | 2 => exact h
            | 3 => exact h
            | 4 => exact h
            | 5 => exact h
            | 6 => exact h
            | 7 => exact h
            | 8 => exact h
            | 9 => exact h
            | 10 => exact h
            | k + 11 => exact trivial
          · refine ⟨?_, ?_, ?_, ?_, ?_, ?_, ?_, ?_, ?_, ?_, ?_, trivial⟩
            · refine stepOne_run trivial ?_
              intro a' w' hg hs hd
              have e9 : a'.eval (.tmp 9) = .pointer (some ⟨q, 0, none⟩) := hs.rest 9 rfl
              have ec : ∀ v, a'.eval (.const v) = v := fun _ => rfl
              have ef : ∀ g, a'.eval (.func g) = .func (.func g) #[] #[] := fun _ => rfl
              clear hd hs
              refine wpv (v := .pointer (some ⟨q, 0, none⟩)) ?_ ⟨_, rfl, Grow.rfl' _, rfl⟩
              (generalize a'.eval = ev at ec ef e9 ⊢; simp [execOp, go_sem, *])
            · refine stepOne_run trivial ?_
              intro a' w' hg hs hd
              have e1 : a'.eval (.tmp 1) = .slice (some ⟨bb, o, none⟩) n1 cap1 := hs.rest 1 rfl
              have ec : ∀ v, a'.eval (.const v) = v := fun _ => rfl
              have ef : ∀ g, a'.eval (.func g) = .func (.func g) #[] #[] := fun _ => rfl
              clear hd hs
              refine wpv (v := .slice (some ⟨bb, o, none⟩) n1 cap1) ?_ ⟨_, rfl, Grow.rfl' _, rfl⟩
              (generalize a'.eval = ev at ec ef e1 ⊢; simp [execOp, go_sem, *])
            · refine stepOne_run trivial ?_
              intro a' w' hg hs hd
              have e10 : a'.eval (.tmp 10) = .int .i64 (k : Int) := hs.rest 10 rfl
              have ec : ∀ v, a'.eval (.const v) = v := fun _ => rfl
              have ef : ∀ g, a'.eval (.func g) = .func (.func g) #[] #[] := fun _ => rfl
              clear hd hs
              refine wpv (v := .int .i64 (k : Int)) ?_ ⟨_, rfl, Grow.rfl' _, rfl⟩
              (generalize a'.eval = ev at ec ef e10 ⊢; simp [execOp, go_sem, *])
            · refine stepOne_run trivial ?_
              intro a' w' hg hs hd
              have e80 : a'.eval (.tmp 80) = .slice (some ⟨bb, o, none⟩) n1 cap1 := hd ⟨1, Ground.data⟩ (by simp) rfl
              have e81 : a'.eval (.tmp 81) = .int .i64 (k : Int) := hd ⟨2, Ground.data⟩ (by simp) rfl
              have ec : ∀ v, a'.eval (.const v) = v := fun _ => rfl
              have ef : ∀ g, a'.eval (.func g) = .func (.func g) #[] #[] := fun _ => rfl
              clear hd hs
              refine wpv (v := .pointer (some ⟨bb, o + k * 6, none⟩)) ?_ ⟨_, rfl, Grow.rfl' _, rfl⟩
              (generalize a'.eval = ev at ec ef e80 e81 ⊢; simp [execOp, go_sem, *])
            · refine stepOne_run trivial ?_
              intro a' w' hg hs hd
              have e82 : a'.eval (.tmp 82) = .pointer (some ⟨bb, o + k * 6, none⟩) := hd ⟨3, Ground.data⟩ (by simp) rfl
              have ec : ∀ v, a'.eval (.const v) = v := fun _ => rfl
              have ef : ∀ g, a'.eval (.func g) = .func (.func g) #[] #[] := fun _ => rfl
              clear hd hs
              refine wpv (v := .pointer (some ⟨bb, o + k * 6, none⟩)) ?_ ⟨_, rfl, Grow.rfl' _, rfl⟩
              (generalize a'.eval = ev at ec ef e82 ⊢; simp [execOp, go_sem, *])
            · refine stepOne_run trivial ?_
              intro a' w' hg hs hd
              have e83 : a'.eval (.tmp 83) = .pointer (some ⟨bb, o + k * 6, none⟩) := hd ⟨4, Ground.data⟩ (by simp) rfl
              have ec : ∀ v, a'.eval (.const v) = v := fun _ => rfl
              have ef : ∀ g, a'.eval (.func g) = .func (.func g) #[] #[] := fun _ => rfl
              obtain ⟨p0, p1, p2, p3, p4, p5⟩ := (HR1.out.later (Grow.trans' HG.out hg)).at k hkd; rw [← HY.out] at p0 p1 p2 p3 p4 p5
              clear hd hs
              refine wpv (v := .agg #[.int .i64 (y.t).e, .int .i64 (y.t).d, .int .i64 (y.t).x, .int .i64 (y.t).y, .int .i64 (y.t).z]) ?_ ⟨_, rfl, Grow.rfl' _, rfl⟩
              (generalize a'.eval = ev at ec ef e83 ⊢; simp [execOp, go_sem, *])
            · refine stepOne_run trivial ?_
              intro a' w' hg hs hd
              have e1 : a'.eval (.tmp 1) = .slice (some ⟨bb, o, none⟩) n1 cap1 := hs.rest 1 rfl
              have ec : ∀ v, a'.eval (.const v) = v := fun _ => rfl
              have ef : ∀ g, a'.eval (.func g) = .func (.func g) #[] #[] := fun _ => rfl
              clear hd hs
              refine wpv (v := .slice (some ⟨bb, o, none⟩) n1 cap1) ?_ ⟨_, rfl, Grow.rfl' _, rfl⟩
              (generalize a'.eval = ev at ec ef e1 ⊢; simp [execOp, go_sem, *])
            · refine stepOne_run trivial ?_
              intro a' w' hg hs hd
              have e10 : a'.eval (.tmp 10) = .int .i64 (k : Int) := hs.rest 10 rfl
              have ec : ∀ v, a'.eval (.const v) = v := fun _ => rfl
              have ef : ∀ g, a'.eval (.func g) = .func (.func g) #[] #[] := fun _ => rfl
              clear hd hs
              refine wpv (v := .int .i64 (k : Int)) ?_ ⟨_, rfl, Grow.rfl' _, rfl⟩
              (generalize a'.eval = ev at ec ef e10 ⊢; simp [execOp, go_sem, *])
            · refine stepOne_run trivial ?_
              intro a' w' hg hs hd
              have e85 : a'.eval (.tmp 85) = .slice (some ⟨bb, o, none⟩) n1 cap1 := hd ⟨6, Ground.data⟩ (by simp) rfl
              have e86 : a'.eval (.tmp 86) = .int .i64 (k : Int) := hd ⟨7, Ground.data⟩ (by simp) rfl
              have ec : ∀ v, a'.eval (.const v) = v := fun _ => rfl
              have ef : ∀ g, a'.eval (.func g) = .func (.func g) #[] #[] := fun _ => rfl
              clear hd hs
              refine wpv (v := .pointer (some ⟨bb, o + k * 6, none⟩)) ?_ ⟨_, rfl, Grow.rfl' _, rfl⟩
              (generalize a'.eval = ev at ec ef e85 e86 ⊢; simp [execOp, go_sem, *])
            · refine stepOne_run trivial ?_
              intro a' w' hg hs hd
              have e87 : a'.eval (.tmp 87) = .pointer (some ⟨bb, o + k * 6, none⟩) := hd ⟨8, Ground.data⟩ (by simp) rfl
              have ec : ∀ v, a'.eval (.const v) = v := fun _ => rfl
              have ef : ∀ g, a'.eval (.func g) = .func (.func g) #[] #[] := fun _ => rfl
              clear hd hs
              refine wpv (v := .pointer (some ⟨bb, o + k * 6 + 5, none⟩)) ?_ ⟨_, rfl, Grow.rfl' _, rfl⟩
              (generalize a'.eval = ev at ec ef e87 ⊢; simp [execOp, go_sem, *])
            · refine stepOne_run trivial ?_
              intro a' w' hg hs hd
              have e88 : a'.eval (.tmp 88) = .pointer (some ⟨bb, o + k * 6 + 5, none⟩) := hd ⟨9, Ground.data⟩ (by simp) rfl
              have ec : ∀ v, a'.eval (.const v) = v := fun _ => rfl
              have ef : ∀ g, a'.eval (.func g) = .func (.func g) #[] #[] := fun _ => rfl
              obtain ⟨p0, p1, p2, p3, p4, p5⟩ := (HR1.out.later (Grow.trans' HG.out hg)).at k hkd; rw [← HY.out] at p0 p1 p2 p3 p4 p5
              clear hd hs
              refine wpv (v := .int .i64 y.n) ?_ ⟨_, rfl, Grow.rfl' _, rfl⟩
              (generalize a'.eval = ev at ec ef e88 ⊢; simp [execOp, go_sem, *])
          · intro a' w' hg hs hd
            have e79 : a'.eval (.tmp 79) = .pointer (some ⟨q, 0, none⟩) := hd 0 (by omega)
            have e84 : a'.eval (.tmp 84) = .agg #[.int .i64 (y.t).e, .int .i64 (y.t).d, .int .i64 (y.t).x, .int .i64 (y.t).y, .int .i64 (y.t).z] := hd 5 (by omega)
            have e89 : a'.eval (.tmp 89) = .int .i64 y.n := hd 10 (by omega)
            have ec : ∀ v, a'.eval (.const v) = v := fun _ => rfl
            have ef : ∀ g, a'.eval (.func g) = .func (.func g) #[] #[] := fun _ => rfl
            refine wpc ?_ ((HA.out w' (HB.out.later hg)).mono ?_)
            · (generalize a'.eval = ev at ec ef e79 e84 e89 ⊢; simp [execOp, go_sem, *])
            rintro e w5 ⟨t1, m1, c1, t2, m2, c2, rfl, hg3, hR3, -, -⟩
            refine ⟨_, rfl, ?_⟩
            have HG3 := hide (grow_step (Grow.trans' HG.out hg) hg3 hwc)
            have HB3 := hide hR3
            have HR3 := hide ((HR.out.later hg).far hg3 hpc hbc)
            have HQ3 := hide ((HQ.out.later hg).far hg3 hpc' hbc')
            clear hg3 hR3 e79 e84 e89 ec ef HG HR HQ HB hg
            rw [frame_eq hs [false, false, false, false, false, false, false, false, false, false, false, false, false, false, false, false, false, false, false, false, false, false, false, false, false, false, false, false, false, false, false, false, false, false, false, false, false, false, false, false, false, false, false, false, false, false, false, false, false, false, false, false, false, false, false, false, false, false, false, false, false, false, false, false, false, false, false, false, false, false, false, false, false, false, false, false, false, false, false, true, true, true, true, true, true, true, true, true, true, true, true, false, false, false, false, false, false, false, false, false, false, false, false, false, false, false, false, false, false, false, false, false, false, false, false, false, false, false, false, false, false, false, false, false, false, false, false, false, false, false, false, false, false, false, false, false, false, false, false, false] (by kernel_rfl)]; simp only [mergeL]; clear hs hd; generalize a'.tmps = TT at *; try go_frame
            go_wp2_with fail
            go_roundw
            case rel => exact ⟨k + 1, by omega, by omega, by go_num, HG3.out, HR3.out, HQ3.out, by rw [HS.out]; exact HB3.out⟩
            case measure => simp [intOf]; omega
        · have hy1 : ¬ (k : Int) < (n1 : Int) := (by omega)
          obtain ⟨B, hB⟩ : ∃ B, B = S.adds (d1.take k) := ⟨_, rfl⟩
          have hBO : B.ok := by rw [hB]; exact Cs.adds_ok HSO.out _
          rw [← hB] at HB
          have HBO := hide hBO
          clear hB hBO hlt hk hk30
          go_wp2_with fail
          refine (all_any p b S wr HSO.out HR.out).mono ?_
          rintro e w5 ⟨v, rfl, hb, sA, nA, cA, rfl, hI⟩
          have G5 := hide (Grow.trans' HG.out hb)
          have R5 := hide (HR.out.later hb)
          have Q5 := hide (HQ.out.later hb)
          have B5 := hide (HB.out.later hb)
          have I5 := hide hI
          have hnA : nA ≤ 400 := by have h1 := hI.1; have h2 := HSO.out.few; omega
          clear hb hI HG HR HQ HB hy1
          go_wp2_with fail
          refine (all_any p' b' S w5 HSO.out Q5.out).mono ?_
          rintro e w6 ⟨v, rfl, hb, sB, nB, cB, rfl, hI⟩
          have G6 := hide (Grow.trans' G5.out hb)
          have R6 := hide (R5.out.later hb)
          have Q6 := hide (Q5.out.later hb)
          have B6 := hide (B5.out.later hb)
          have C6 := hide (sameT_any sA sB cA cB nA nB S.T S.T true (by simp) w6 (by omega) (I5.out.later hb) hI)
          clear hb hI G5 R5 Q5 B5 I5
          go_wp2_with fail
          refine (C6.out).mono ?_
          rintro e w7 ⟨rfl, hb⟩
          have G7 := hide (Grow.trans' G6.out hb)
          have R7 := hide (R6.out.later hb)
          have Q7 := hide (Q6.out.later hb)
          have B7 := hide (B6.out.later hb)
          clear hb G6 R6 Q6 B6 C6
          go_wp2_with fail
          refine (front_any p b S w7 HSO.out R7.out).mono ?_
          rintro e w8 ⟨v, rfl, hb, sC, nC, cC, rfl, hI⟩
          have G8 := hide (Grow.trans' G7.out hb)
          have R8 := hide (R7.out.later hb)
          have Q8 := hide (Q7.out.later hb)
          have B8 := hide (B7.out.later hb)
          have I8 := hide hI
          have hnC : nC ≤ 400 := by have h1 := hI.1; have h2 := Cs.front_len HSO.out; omega
          clear hb hI G7 R7 Q7 B7
          go_wp2_with fail
          refine (front_any p' b' S w8 HSO.out Q8.out).mono ?_
          rintro e w9 ⟨v, rfl, hb, sE, nE, cE, rfl, hI⟩
          have G9 := hide (Grow.trans' G8.out hb)
          have R9 := hide (R8.out.later hb)
          have B9 := hide (B8.out.later hb)
          have C9 := hide (sameT_any sC sE cC cE nC nE S.front S.front true (by simp) w9 (by omega) (I8.out.later hb) hI)
          clear hb hI G8 R8 Q8 B8 I8
          go_wp2_with fail
          refine (C9.out).mono ?_
          rintro e w10 ⟨rfl, hb⟩
          have G10 := hide (Grow.trans' G9.out hb)
          have R10 := hide (R9.out.later hb)
          have B10 := hide (B9.out.later hb)
          clear hb G9 R9 B9 C9
          go_wp2_with fail
          refine (all_any q c B w10 HBO.out B10.out).mono ?_
          rintro e w11 ⟨v, rfl, hb, sG, nG, cG, rfl, hI⟩
          have G11 := hide (Grow.trans' G10.out hb)
          have R11 := hide (R10.out.later hb)
          have B11 := hide (B10.out.later hb)
          have I11 := hide hI
          have hnG : nG ≤ 400 := by have h1 := hI.1; have h2 := HBO.out.few; omega
          clear hb hI G10 R10 B10
          go_wp2_with fail
          refine (front_any q c B w11 HBO.out B11.out).mono ?_
          rintro e w12 ⟨v, rfl, hb, sH, nH, cH, rfl, hI⟩
          have G12 := hide (Grow.trans' G11.out hb)
          have R12 := hide (R11.out.later hb)
          have B12 := hide (B11.out.later hb)
          have I12 := hide (I11.out.later hb)
          have F12 := hide hI
          have hnH : nH ≤ 400 := by have h1 := hI.1; have h2 := Cs.front_len HBO.out; omega
          clear hb hI G11 R11 B11 I11
          go_wp2_with fail
          go_loopw [15] (fun i wr => ∃ (k : Nat) (S1 : Cs), k ≤ n ∧ k ≤ 30 ∧ i = .int .i64 k ∧ Grow w wr ∧ S1.ok ∧ RepC wr p b S1 ∧ RepC wr q c B ∧ IsTms wr sG nG cG B.T ∧ IsTms wr sH nH cH B.front) (fun i _ => 30 - (intOf i).toNat)
          case atStart => exact ⟨0, S, Nat.zero_le _, Nat.zero_le _, rfl, G12.out, HSO.out, R12.out, B12.out, I12.out, F12.out⟩
          case round =>
            obtain ⟨k, S1, hk, hk30, rfl, hg, hS1, hR, hB, hI, hF⟩ := hrel
            have HG := hide hg
            have HS1 := hide hS1
            have HR := hide hR
            have HB := hide hB
            have HI := hide hI
            have HF := hide hF
            clear hg hS1 hR hB hI hF G12 R12 B12 I12 F12
            by_cases hlt : k < n ∧ k < 30
            · obtain ⟨hlt, hlt30⟩ := hlt
              obtain ⟨bb, o, rfl, hr1, hkd⟩ := HD.out.see k (by omega)
              obtain ⟨y, hy⟩ : ∃ y, y = d[k] := ⟨_, rfl⟩
              obtain ⟨p0, p1, p2, p3, p4, p5⟩ := (hr1.later HG.out).at k hkd
              rw [← hy] at p0 p1 p2 p3 p4 p5
              have hi1 : (0 : Int) ≤ (k : Int) := by omega
              have hi2 : (k : Int) < (n : Int) := by omega
              have hi3 : (k : Int) < 30 := by omega
              clear hr1 hy
              go_wp2_with fail
              refine (add_any p b S1 y.t 7 wr HS1.out HR.out).mono ?_
              rintro e w13 ⟨t1, m1, c1, t2, m2, c2, rfl, hg3, hR3, -, -⟩
              have HG3 := hide (grow_step HG.out hg3 hwb)
              have HR3 := hide hR3
              have HB3 := hide (HB.out.far hg3 hqb (Ne.symm hbc))
              have HI3 := hide (HI.out.turn HR.out.map.block hg3)
              have HF3 := hide (HF.out.turn HR.out.map.block hg3)
              have HSA := hide (Cs.add_ok (t := y.t) (n := 7) HS1.out)
              clear hg3 hR3 p0 p1 p2 p3 p4 p5 HG HR HB HI HF
              go_wp2_with fail
              go_roundw
              case rel => exact ⟨k + 1, S1.add y.t 7, by omega, by omega, by go_num, HG3.out, HSA.out, HR3.out, HB3.out, HI3.out, HF3.out⟩
              case measure => simp [intOf]; omega
            · have hx1 : ¬ (k : Int) < (n : Int) := (by omega)
              clear hlt
              go_wp2_with fail
              refine (all_any q c B wr HBO.out HB.out).mono ?_
              rintro e w13 ⟨v, rfl, hb, sJ, nJ, cJ, rfl, hJ⟩
              have G13 := hide (Grow.trans' HG.out hb)
              have B13 := hide (HB.out.later hb)
              have F13 := hide (HF.out.later hb)
              have hnJ : nJ ≤ 400 := by have h1 := hJ.1; have h2 := HBO.out.few; omega
              have C13 := hide (sameT_any sJ sG cJ cG nJ nG B.T B.T true (by simp) w13 (by omega) hJ (HI.out.later hb))
              clear hb hJ HG HB HI HF HR
              go_wp2_with fail
              refine (C13.out).mono ?_
              rintro e w14 ⟨rfl, hb⟩
              have G14 := hide (Grow.trans' G13.out hb)
              have B14 := hide (B13.out.later hb)
              have F14 := hide (F13.out.later hb)
              clear hb G13 B13 F13 C13
              go_wp2_with fail
              refine (front_any q c B w14 HBO.out B14.out).mono ?_
              rintro e w15 ⟨v, rfl, hb, sK, nK, cK, rfl, hK⟩
              have G15 := hide (Grow.trans' G14.out hb)
              have hnK : nK ≤ 400 := by have h1 := hK.1; have h2 := Cs.front_len HBO.out; omega
              have C15 := hide (sameT_any sK sH cK cH nK nH B.front B.front true (by simp) w15 (by omega) hK (F14.out.later hb))
              clear hb hK G14 B14 F14
              go_wp2_with fail
              refine (C15.out).mono ?_
              rintro e w16 ⟨rfl, hb⟩
              have G16 := hide (Grow.trans' G15.out hb)
              clear hb G15 C15
              go_wp2_with fail
              go_ret
              exact ⟨rfl, G16.out⟩
set_option maxHeartbeats 4000000 in
theorem Apart_ab (s : Option Addr) (n cap : Nat) (d : List Opn) (s1 : Option Addr) (n1 cap1 : Nat) (d1 : List Opn) (w : World) (hn : n ≤ 30) (hm : 30 < n1) (hd : IsOps w s n cap d) (hd1 : IsOps w s1 n1 cap1 d1) :
    Calls Try.prog 8 #[.slice s n cap, .slice s1 n1 cap1] w fun e w' => e = .returned (.bool true) ∧ Grow w w' := by
  have HD := hide hd
  have HD1 := hide hd1
  clear hd hd1
  go_enter Try.func8, Try.ntmps8
  go_wp2_with fail
  refine (shown4_any w).mono ?_
  rintro e w1 ⟨rfl, hb⟩
  have G1 := hide hb
  clear hb
  go_wp2_with fail
  refine (new_any w1).mono ?_
  rintro e w2 ⟨p, b, rfl, hb, hR, hp1, hb1⟩
  have G2 := hide (Grow.trans' G1.out hb)
  have R2 := hide hR
  have hwb : w.heap.size ≤ b := by have := G1.out.size; omega
  have hpl : p < w2.heap.size := hR.lt
  have hbl : b < w2.heap.size := hR.map.lt
  clear hb hR G1 hp1 hb1
  go_wp2_with fail
  refine (new_any w2).mono ?_
  rintro e w3 ⟨p', b', rfl, hb, hR, hp1, hb1⟩
  have G3 := hide (Grow.trans' G2.out hb)
  have R3 := hide (R2.out.later hb)
  have Q3 := hide hR
  have hwb' : w.heap.size ≤ b' := by have := G2.out.size; omega
  have hpb : p ≠ b' := by omega
  have hbb : b ≠ b' := by omega
  have hpb' : p' ≠ b := by omega
  clear hb hR G2 R2 hp1 hb1 hpl hbl
  go_wp2_with fail
  go_loopw [8] (fun i wr => ∃ k : Nat, k ≤ n ∧ k ≤ 30 ∧ i = .int .i64 k ∧ Grow w wr ∧ RepC wr p b (Cs.none.adds (d.take k)) ∧ RepC wr p' b' (Cs.none.adds (d.take k))) (fun i _ => 30 - (intOf i).toNat)
  case atStart => exact ⟨0, Nat.zero_le _, Nat.zero_le _, rfl, G3.out, R3.out, Q3.out⟩
  case round =>
    obtain ⟨k, hk, hk30, rfl, hg, hR, hQ⟩ := hrel
    have HG := hide hg
    have HR := hide hR
    have HQ := hide hQ
    clear hg hR hQ G3 R3 Q3
    by_cases hlt : k < n ∧ k < 30
    · obtain ⟨hlt, hlt30⟩ := hlt
      obtain ⟨bb, o, rfl, hr1, hkd⟩ := HD.out.see k (by omega)
      have HR1 := hide hr1
      obtain ⟨y, hy⟩ : ∃ y, y = d[k] := ⟨_, rfl⟩
      have HY := hide hy
      have HS := hide (Cs.adds_take Cs.none d k hkd)
      rw [← hy] at HS
      have hi1 : (0 : Int) ≤ (k : Int) := by omega
      have hi2 : (k : Int) < (n : Int) := by omega
      have hi3 : (k : Int) < 30 := by omega
      have HA := hide (fun p b w' (h : RepC w' p b (Cs.none.adds (d.take k))) => add_any p b (Cs.none.adds (d.take k)) y.t y.n w' (Cs.adds_ok Cs.none_ok _) h)
      clear hr1 hy
      go_wp2_with fail
      refine wp_region_end (fun i vF wF => match i with | 0 => vF = .pointer (some ⟨p, 0, none⟩) | 1 => vF = .slice (some ⟨bb, o, none⟩) n cap | 2 => vF = .int .i64 (k : Int) | 3 => vF = .pointer (some ⟨bb, o + k * 6, none⟩) | 4 => vF = .pointer (some ⟨bb, o + k * 6, none⟩) | 5 => vF = .agg #[.int .i64 (y.t).e, .int .i64 (y.t).d, .int .i64 (y.t).x, .int .i64 (y.t).y, .int .i64 (y.t).z] | 6 => vF = .slice (some ⟨bb, o, none⟩) n cap | 7 => vF = .int .i64 (k : Int) | 8 => vF = .pointer (some ⟨bb, o + k * 6, none⟩) | 9 => vF = .pointer (some ⟨bb, o + k * 6 + 5, none⟩) | 10 => vF = .int .i64 y.n | _ => True) 11 _ rfl rfl rfl (by kernel_rfl) (by kernel_rfl) ?_ ?_ ?_
      · intro k v w1 w2 hg h
        match k with
        | 0 => exact h
        | 1 => exact h
        | 2 => exact h
        | 3 => exact h
        | 4 => exact h
        | 5 => exact h
        | 6 => exact h
        | 7 => exact h
        | 8 => exact h
        | 9 => exact h
        | 10 => exact h
        | k + 11 => exact trivial
      · refine ⟨?_, ?_, ?_, ?_, ?_, ?_, ?_, ?_, ?_, ?_, ?_, trivial⟩
        · refine stepOne_run trivial ?_
          intro a' w' hg hs hd
          have e6 : a'.eval (.tmp 6) = .pointer (some ⟨p, 0, none⟩) := hs.rest 6 rfl
          have ec : ∀ v, a'.eval (.const v) = v := fun _ => rfl
          have ef : ∀ g, a'.eval (.func g) = .func (.func g) #[] #[] := fun _ => rfl
          clear hd hs
          refine wpv (v := .pointer (some ⟨p, 0, none⟩)) ?_ ⟨_, rfl, Grow.rfl' _, rfl⟩
          (generalize a'.eval = ev at ec ef e6 ⊢; simp [execOp, go_sem, *])
        · refine stepOne_run trivial ?_
          intro a' w' hg hs hd
          have e0 : a'.eval (.tmp 0) = .slice (some ⟨bb, o, none⟩) n cap := hs.rest 0 rfl
          have ec : ∀ v, a'.eval (.const v) = v := fun _ => rfl
          have ef : ∀ g, a'.eval (.func g) = .func (.func g) #[] #[] := fun _ => rfl
          clear hd hs
          refine wpv (v := .slice (some ⟨bb, o, none⟩) n cap) ?_ ⟨_, rfl, Grow.rfl' _, rfl⟩
          (generalize a'.eval = ev at ec ef e0 ⊢; simp [execOp, go_sem, *])
        · refine stepOne_run trivial ?_
          intro a' w' hg hs hd
          have e8 : a'.eval (.tmp 8) = .int .i64 (k : Int) := hs.rest 8 rfl
          have ec : ∀ v, a'.eval (.const v) = v := fun _ => rfl
          have ef : ∀ g, a'.eval (.func g) = .func (.func g) #[] #[] := fun _ => rfl
          clear hd hs
          refine wpv (v := .int .i64 (k : Int)) ?_ ⟨_, rfl, Grow.rfl' _, rfl⟩
          (generalize a'.eval = ev at ec ef e8 ⊢; simp [execOp, go_sem, *])
        · refine stepOne_run trivial ?_
          intro a' w' hg hs hd
          have e42 : a'.eval (.tmp 42) = .slice (some ⟨bb, o, none⟩) n cap := hd ⟨1, Ground.data⟩ (by simp) rfl
          have e43 : a'.eval (.tmp 43) = .int .i64 (k : Int) := hd ⟨2, Ground.data⟩ (by simp) rfl
          have ec : ∀ v, a'.eval (.const v) = v := fun _ => rfl
          have ef : ∀ g, a'.eval (.func g) = .func (.func g) #[] #[] := fun _ => rfl
          clear hd hs
          refine wpv (v := .pointer (some ⟨bb, o + k * 6, none⟩)) ?_ ⟨_, rfl, Grow.rfl' _, rfl⟩
          (generalize a'.eval = ev at ec ef e42 e43 ⊢; simp [execOp, go_sem, *])
        · refine stepOne_run trivial ?_
          intro a' w' hg hs hd
          have e44 : a'.eval (.tmp 44) = .pointer (some ⟨bb, o + k * 6, none⟩) := hd ⟨3, Ground.data⟩ (by simp) rfl
          have ec : ∀ v, a'.eval (.const v) = v := fun _ => rfl
          have ef : ∀ g, a'.eval (.func g) = .func (.func g) #[] #[] := fun _ => rfl
          clear hd hs
          refine wpv (v := .pointer (some ⟨bb, o + k * 6, none⟩)) ?_ ⟨_, rfl, Grow.rfl' _, rfl⟩
          (generalize a'.eval = ev at ec ef e44 ⊢; simp [execOp, go_sem, *])
        · refine stepOne_run trivial ?_
          intro a' w' hg hs hd
          have e45 : a'.eval (.tmp 45) = .pointer (some ⟨bb, o + k * 6, none⟩) := hd ⟨4, Ground.data⟩ (by simp) rfl
          have ec : ∀ v, a'.eval (.const v) = v := fun _ => rfl
          have ef : ∀ g, a'.eval (.func g) = .func (.func g) #[] #[] := fun _ => rfl
          obtain ⟨p0, p1, p2, p3, p4, p5⟩ := (HR1.out.later (Grow.trans' HG.out hg)).at k hkd; rw [← HY.out] at p0 p1 p2 p3 p4 p5
          clear hd hs
          refine wpv (v := .agg #[.int .i64 (y.t).e, .int .i64 (y.t).d, .int .i64 (y.t).x, .int .i64 (y.t).y, .int .i64 (y.t).z]) ?_ ⟨_, rfl, Grow.rfl' _, rfl⟩
          (generalize a'.eval = ev at ec ef e45 ⊢; simp [execOp, go_sem, *])
        · refine stepOne_run trivial ?_
          intro a' w' hg hs hd
          have e0 : a'.eval (.tmp 0) = .slice (some ⟨bb, o, none⟩) n cap := hs.rest 0 rfl
          have ec : ∀ v, a'.eval (.const v) = v := fun _ => rfl
          have ef : ∀ g, a'.eval (.func g) = .func (.func g) #[] #[] := fun _ => rfl
          clear hd hs
          refine wpv (v := .slice (some ⟨bb, o, none⟩) n cap) ?_ ⟨_, rfl, Grow.rfl' _, rfl⟩
          (generalize a'.eval = ev at ec ef e0 ⊢; simp [execOp, go_sem, *])
        · refine stepOne_run trivial ?_
          intro a' w' hg hs hd
          have e8 : a'.eval (.tmp 8) = .int .i64 (k : Int) := hs.rest 8 rfl
          have ec : ∀ v, a'.eval (.const v) = v := fun _ => rfl
          have ef : ∀ g, a'.eval (.func g) = .func (.func g) #[] #[] := fun _ => rfl
          clear hd hs
          refine wpv (v := .int .i64 (k : Int)) ?_ ⟨_, rfl, Grow.rfl' _, rfl⟩
          (generalize a'.eval = ev at ec ef e8 ⊢; simp [execOp, go_sem, *])
        · refine stepOne_run trivial ?_
          intro a' w' hg hs hd
          have e47 : a'.eval (.tmp 47) = .slice (some ⟨bb, o, none⟩) n cap := hd ⟨6, Ground.data⟩ (by simp) rfl
          have e48 : a'.eval (.tmp 48) = .int .i64 (k : Int) := hd ⟨7, Ground.data⟩ (by simp) rfl
          have ec : ∀ v, a'.eval (.const v) = v := fun _ => rfl
          have ef : ∀ g, a'.eval (.func g) = .func (.func g) #[] #[] := fun _ => rfl
          clear hd hs
          refine wpv (v := .pointer (some ⟨bb, o + k * 6, none⟩)) ?_ ⟨_, rfl, Grow.rfl' _, rfl⟩
          (generalize a'.eval = ev at ec ef e47 e48 ⊢; simp [execOp, go_sem, *])
        · refine stepOne_run trivial ?_
          intro a' w' hg hs hd
          have e49 : a'.eval (.tmp 49) = .pointer (some ⟨bb, o + k * 6, none⟩) := hd ⟨8, Ground.data⟩ (by simp) rfl
          have ec : ∀ v, a'.eval (.const v) = v := fun _ => rfl
          have ef : ∀ g, a'.eval (.func g) = .func (.func g) #[] #[] := fun _ => rfl
          clear hd hs
          refine wpv (v := .pointer (some ⟨bb, o + k * 6 + 5, none⟩)) ?_ ⟨_, rfl, Grow.rfl' _, rfl⟩
          (generalize a'.eval = ev at ec ef e49 ⊢; simp [execOp, go_sem, *])
        · refine stepOne_run trivial ?_
          intro a' w' hg hs hd
          have e50 : a'.eval (.tmp 50) = .pointer (some ⟨bb, o + k * 6 + 5, none⟩) := hd ⟨9, Ground.data⟩ (by simp) rfl
          have ec : ∀ v, a'.eval (.const v) = v := fun _ => rfl
          have ef : ∀ g, a'.eval (.func g) = .func (.func g) #[] #[] := fun _ => rfl
          obtain ⟨p0, p1, p2, p3, p4, p5⟩ := (HR1.out.later (Grow.trans' HG.out hg)).at k hkd; rw [← HY.out] at p0 p1 p2 p3 p4 p5
          clear hd hs
          refine wpv (v := .int .i64 y.n) ?_ ⟨_, rfl, Grow.rfl' _, rfl⟩
          (generalize a'.eval = ev at ec ef e50 ⊢; simp [execOp, go_sem, *])
      · intro a' w' hg hs hd
        have e41 : a'.eval (.tmp 41) = .pointer (some ⟨p, 0, none⟩) := hd 0 (by omega)
        have e46 : a'.eval (.tmp 46) = .agg #[.int .i64 (y.t).e, .int .i64 (y.t).d, .int .i64 (y.t).x, .int .i64 (y.t).y, .int .i64 (y.t).z] := hd 5 (by omega)
        have e51 : a'.eval (.tmp 51) = .int .i64 y.n := hd 10 (by omega)
        have ec : ∀ v, a'.eval (.const v) = v := fun _ => rfl
        have ef : ∀ g, a'.eval (.func g) = .func (.func g) #[] #[] := fun _ => rfl
        refine wpc ?_ ((HA.out p b w' (HR.out.later hg)).mono ?_)
        · (generalize a'.eval = ev at ec ef e41 e46 e51 ⊢; simp [execOp, go_sem, *])
        rintro e w4 ⟨t1, m1, c1, t2, m2, c2, rfl, hg3, hR3, -, -⟩
        refine ⟨_, rfl, ?_⟩
        have HG3 := hide (grow_step (Grow.trans' HG.out hg) hg3 hwb)
        have HR3 := hide hR3
        have HQ3 := hide ((HQ.out.later hg).far hg3 hpb' (Ne.symm hbb))
        clear hg3 hR3 e41 e46 e51 ec ef HG HR HQ hg
        rw [frame_eq hs [false, false, false, false, false, false, false, false, false, false, false, false, false, false, false, false, false, false, false, false, false, false, false, false, false, false, false, false, false, false, false, false, false, false, false, false, false, false, false, false, false, true, true, true, true, true, true, true, true, true, true, true, true, false, false, false, false, false, false, false, false, false, false, false, false, false, false, false, false, false, false, false, false, false, false, false, false, false, false, false, false, false, false, false, false, false, false, false, false, false, false, false, false, false, false, false, false, false, false, false, false, false, false, false, false, false, false, false, false, false, false, false, false, false, false, false, false, false, false, false, false, false, false, false, false, false, false, false, false, false, false, false, false, false, false, false, false, false, false, false] (by kernel_rfl)]; simp only [mergeL]; clear hs hd; generalize a'.tmps = TT at *; try go_frame
        go_wp2_with fail
        refine wp_region_end (fun i vF wF => match i with | 0 => vF = .pointer (some ⟨p', 0, none⟩) | 1 => vF = .slice (some ⟨bb, o, none⟩) n cap | 2 => vF = .int .i64 (k : Int) | 3 => vF = .pointer (some ⟨bb, o + k * 6, none⟩) | 4 => vF = .pointer (some ⟨bb, o + k * 6, none⟩) | 5 => vF = .agg #[.int .i64 (y.t).e, .int .i64 (y.t).d, .int .i64 (y.t).x, .int .i64 (y.t).y, .int .i64 (y.t).z] | 6 => vF = .slice (some ⟨bb, o, none⟩) n cap | 7 => vF = .int .i64 (k : Int) | 8 => vF = .pointer (some ⟨bb, o + k * 6, none⟩) | 9 => vF = .pointer (some ⟨bb, o + k * 6 + 5, none⟩) | 10 => vF = .int .i64 y.n | _ => True) 11 _ rfl rfl rfl (by kernel_rfl) (by kernel_rfl) ?_ ?_ ?_
        · intro k v w1 w2 hg h
          match k with
          | 0 => exact h
          | 1 => exact h
          | 2 => exact h
          | 3 => exact h
          | 4 => exact h
          | 5 => exact h
          | 6 => exact h
          | 7 => exact h
          | 8 => exact h
          | 9 => exact h
          | 10 => exact h
          | k + 11 => exact trivial
        · refine ⟨?_, ?_, ?_, ?_, ?_, ?_, ?_, ?_, ?_, ?_, ?_, trivial⟩
          · refine stepOne_run trivial ?_
            intro a' w' hg hs hd
            have e7 : a'.eval (.tmp 7) = .pointer (some ⟨p', 0, none⟩) := hs.rest 7 rfl
            have ec : ∀ v, a'.eval (.const v) = v := fun _ => rfl
            have ef : ∀ g, a'.eval (.func g) = .func (.func g) #[] #[] := fun _ => rfl
            clear hd hs
            refine wpv (v := .pointer (some ⟨p', 0, none⟩)) ?_ ⟨_, rfl, Grow.rfl' _, rfl⟩
            (generalize a'.eval = ev at ec ef e7 ⊢; simp [execOp, go_sem, *])
          · refine stepOne_run trivial ?_
            intro a' w' hg hs hd
            have e0 : a'.eval (.tmp 0) = .slice (some ⟨bb, o, none⟩) n cap := hs.rest 0 rfl
            have ec : ∀ v, a'.eval (.const v) = v := fun _ => rfl
            have ef : ∀ g, a'.eval (.func g) = .func (.func g) #[] #[] := fun _ => rfl
            clear hd hs
            refine wpv (v := .slice (some ⟨bb, o, none⟩) n cap) ?_ ⟨_, rfl, Grow.rfl' _, rfl⟩
            (generalize a'.eval = ev at ec ef e0 ⊢; simp [execOp, go_sem, *])
          · refine stepOne_run trivial ?_
            intro a' w' hg hs hd
            have e8 : a'.eval (.tmp 8) = .int .i64 (k : Int) := hs.rest 8 rfl
            have ec : ∀ v, a'.eval (.const v) = v := fun _ => rfl
            have ef : ∀ g, a'.eval (.func g) = .func (.func g) #[] #[] := fun _ => rfl
            clear hd hs
            refine wpv (v := .int .i64 (k : Int)) ?_ ⟨_, rfl, Grow.rfl' _, rfl⟩
            (generalize a'.eval = ev at ec ef e8 ⊢; simp [execOp, go_sem, *])
          · refine stepOne_run trivial ?_
            intro a' w' hg hs hd
            have e54 : a'.eval (.tmp 54) = .slice (some ⟨bb, o, none⟩) n cap := hd ⟨1, Ground.data⟩ (by simp) rfl
            have e55 : a'.eval (.tmp 55) = .int .i64 (k : Int) := hd ⟨2, Ground.data⟩ (by simp) rfl
            have ec : ∀ v, a'.eval (.const v) = v := fun _ => rfl
            have ef : ∀ g, a'.eval (.func g) = .func (.func g) #[] #[] := fun _ => rfl
            clear hd hs
            refine wpv (v := .pointer (some ⟨bb, o + k * 6, none⟩)) ?_ ⟨_, rfl, Grow.rfl' _, rfl⟩
            (generalize a'.eval = ev at ec ef e54 e55 ⊢; simp [execOp, go_sem, *])
          · refine stepOne_run trivial ?_
            intro a' w' hg hs hd
            have e56 : a'.eval (.tmp 56) = .pointer (some ⟨bb, o + k * 6, none⟩) := hd ⟨3, Ground.data⟩ (by simp) rfl
            have ec : ∀ v, a'.eval (.const v) = v := fun _ => rfl
            have ef : ∀ g, a'.eval (.func g) = .func (.func g) #[] #[] := fun _ => rfl
            clear hd hs
            refine wpv (v := .pointer (some ⟨bb, o + k * 6, none⟩)) ?_ ⟨_, rfl, Grow.rfl' _, rfl⟩
            (generalize a'.eval = ev at ec ef e56 ⊢; simp [execOp, go_sem, *])
          · refine stepOne_run trivial ?_
            intro a' w' hg hs hd
            have e57 : a'.eval (.tmp 57) = .pointer (some ⟨bb, o + k * 6, none⟩) := hd ⟨4, Ground.data⟩ (by simp) rfl
            have ec : ∀ v, a'.eval (.const v) = v := fun _ => rfl
            have ef : ∀ g, a'.eval (.func g) = .func (.func g) #[] #[] := fun _ => rfl
            obtain ⟨p0, p1, p2, p3, p4, p5⟩ := (HR1.out.later (Grow.trans' HG3.out hg)).at k hkd; rw [← HY.out] at p0 p1 p2 p3 p4 p5
            clear hd hs
            refine wpv (v := .agg #[.int .i64 (y.t).e, .int .i64 (y.t).d, .int .i64 (y.t).x, .int .i64 (y.t).y, .int .i64 (y.t).z]) ?_ ⟨_, rfl, Grow.rfl' _, rfl⟩
            (generalize a'.eval = ev at ec ef e57 ⊢; simp [execOp, go_sem, *])
          · refine stepOne_run trivial ?_
            intro a' w' hg hs hd
            have e0 : a'.eval (.tmp 0) = .slice (some ⟨bb, o, none⟩) n cap := hs.rest 0 rfl
            have ec : ∀ v, a'.eval (.const v) = v := fun _ => rfl
            have ef : ∀ g, a'.eval (.func g) = .func (.func g) #[] #[] := fun _ => rfl
            clear hd hs
            refine wpv (v := .slice (some ⟨bb, o, none⟩) n cap) ?_ ⟨_, rfl, Grow.rfl' _, rfl⟩
            (generalize a'.eval = ev at ec ef e0 ⊢; simp [execOp, go_sem, *])
          · refine stepOne_run trivial ?_
            intro a' w' hg hs hd
            have e8 : a'.eval (.tmp 8) = .int .i64 (k : Int) := hs.rest 8 rfl
            have ec : ∀ v, a'.eval (.const v) = v := fun _ => rfl
            have ef : ∀ g, a'.eval (.func g) = .func (.func g) #[] #[] := fun _ => rfl
            clear hd hs
            refine wpv (v := .int .i64 (k : Int)) ?_ ⟨_, rfl, Grow.rfl' _, rfl⟩
            (generalize a'.eval = ev at ec ef e8 ⊢; simp [execOp, go_sem, *])
          · refine stepOne_run trivial ?_
            intro a' w' hg hs hd
            have e59 : a'.eval (.tmp 59) = .slice (some ⟨bb, o, none⟩) n cap := hd ⟨6, Ground.data⟩ (by simp) rfl
            have e60 : a'.eval (.tmp 60) = .int .i64 (k : Int) := hd ⟨7, Ground.data⟩ (by simp) rfl
            have ec : ∀ v, a'.eval (.const v) = v := fun _ => rfl
            have ef : ∀ g, a'.eval (.func g) = .func (.func g) #[] #[] := fun _ => rfl
            clear hd hs
            refine wpv (v := .pointer (some ⟨bb, o + k * 6, none⟩)) ?_ ⟨_, rfl, Grow.rfl' _, rfl⟩
            (generalize a'.eval = ev at ec ef e59 e60 ⊢; simp [execOp, go_sem, *])
          · refine stepOne_run trivial ?_
            intro a' w' hg hs hd
            have e61 : a'.eval (.tmp 61) = .pointer (some ⟨bb, o + k * 6, none⟩) := hd ⟨8, Ground.data⟩ (by simp) rfl
            have ec : ∀ v, a'.eval (.const v) = v := fun _ => rfl
            have ef : ∀ g, a'.eval (.func g) = .func (.func g) #[] #[] := fun _ => rfl
            clear hd hs
            refine wpv (v := .pointer (some ⟨bb, o + k * 6 + 5, none⟩)) ?_ ⟨_, rfl, Grow.rfl' _, rfl⟩
            (generalize a'.eval = ev at ec ef e61 ⊢; simp [execOp, go_sem, *])
          · refine stepOne_run trivial ?_
            intro a' w' hg hs hd
            have e62 : a'.eval (.tmp 62) = .pointer (some ⟨bb, o + k * 6 + 5, none⟩) := hd ⟨9, Ground.data⟩ (by simp) rfl
            have ec : ∀ v, a'.eval (.const v) = v := fun _ => rfl
            have ef : ∀ g, a'.eval (.func g) = .func (.func g) #[] #[] := fun _ => rfl
            obtain ⟨p0, p1, p2, p3, p4, p5⟩ := (HR1.out.later (Grow.trans' HG3.out hg)).at k hkd; rw [← HY.out] at p0 p1 p2 p3 p4 p5
            clear hd hs
            refine wpv (v := .int .i64 y.n) ?_ ⟨_, rfl, Grow.rfl' _, rfl⟩
            (generalize a'.eval = ev at ec ef e62 ⊢; simp [execOp, go_sem, *])
        · intro a' w' hg hs hd
          have e53 : a'.eval (.tmp 53) = .pointer (some ⟨p', 0, none⟩) := hd 0 (by omega)
          have e58 : a'.eval (.tmp 58) = .agg #[.int .i64 (y.t).e, .int .i64 (y.t).d, .int .i64 (y.t).x, .int .i64 (y.t).y, .int .i64 (y.t).z] := hd 5 (by omega)
          have e63 : a'.eval (.tmp 63) = .int .i64 y.n := hd 10 (by omega)
          have ec : ∀ v, a'.eval (.const v) = v := fun _ => rfl
          have ef : ∀ g, a'.eval (.func g) = .func (.func g) #[] #[] := fun _ => rfl
          refine wpc ?_ ((HA.out p' b' w' (HQ3.out.later hg)).mono ?_)
          · (generalize a'.eval = ev at ec ef e53 e58 e63 ⊢; simp [execOp, go_sem, *])
          rintro e w5 ⟨t3, m3, c3, t4, m4, c4, rfl, hg5, hR5, -, -⟩
          refine ⟨_, rfl, ?_⟩
          have HG5 := hide (grow_step (Grow.trans' HG3.out hg) hg5 hwb')
          have HQ5 := hide hR5
          have HR5 := hide ((HR3.out.later hg).far hg5 hpb hbb)
          clear hg5 hR5 e53 e58 e63 ec ef HG3 HR3 HQ3 hg
          rw [frame_eq hs [false, false, false, false, false, false, false, false, false, false, false, false, false, false, false, false, false, false, false, false, false, false, false, false, false, false, false, false, false, false, false, false, false, false, false, false, false, false, false, false, false, false, false, false, false, false, false, false, false, false, false, false, false, true, true, true, true, true, true, true, true, true, true, true, true, false, false, false, false, false, false, false, false, false, false, false, false, false, false, false, false, false, false, false, false, false, false, false, false, false, false, false, false, false, false, false, false, false, false, false, false, false, false, false, false, false, false, false, false, false, false, false, false, false, false, false, false, false, false, false, false, false, false, false, false, false, false, false, false, false, false, false, false, false, false, false, false, false, false, false] (by kernel_rfl)]; simp only [mergeL]; clear hs hd; generalize a'.tmps = TT at *; try go_frame
          go_wp2_with fail
          go_roundw
          case rel => exact ⟨k + 1, by omega, by omega, by go_num, HG5.out, by rw [HS.out]; exact HR5.out, by rw [HS.out]; exact HQ5.out⟩
          case measure => simp [intOf]; omega
    · have hx1 : ¬ (k : Int) < (n : Int) := (by omega)
      obtain ⟨S, hS⟩ : ∃ S, S = Cs.none.adds (d.take k) := ⟨_, rfl⟩
      have hSO : S.ok := by rw [hS]; exact Cs.adds_ok Cs.none_ok _
      rw [← hS] at HR HQ
      have HSO := hide hSO
      clear hS hSO hlt
      go_wp2_with fail
      refine (clone_any p b S wr HR.out).mono ?_
      rintro e w4 ⟨q, c, rfl, hb, hR, hp1, hb1⟩
      have G4 := hide (Grow.trans' HG.out hb)
      have R4 := hide (HR.out.later hb)
      have Q4 := hide (HQ.out.later hb)
      have B4 := hide hR
      have hpl : p < wr.heap.size := HR.out.lt
      have hbl : b < wr.heap.size := HR.out.map.lt
      have hpl' : p' < wr.heap.size := HQ.out.lt
      have hbl' : b' < wr.heap.size := HQ.out.map.lt
      have hwc : w.heap.size ≤ c := by have := HG.out.size; omega
      have hpc : p ≠ c := by omega
      have hbc : b ≠ c := by omega
      have hpc' : p' ≠ c := by omega
      have hbc' : b' ≠ c := by omega
      have hqb : q ≠ b := by omega
      clear hb hR HG HR HQ hp1 hb1 hpl hbl hpl' hbl'
      clear hk hk30 hx1
      go_wp2_with fail
      go_loopw [10] (fun i wr => ∃ k : Nat, k ≤ n1 ∧ k ≤ 30 ∧ i = .int .i64 k ∧ Grow w wr ∧ RepC wr p b S ∧ RepC wr p' b' S ∧ RepC wr q c (S.adds (d1.take k))) (fun i _ => 30 - (intOf i).toNat)
      case atStart => exact ⟨0, Nat.zero_le _, Nat.zero_le _, rfl, G4.out, R4.out, Q4.out, B4.out⟩
      case round =>
        obtain ⟨k, hk, hk30, rfl, hg, hR, hQ, hB⟩ := hrel
        have HG := hide hg
        have HR := hide hR
        have HQ := hide hQ
        have HB := hide hB
        clear hg hR hQ hB G4 R4 Q4 B4
        by_cases hlt : k < n1 ∧ k < 30
        · obtain ⟨hlt, hlt30⟩ := hlt
          obtain ⟨bb, o, rfl, hr1, hkd⟩ := HD1.out.see k (by omega)
          have HR1 := hide hr1
          obtain ⟨y, hy⟩ : ∃ y, y = d1[k] := ⟨_, rfl⟩
          have HY := hide hy
          have HS := hide (Cs.adds_take S d1 k hkd)
          rw [← hy] at HS
          have hi1 : (0 : Int) ≤ (k : Int) := by omega
          have hi2 : (k : Int) < (n1 : Int) := by omega
          have hi3 : (k : Int) < 30 := by omega
          have HA := hide (fun w' (h : RepC w' q c (S.adds (d1.take k))) => add_any q c (S.adds (d1.take k)) y.t y.n w' (Cs.adds_ok HSO.out _) h)
          clear hr1 hy
          go_wp2_with fail
          refine wp_region_end (fun i vF wF => match i with | 0 => vF = .pointer (some ⟨q, 0, none⟩) | 1 => vF = .slice (some ⟨bb, o, none⟩) n1 cap1 | 2 => vF = .int .i64 (k : Int) | 3 => vF = .pointer (some ⟨bb, o + k * 6, none⟩) | 4 => vF = .pointer (some ⟨bb, o + k * 6, none⟩) | 5 => vF = .agg #[.int .i64 (y.t).e, .int .i64 (y.t).d, .int .i64 (y.t).x, .int .i64 (y.t).y, .int .i64 (y.t).z] | 6 => vF = .slice (some ⟨bb, o, none⟩) n1 cap1 | 7 => vF = .int .i64 (k : Int) | 8 => vF = .pointer (some ⟨bb, o + k * 6, none⟩) | 9 => vF = .pointer (some ⟨bb, o + k * 6 + 5, none⟩) | 10 => vF = .int .i64 y.n | _ => True) 11 _ rfl rfl rfl (by kernel_rfl) (by kernel_rfl) ?_ ?_ ?_
          · intro k v w1 w2 hg h
            match k with
            | 0 => exact h
            | 1 => exact h
            | 2 => exact h
            | 3 => exact h
            | 4 => exact h
            | 5 => exact h
            | 6 => exact h
            | 7 => exact h
            | 8 => exact h
            | 9 => exact h
            | 10 => exact h
            | k + 11 => exact trivial
          · refine ⟨?_, ?_, ?_, ?_, ?_, ?_, ?_, ?_, ?_, ?_, ?_, trivial⟩
            · refine stepOne_run trivial ?_
              intro a' w' hg hs hd
              have e9 : a'.eval (.tmp 9) = .pointer (some ⟨q, 0, none⟩) := hs.rest 9 rfl
              have ec : ∀ v, a'.eval (.const v) = v := fun _ => rfl
              have ef : ∀ g, a'.eval (.func g) = .func (.func g) #[] #[] := fun _ => rfl
              clear hd hs
              refine wpv (v := .pointer (some ⟨q, 0, none⟩)) ?_ ⟨_, rfl, Grow.rfl' _, rfl⟩
              (generalize a'.eval = ev at ec ef e9 ⊢; simp [execOp, go_sem, *])
            · refine stepOne_run trivial ?_
              intro a' w' hg hs hd
              have e1 : a'.eval (.tmp 1) = .slice (some ⟨bb, o, none⟩) n1 cap1 := hs.rest 1 rfl
              have ec : ∀ v, a'.eval (.const v) = v := fun _ => rfl
              have ef : ∀ g, a'.eval (.func g) = .func (.func g) #[] #[] := fun _ => rfl
              clear hd hs
              refine wpv (v := .slice (some ⟨bb, o, none⟩) n1 cap1) ?_ ⟨_, rfl, Grow.rfl' _, rfl⟩
              (generalize a'.eval = ev at ec ef e1 ⊢; simp [execOp, go_sem, *])
            · refine stepOne_run trivial ?_
              intro a' w' hg hs hd
              have e10 : a'.eval (.tmp 10) = .int .i64 (k : Int) := hs.rest 10 rfl
              have ec : ∀ v, a'.eval (.const v) = v := fun _ => rfl
              have ef : ∀ g, a'.eval (.func g) = .func (.func g) #[] #[] := fun _ => rfl
              clear hd hs
              refine wpv (v := .int .i64 (k : Int)) ?_ ⟨_, rfl, Grow.rfl' _, rfl⟩
              (generalize a'.eval = ev at ec ef e10 ⊢; simp [execOp, go_sem, *])
            · refine stepOne_run trivial ?_
              intro a' w' hg hs hd
              have e80 : a'.eval (.tmp 80) = .slice (some ⟨bb, o, none⟩) n1 cap1 := hd ⟨1, Ground.data⟩ (by simp) rfl
              have e81 : a'.eval (.tmp 81) = .int .i64 (k : Int) := hd ⟨2, Ground.data⟩ (by simp) rfl
              have ec : ∀ v, a'.eval (.const v) = v := fun _ => rfl
              have ef : ∀ g, a'.eval (.func g) = .func (.func g) #[] #[] := fun _ => rfl
              clear hd hs
              refine wpv (v := .pointer (some ⟨bb, o + k * 6, none⟩)) ?_ ⟨_, rfl, Grow.rfl' _, rfl⟩
              (generalize a'.eval = ev at ec ef e80 e81 ⊢; simp [execOp, go_sem, *])
            · refine stepOne_run trivial ?_
              intro a' w' hg hs hd
              have e82 : a'.eval (.tmp 82) = .pointer (some ⟨bb, o + k * 6, none⟩) := hd ⟨3, Ground.data⟩ (by simp) rfl
              have ec : ∀ v, a'.eval (.const v) = v := fun _ => rfl
              have ef : ∀ g, a'.eval (.func g) = .func (.func g) #[] #[] := fun _ => rfl
              clear hd hs
              refine wpv (v := .pointer (some ⟨bb, o + k * 6, none⟩)) ?_ ⟨_, rfl, Grow.rfl' _, rfl⟩
              (generalize a'.eval = ev at ec ef e82 ⊢; simp [execOp, go_sem, *])
            · refine stepOne_run trivial ?_
              intro a' w' hg hs hd
              have e83 : a'.eval (.tmp 83) = .pointer (some ⟨bb, o + k * 6, none⟩) := hd ⟨4, Ground.data⟩ (by simp) rfl
              have ec : ∀ v, a'.eval (.const v) = v := fun _ => rfl
              have ef : ∀ g, a'.eval (.func g) = .func (.func g) #[] #[] := fun _ => rfl
              obtain ⟨p0, p1, p2, p3, p4, p5⟩ := (HR1.out.later (Grow.trans' HG.out hg)).at k hkd; rw [← HY.out] at p0 p1 p2 p3 p4 p5
              clear hd hs
              refine wpv (v := .agg #[.int .i64 (y.t).e, .int .i64 (y.t).d, .int .i64 (y.t).x, .int .i64 (y.t).y, .int .i64 (y.t).z]) ?_ ⟨_, rfl, Grow.rfl' _, rfl⟩
              (generalize a'.eval = ev at ec ef e83 ⊢; simp [execOp, go_sem, *])
            · refine stepOne_run trivial ?_
              intro a' w' hg hs hd
              have e1 : a'.eval (.tmp 1) = .slice (some ⟨bb, o, none⟩) n1 cap1 := hs.rest 1 rfl
              have ec : ∀ v, a'.eval (.const v) = v := fun _ => rfl
              have ef : ∀ g, a'.eval (.func g) = .func (.func g) #[] #[] := fun _ => rfl
              clear hd hs
              refine wpv (v := .slice (some ⟨bb, o, none⟩) n1 cap1) ?_ ⟨_, rfl, Grow.rfl' _, rfl⟩
              (generalize a'.eval = ev at ec ef e1 ⊢; simp [execOp, go_sem, *])
            · refine stepOne_run trivial ?_
              intro a' w' hg hs hd
              have e10 : a'.eval (.tmp 10) = .int .i64 (k : Int) := hs.rest 10 rfl
              have ec : ∀ v, a'.eval (.const v) = v := fun _ => rfl
              have ef : ∀ g, a'.eval (.func g) = .func (.func g) #[] #[] := fun _ => rfl
              clear hd hs
              refine wpv (v := .int .i64 (k : Int)) ?_ ⟨_, rfl, Grow.rfl' _, rfl⟩
              (generalize a'.eval = ev at ec ef e10 ⊢; simp [execOp, go_sem, *])
            · refine stepOne_run trivial ?_
              intro a' w' hg hs hd
              have e85 : a'.eval (.tmp 85) = .slice (some ⟨bb, o, none⟩) n1 cap1 := hd ⟨6, Ground.data⟩ (by simp) rfl
              have e86 : a'.eval (.tmp 86) = .int .i64 (k : Int) := hd ⟨7, Ground.data⟩ (by simp) rfl
              have ec : ∀ v, a'.eval (.const v) = v := fun _ => rfl
              have ef : ∀ g, a'.eval (.func g) = .func (.func g) #[] #[] := fun _ => rfl
              clear hd hs
              refine wpv (v := .pointer (some ⟨bb, o + k * 6, none⟩)) ?_ ⟨_, rfl, Grow.rfl' _, rfl⟩
              (generalize a'.eval = ev at ec ef e85 e86 ⊢; simp [execOp, go_sem, *])
            · refine stepOne_run trivial ?_
              intro a' w' hg hs hd
              have e87 : a'.eval (.tmp 87) = .pointer (some ⟨bb, o + k * 6, none⟩) := hd ⟨8, Ground.data⟩ (by simp) rfl
              have ec : ∀ v, a'.eval (.const v) = v := fun _ => rfl
              have ef : ∀ g, a'.eval (.func g) = .func (.func g) #[] #[] := fun _ => rfl
              clear hd hs
              refine wpv (v := .pointer (some ⟨bb, o + k * 6 + 5, none⟩)) ?_ ⟨_, rfl, Grow.rfl' _, rfl⟩
              (generalize a'.eval = ev at ec ef e87 ⊢; simp [execOp, go_sem, *])
            · refine stepOne_run trivial ?_
              intro a' w' hg hs hd
              have e88 : a'.eval (.tmp 88) = .pointer (some ⟨bb, o + k * 6 + 5, none⟩) := hd ⟨9, Ground.data⟩ (by simp) rfl
              have ec : ∀ v, a'.eval (.const v) = v := fun _ => rfl
              have ef : ∀ g, a'.eval (.func g) = .func (.func g) #[] #[] := fun _ => rfl
              obtain ⟨p0, p1, p2, p3, p4, p5⟩ := (HR1.out.later (Grow.trans' HG.out hg)).at k hkd; rw [← HY.out] at p0 p1 p2 p3 p4 p5
              clear hd hs
              refine wpv (v := .int .i64 y.n) ?_ ⟨_, rfl, Grow.rfl' _, rfl⟩
              (generalize a'.eval = ev at ec ef e88 ⊢; simp [execOp, go_sem, *])
          · intro a' w' hg hs hd
            have e79 : a'.eval (.tmp 79) = .pointer (some ⟨q, 0, none⟩) := hd 0 (by omega)
            have e84 : a'.eval (.tmp 84) = .agg #[.int .i64 (y.t).e, .int .i64 (y.t).d, .int .i64 (y.t).x, .int .i64 (y.t).y, .int .i64 (y.t).z] := hd 5 (by omega)
            have e89 : a'.eval (.tmp 89) = .int .i64 y.n := hd 10 (by omega)
            have ec : ∀ v, a'.eval (.const v) = v := fun _ => rfl
            have ef : ∀ g, a'.eval (.func g) = .func (.func g) #[] #[] := fun _ => rfl
            refine wpc ?_ ((HA.out w' (HB.out.later hg)).mono ?_)
            · (generalize a'.eval = ev at ec ef e79 e84 e89 ⊢; simp [execOp, go_sem, *])
            rintro e w5 ⟨t1, m1, c1, t2, m2, c2, rfl, hg3, hR3, -, -⟩
            refine ⟨_, rfl, ?_⟩
            have HG3 := hide (grow_step (Grow.trans' HG.out hg) hg3 hwc)
            have HB3 := hide hR3
            have HR3 := hide ((HR.out.later hg).far hg3 hpc hbc)
            have HQ3 := hide ((HQ.out.later hg).far hg3 hpc' hbc')
            clear hg3 hR3 e79 e84 e89 ec ef HG HR HQ HB hg
            rw [frame_eq hs [false, false, false, false, false, false, false, false, false, false, false, false, false, false, false, false, false, false, false, false, false, false, false, false, false, false, false, false, false, false, false, false, false, false, false, false, false, false, false, false, false, false, false, false, false, false, false, false, false, false, false, false, false, false, false, false, false, false, false, false, false, false, false, false, false, false, false, false, false, false, false, false, false, false, false, false, false, false, false, true, true, true, true, true, true, true, true, true, true, true, true, false, false, false, false, false, false, false, false, false, false, false, false, false, false, false, false, false, false, false, false, false, false, false, false, false, false, false, false, false, false, false, false, false, false, false, false, false, false, false, false, false, false, false, false, false, false, false, false, false] (by kernel_rfl)]; simp only [mergeL]; clear hs hd; generalize a'.tmps = TT at *; try go_frame
            go_wp2_with fail
            go_roundw
            case rel => exact ⟨k + 1, by omega, by omega, by go_num, HG3.out, HR3.out, HQ3.out, by rw [HS.out]; exact HB3.out⟩
            case measure => simp [intOf]; omega
        · have hy1 : (k : Int) < (n1 : Int) := (by omega); have hy2 : ¬ (k : Int) < 30 := (by omega)
          obtain ⟨B, hB⟩ : ∃ B, B = S.adds (d1.take k) := ⟨_, rfl⟩
          have hBO : B.ok := by rw [hB]; exact Cs.adds_ok HSO.out _
          rw [← hB] at HB
          have HBO := hide hBO
          clear hB hBO hlt hk hk30
          go_wp2_with fail
          refine (all_any p b S wr HSO.out HR.out).mono ?_
          rintro e w5 ⟨v, rfl, hb, sA, nA, cA, rfl, hI⟩
          have G5 := hide (Grow.trans' HG.out hb)
          have R5 := hide (HR.out.later hb)
          have Q5 := hide (HQ.out.later hb)
          have B5 := hide (HB.out.later hb)
          have I5 := hide hI
          have hnA : nA ≤ 400 := by have h1 := hI.1; have h2 := HSO.out.few; omega
          clear hb hI HG HR HQ HB hy1 hy2
          go_wp2_with fail
          refine (all_any p' b' S w5 HSO.out Q5.out).mono ?_
          rintro e w6 ⟨v, rfl, hb, sB, nB, cB, rfl, hI⟩
          have G6 := hide (Grow.trans' G5.out hb)
          have R6 := hide (R5.out.later hb)
          have Q6 := hide (Q5.out.later hb)
          have B6 := hide (B5.out.later hb)
          have C6 := hide (sameT_any sA sB cA cB nA nB S.T S.T true (by simp) w6 (by omega) (I5.out.later hb) hI)
          clear hb hI G5 R5 Q5 B5 I5
          go_wp2_with fail
          refine (C6.out).mono ?_
          rintro e w7 ⟨rfl, hb⟩
          have G7 := hide (Grow.trans' G6.out hb)
          have R7 := hide (R6.out.later hb)
          have Q7 := hide (Q6.out.later hb)
          have B7 := hide (B6.out.later hb)
          clear hb G6 R6 Q6 B6 C6
          go_wp2_with fail
          refine (front_any p b S w7 HSO.out R7.out).mono ?_
          rintro e w8 ⟨v, rfl, hb, sC, nC, cC, rfl, hI⟩
          have G8 := hide (Grow.trans' G7.out hb)
          have R8 := hide (R7.out.later hb)
          have Q8 := hide (Q7.out.later hb)
          have B8 := hide (B7.out.later hb)
          have I8 := hide hI
          have hnC : nC ≤ 400 := by have h1 := hI.1; have h2 := Cs.front_len HSO.out; omega
          clear hb hI G7 R7 Q7 B7
          go_wp2_with fail
          refine (front_any p' b' S w8 HSO.out Q8.out).mono ?_
          rintro e w9 ⟨v, rfl, hb, sE, nE, cE, rfl, hI⟩
          have G9 := hide (Grow.trans' G8.out hb)
          have R9 := hide (R8.out.later hb)
          have B9 := hide (B8.out.later hb)
          have C9 := hide (sameT_any sC sE cC cE nC nE S.front S.front true (by simp) w9 (by omega) (I8.out.later hb) hI)
          clear hb hI G8 R8 Q8 B8 I8
          go_wp2_with fail
          refine (C9.out).mono ?_
          rintro e w10 ⟨rfl, hb⟩
          have G10 := hide (Grow.trans' G9.out hb)
          have R10 := hide (R9.out.later hb)
          have B10 := hide (B9.out.later hb)
          clear hb G9 R9 B9 C9
          go_wp2_with fail
          refine (all_any q c B w10 HBO.out B10.out).mono ?_
          rintro e w11 ⟨v, rfl, hb, sG, nG, cG, rfl, hI⟩
          have G11 := hide (Grow.trans' G10.out hb)
          have R11 := hide (R10.out.later hb)
          have B11 := hide (B10.out.later hb)
          have I11 := hide hI
          have hnG : nG ≤ 400 := by have h1 := hI.1; have h2 := HBO.out.few; omega
          clear hb hI G10 R10 B10
          go_wp2_with fail
          refine (front_any q c B w11 HBO.out B11.out).mono ?_
          rintro e w12 ⟨v, rfl, hb, sH, nH, cH, rfl, hI⟩
          have G12 := hide (Grow.trans' G11.out hb)
          have R12 := hide (R11.out.later hb)
          have B12 := hide (B11.out.later hb)
          have I12 := hide (I11.out.later hb)
          have F12 := hide hI
          have hnH : nH ≤ 400 := by have h1 := hI.1; have h2 := Cs.front_len HBO.out; omega
          clear hb hI G11 R11 B11 I11
          go_wp2_with fail
          go_loopw [15] (fun i wr => ∃ (k : Nat) (S1 : Cs), k ≤ n ∧ k ≤ 30 ∧ i = .int .i64 k ∧ Grow w wr ∧ S1.ok ∧ RepC wr p b S1 ∧ RepC wr q c B ∧ IsTms wr sG nG cG B.T ∧ IsTms wr sH nH cH B.front) (fun i _ => 30 - (intOf i).toNat)
          case atStart => exact ⟨0, S, Nat.zero_le _, Nat.zero_le _, rfl, G12.out, HSO.out, R12.out, B12.out, I12.out, F12.out⟩
          case round =>
            obtain ⟨k, S1, hk, hk30, rfl, hg, hS1, hR, hB, hI, hF⟩ := hrel
            have HG := hide hg
            have HS1 := hide hS1
            have HR := hide hR
            have HB := hide hB
            have HI := hide hI
            have HF := hide hF
            clear hg hS1 hR hB hI hF G12 R12 B12 I12 F12
            by_cases hlt : k < n ∧ k < 30
            · obtain ⟨hlt, hlt30⟩ := hlt
              obtain ⟨bb, o, rfl, hr1, hkd⟩ := HD.out.see k (by omega)
              obtain ⟨y, hy⟩ : ∃ y, y = d[k] := ⟨_, rfl⟩
              obtain ⟨p0, p1, p2, p3, p4, p5⟩ := (hr1.later HG.out).at k hkd
              rw [← hy] at p0 p1 p2 p3 p4 p5
              have hi1 : (0 : Int) ≤ (k : Int) := by omega
              have hi2 : (k : Int) < (n : Int) := by omega
              have hi3 : (k : Int) < 30 := by omega
              clear hr1 hy
              go_wp2_with fail
              refine (add_any p b S1 y.t 7 wr HS1.out HR.out).mono ?_
              rintro e w13 ⟨t1, m1, c1, t2, m2, c2, rfl, hg3, hR3, -, -⟩
              have HG3 := hide (grow_step HG.out hg3 hwb)
              have HR3 := hide hR3
              have HB3 := hide (HB.out.far hg3 hqb (Ne.symm hbc))
              have HI3 := hide (HI.out.turn HR.out.map.block hg3)
              have HF3 := hide (HF.out.turn HR.out.map.block hg3)
              have HSA := hide (Cs.add_ok (t := y.t) (n := 7) HS1.out)
              clear hg3 hR3 p0 p1 p2 p3 p4 p5 HG HR HB HI HF
              go_wp2_with fail
              go_roundw
              case rel => exact ⟨k + 1, S1.add y.t 7, by omega, by omega, by go_num, HG3.out, HSA.out, HR3.out, HB3.out, HI3.out, HF3.out⟩
              case measure => simp [intOf]; omega
            · have hx1 : ¬ (k : Int) < (n : Int) := (by omega)
              clear hlt
              go_wp2_with fail
              refine (all_any q c B wr HBO.out HB.out).mono ?_
              rintro e w13 ⟨v, rfl, hb, sJ, nJ, cJ, rfl, hJ⟩
              have G13 := hide (Grow.trans' HG.out hb)
              have B13 := hide (HB.out.later hb)
              have F13 := hide (HF.out.later hb)
              have hnJ : nJ ≤ 400 := by have h1 := hJ.1; have h2 := HBO.out.few; omega
              have C13 := hide (sameT_any sJ sG cJ cG nJ nG B.T B.T true (by simp) w13 (by omega) hJ (HI.out.later hb))
              clear hb hJ HG HB HI HF HR
              go_wp2_with fail
              refine (C13.out).mono ?_
              rintro e w14 ⟨rfl, hb⟩
              have G14 := hide (Grow.trans' G13.out hb)
              have B14 := hide (B13.out.later hb)
              have F14 := hide (F13.out.later hb)
              clear hb G13 B13 F13 C13
              go_wp2_with fail
              refine (front_any q c B w14 HBO.out B14.out).mono ?_
              rintro e w15 ⟨v, rfl, hb, sK, nK, cK, rfl, hK⟩
              have G15 := hide (Grow.trans' G14.out hb)
              have hnK : nK ≤ 400 := by have h1 := hK.1; have h2 := Cs.front_len HBO.out; omega
              have C15 := hide (sameT_any sK sH cK cH nK nH B.front B.front true (by simp) w15 (by omega) hK (F14.out.later hb))
              clear hb hK G14 B14 F14
              go_wp2_with fail
              refine (C15.out).mono ?_
              rintro e w16 ⟨rfl, hb⟩
              have G16 := hide (Grow.trans' G15.out hb)
              clear hb G15 C15
              go_wp2_with fail
              go_ret
              exact ⟨rfl, G16.out⟩
set_option maxHeartbeats 4000000 in
theorem Apart_ba (s : Option Addr) (n cap : Nat) (d : List Opn) (s1 : Option Addr) (n1 cap1 : Nat) (d1 : List Opn) (w : World) (hn : 30 < n) (hm : n1 ≤ 30) (hd : IsOps w s n cap d) (hd1 : IsOps w s1 n1 cap1 d1) :
    Calls Try.prog 8 #[.slice s n cap, .slice s1 n1 cap1] w fun e w' => e = .returned (.bool true) ∧ Grow w w' := by
  have HD := hide hd
  have HD1 := hide hd1
  clear hd hd1
  go_enter Try.func8, Try.ntmps8
  go_wp2_with fail
  refine (shown4_any w).mono ?_
  rintro e w1 ⟨rfl, hb⟩
  have G1 := hide hb
  clear hb
  go_wp2_with fail
  refine (new_any w1).mono ?_
  rintro e w2 ⟨p, b, rfl, hb, hR, hp1, hb1⟩
  have G2 := hide (Grow.trans' G1.out hb)
  have R2 := hide hR
  have hwb : w.heap.size ≤ b := by have := G1.out.size; omega
  have hpl : p < w2.heap.size := hR.lt
  have hbl : b < w2.heap.size := hR.map.lt
  clear hb hR G1 hp1 hb1
  go_wp2_with fail
  refine (new_any w2).mono ?_
  rintro e w3 ⟨p', b', rfl, hb, hR, hp1, hb1⟩
  have G3 := hide (Grow.trans' G2.out hb)
  have R3 := hide (R2.out.later hb)
  have Q3 := hide hR
  have hwb' : w.heap.size ≤ b' := by have := G2.out.size; omega
  have hpb : p ≠ b' := by omega
  have hbb : b ≠ b' := by omega
  have hpb' : p' ≠ b := by omega
  clear hb hR G2 R2 hp1 hb1 hpl hbl
  go_wp2_with fail
  go_loopw [8] (fun i wr => ∃ k : Nat, k ≤ n ∧ k ≤ 30 ∧ i = .int .i64 k ∧ Grow w wr ∧ RepC wr p b (Cs.none.adds (d.take k)) ∧ RepC wr p' b' (Cs.none.adds (d.take k))) (fun i _ => 30 - (intOf i).toNat)
  case atStart => exact ⟨0, Nat.zero_le _, Nat.zero_le _, rfl, G3.out, R3.out, Q3.out⟩
  case round =>
    obtain ⟨k, hk, hk30, rfl, hg, hR, hQ⟩ := hrel
    have HG := hide hg
    have HR := hide hR
    have HQ := hide hQ
    clear hg hR hQ G3 R3 Q3
    by_cases hlt : k < n ∧ k < 30
    · obtain ⟨hlt, hlt30⟩ := hlt
      obtain ⟨bb, o, rfl, hr1, hkd⟩ := HD.out.see k (by omega)
      have HR1 := hide hr1
      obtain ⟨y, hy⟩ : ∃ y, y = d[k] := ⟨_, rfl⟩
      have HY := hide hy
      have HS := hide (Cs.adds_take Cs.none d k hkd)
      rw [← hy] at HS
      have hi1 : (0 : Int) ≤ (k : Int) := by omega
      have hi2 : (k : Int) < (n : Int) := by omega
      have hi3 : (k : Int) < 30 := by omega
      have HA := hide (fun p b w' (h : RepC w' p b (Cs.none.adds (d.take k))) => add_any p b (Cs.none.adds (d.take k)) y.t y.n w' (Cs.adds_ok Cs.none_ok _) h)
      clear hr1 hy
      go_wp2_with fail
      refine wp_region_end (fun i vF wF => match i with | 0 => vF = .pointer (some ⟨p, 0, none⟩) | 1 => vF = .slice (some ⟨bb, o, none⟩) n cap | 2 => vF = .int .i64 (k : Int) | 3 => vF = .pointer (some ⟨bb, o + k * 6, none⟩) | 4 => vF = .pointer (some ⟨bb, o + k * 6, none⟩) | 5 => vF = .agg #[.int .i64 (y.t).e, .int .i64 (y.t).d, .int .i64 (y.t).x, .int .i64 (y.t).y, .int .i64 (y.t).z] | 6 => vF = .slice (some ⟨bb, o, none⟩) n cap | 7 => vF = .int .i64 (k : Int) | 8 => vF = .pointer (some ⟨bb, o + k * 6, none⟩) | 9 => vF = .pointer (some ⟨bb, o + k * 6 + 5, none⟩) | 10 => vF = .int .i64 y.n | _ => True) 11 _ rfl rfl rfl (by kernel_rfl) (by kernel_rfl) ?_ ?_ ?_
      · intro k v w1 w2 hg h
        match k with
        | 0 => exact h
        | 1 => exact h
        | 2 => exact h
        | 3 => exact h
        | 4 => exact h
        | 5 => exact h
        | 6 => exact h
        | 7 => exact h
        | 8 => exact h
        | 9 => exact h
        | 10 => exact h
        | k + 11 => exact trivial
      · refine ⟨?_, ?_, ?_, ?_, ?_, ?_, ?_, ?_, ?_, ?_, ?_, trivial⟩
        · refine stepOne_run trivial ?_
          intro a' w' hg hs hd
          have e6 : a'.eval (.tmp 6) = .pointer (some ⟨p, 0, none⟩) := hs.rest 6 rfl
          have ec : ∀ v, a'.eval (.const v) = v := fun _ => rfl
          have ef : ∀ g, a'.eval (.func g) = .func (.func g) #[] #[] := fun _ => rfl
          clear hd hs
          refine wpv (v := .pointer (some ⟨p, 0, none⟩)) ?_ ⟨_, rfl, Grow.rfl' _, rfl⟩
          (generalize a'.eval = ev at ec ef e6 ⊢; simp [execOp, go_sem, *])
        · refine stepOne_run trivial ?_
          intro a' w' hg hs hd
          have e0 : a'.eval (.tmp 0) = .slice (some ⟨bb, o, none⟩) n cap := hs.rest 0 rfl
          have ec : ∀ v, a'.eval (.const v) = v := fun _ => rfl
          have ef : ∀ g, a'.eval (.func g) = .func (.func g) #[] #[] := fun _ => rfl
          clear hd hs
          refine wpv (v := .slice (some ⟨bb, o, none⟩) n cap) ?_ ⟨_, rfl, Grow.rfl' _, rfl⟩
          (generalize a'.eval = ev at ec ef e0 ⊢; simp [execOp, go_sem, *])
        · refine stepOne_run trivial ?_
          intro a' w' hg hs hd
          have e8 : a'.eval (.tmp 8) = .int .i64 (k : Int) := hs.rest 8 rfl
          have ec : ∀ v, a'.eval (.const v) = v := fun _ => rfl
          have ef : ∀ g, a'.eval (.func g) = .func (.func g) #[] #[] := fun _ => rfl
          clear hd hs
          refine wpv (v := .int .i64 (k : Int)) ?_ ⟨_, rfl, Grow.rfl' _, rfl⟩
          (generalize a'.eval = ev at ec ef e8 ⊢; simp [execOp, go_sem, *])
        · refine stepOne_run trivial ?_
          intro a' w' hg hs hd
          have e42 : a'.eval (.tmp 42) = .slice (some ⟨bb, o, none⟩) n cap := hd ⟨1, Ground.data⟩ (by simp) rfl
          have e43 : a'.eval (.tmp 43) = .int .i64 (k : Int) := hd ⟨2, Ground.data⟩ (by simp) rfl
          have ec : ∀ v, a'.eval (.const v) = v := fun _ => rfl
          have ef : ∀ g, a'.eval (.func g) = .func (.func g) #[] #[] := fun _ => rfl
          clear hd hs
          refine wpv (v := .pointer (some ⟨bb, o + k * 6, none⟩)) ?_ ⟨_, rfl, Grow.rfl' _, rfl⟩
          (generalize a'.eval = ev at ec ef e42 e43 ⊢; simp [execOp, go_sem, *])
        · refine stepOne_run trivial ?_
          intro a' w' hg hs hd
          have e44 : a'.eval (.tmp 44) = .pointer (some ⟨bb, o + k * 6, none⟩) := hd ⟨3, Ground.data⟩ (by simp) rfl
          have ec : ∀ v, a'.eval (.const v) = v := fun _ => rfl
          have ef : ∀ g, a'.eval (.func g) = .func (.func g) #[] #[] := fun _ => rfl
          clear hd hs
          refine wpv (v := .pointer (some ⟨bb, o + k * 6, none⟩)) ?_ ⟨_, rfl, Grow.rfl' _, rfl⟩
          (generalize a'.eval = ev at ec ef e44 ⊢; simp [execOp, go_sem, *])
        · refine stepOne_run trivial ?_
          intro a' w' hg hs hd
          have e45 : a'.eval (.tmp 45) = .pointer (some ⟨bb, o + k * 6, none⟩) := hd ⟨4, Ground.data⟩ (by simp) rfl
          have ec : ∀ v, a'.eval (.const v) = v := fun _ => rfl
          have ef : ∀ g, a'.eval (.func g) = .func (.func g) #[] #[] := fun _ => rfl
          obtain ⟨p0, p1, p2, p3, p4, p5⟩ := (HR1.out.later (Grow.trans' HG.out hg)).at k hkd; rw [← HY.out] at p0 p1 p2 p3 p4 p5
          clear hd hs
          refine wpv (v := .agg #[.int .i64 (y.t).e, .int .i64 (y.t).d, .int .i64 (y.t).x, .int .i64 (y.t).y, .int .i64 (y.t).z]) ?_ ⟨_, rfl, Grow.rfl' _, rfl⟩
          (generalize a'.eval = ev at ec ef e45 ⊢; simp [execOp, go_sem, *])
        · refine stepOne_run trivial ?_
          intro a' w' hg hs hd
          have e0 : a'.eval (.tmp 0) = .slice (some ⟨bb, o, none⟩) n cap := hs.rest 0 rfl
          have ec : ∀ v, a'.eval (.const v) = v := fun _ => rfl
          have ef : ∀ g, a'.eval (.func g) = .func (.func g) #[] #[] := fun _ => rfl
          clear hd hs
          refine wpv (v := .slice (some ⟨bb, o, none⟩) n cap) ?_ ⟨_, rfl, Grow.rfl' _, rfl⟩
          (generalize a'.eval = ev at ec ef e0 ⊢; simp [execOp, go_sem, *])
        · refine stepOne_run trivial ?_
          intro a' w' hg hs hd
          have e8 : a'.eval (.tmp 8) = .int .i64 (k : Int) := hs.rest 8 rfl
          have ec : ∀ v, a'.eval (.const v) = v := fun _ => rfl
          have ef : ∀ g, a'.eval (.func g) = .func (.func g) #[] #[] := fun _ => rfl
          clear hd hs
          refine wpv (v := .int .i64 (k : Int)) ?_ ⟨_, rfl, Grow.rfl' _, rfl⟩
          (generalize a'.eval = ev at ec ef e8 ⊢; simp [execOp, go_sem, *])
        · refine stepOne_run trivial ?_
          intro a' w' hg hs hd
          have e47 : a'.eval (.tmp 47) = .slice (some ⟨bb, o, none⟩) n cap := hd ⟨6, Ground.data⟩ (by simp) rfl
          have e48 : a'.eval (.tmp 48) = .int .i64 (k : Int) := hd ⟨7, Ground.data⟩ (by simp) rfl
          have ec : ∀ v, a'.eval (.const v) = v := fun _ => rfl
          have ef : ∀ g, a'.eval (.func g) = .func (.func g) #[] #[] := fun _ => rfl
          clear hd hs
          refine wpv (v := .pointer (some ⟨bb, o + k * 6, none⟩)) ?_ ⟨_, rfl, Grow.rfl' _, rfl⟩
          (generalize a'.eval = ev at ec ef e47 e48 ⊢; simp [execOp, go_sem, *])
        · refine stepOne_run trivial ?_
          intro a' w' hg hs hd
          have e49 : a'.eval (.tmp 49) = .pointer (some ⟨bb, o + k * 6, none⟩) := hd ⟨8, Ground.data⟩ (by simp) rfl
          have ec : ∀ v, a'.eval (.const v) = v := fun _ => rfl
          have ef : ∀ g, a'.eval (.func g) = .func (.func g) #[] #[] := fun _ => rfl
          clear hd hs
          refine wpv (v := .pointer (some ⟨bb, o + k * 6 + 5, none⟩)) ?_ ⟨_, rfl, Grow.rfl' _, rfl⟩
          (generalize a'.eval = ev at ec ef e49 ⊢; simp [execOp, go_sem, *])
        · refine stepOne_run trivial ?_
          intro a' w' hg hs hd
          have e50 : a'.eval (.tmp 50) = .pointer (some ⟨bb, o + k * 6 + 5, none⟩) := hd ⟨9, Ground.data⟩ (by simp) rfl
          have ec : ∀ v, a'.eval (.const v) = v := fun _ => rfl
          have ef : ∀ g, a'.eval (.func g) = .func (.func g) #[] #[] := fun _ => rfl
          obtain ⟨p0, p1, p2, p3, p4, p5⟩ := (HR1.out.later (Grow.trans' HG.out hg)).at k hkd; rw [← HY.out] at p0 p1 p2 p3 p4 p5
          clear hd hs
          refine wpv (v := .int .i64 y.n) ?_ ⟨_, rfl, Grow.rfl' _, rfl⟩
          (generalize a'.eval = ev at ec ef e50 ⊢; simp [execOp, go_sem, *])
      · intro a' w' hg hs hd
        have e41 : a'.eval (.tmp 41) = .pointer (some ⟨p, 0, none⟩) := hd 0 (by omega)
        have e46 : a'.eval (.tmp 46) = .agg #[.int .i64 (y.t).e, .int .i64 (y.t).d, .int .i64 (y.t).x, .int .i64 (y.t).y, .int .i64 (y.t).z] := hd 5 (by omega)
        have e51 : a'.eval (.tmp 51) = .int .i64 y.n := hd 10 (by omega)
        have ec : ∀ v, a'.eval (.const v) = v := fun _ => rfl
        have ef : ∀ g, a'.eval (.func g) = .func (.func g) #[] #[] := fun _ => rfl
        refine wpc ?_ ((HA.out p b w' (HR.out.later hg)).mono ?_)
        · (generalize a'.eval = ev at ec ef e41 e46 e51 ⊢; simp [execOp, go_sem, *])
        rintro e w4 ⟨t1, m1, c1, t2, m2, c2, rfl, hg3, hR3, -, -⟩
        refine ⟨_, rfl, ?_⟩
        have HG3 := hide (grow_step (Grow.trans' HG.out hg) hg3 hwb)
        have HR3 := hide hR3
        have HQ3 := hide ((HQ.out.later hg).far hg3 hpb' (Ne.symm hbb))
        clear hg3 hR3 e41 e46 e51 ec ef HG HR HQ hg
        rw [frame_eq hs [false, false, false, false, false, false, false, false, false, false, false, false, false, false, false, false, false, false, false, false, false, false, false, false, false, false, false, false, false, false, false, false, false, false, false, false, false, false, false, false, false, true, true, true, true, true, true, true, true, true, true, true, true, false, false, false, false, false, false, false, false, false, false, false, false, false, false, false, false, false, false, false, false, false, false, false, false, false, false, false, false, false, false, false, false, false, false, false, false, false, false, false, false, false, false, false, false, false, false, false, false, false, false, false, false, false, false, false, false, false, false, false, false, false, false, false, false, false, false, false, false, false, false, false, false, false, false, false, false, false, false, false, false, false, false, false, false, false, false, false] (by kernel_rfl)]; simp only [mergeL]; clear hs hd; generalize a'.tmps = TT at *; try go_frame
        go_wp2_with fail
        refine wp_region_end (fun i vF wF => match i with | 0 => vF = .pointer (some ⟨p', 0, none⟩) | 1 => vF = .slice (some ⟨bb, o, none⟩) n cap | 2 => vF = .int .i64 (k : Int) | 3 => vF = .pointer (some ⟨bb, o + k * 6, none⟩) | 4 => vF = .pointer (some ⟨bb, o + k * 6, none⟩) | 5 => vF = .agg #[.int .i64 (y.t).e, .int .i64 (y.t).d, .int .i64 (y.t).x, .int .i64 (y.t).y, .int .i64 (y.t).z] | 6 => vF = .slice (some ⟨bb, o, none⟩) n cap | 7 => vF = .int .i64 (k : Int) | 8 => vF = .pointer (some ⟨bb, o + k * 6, none⟩) | 9 => vF = .pointer (some ⟨bb, o + k * 6 + 5, none⟩) | 10 => vF = .int .i64 y.n | _ => True) 11 _ rfl rfl rfl (by kernel_rfl) (by kernel_rfl) ?_ ?_ ?_
        · intro k v w1 w2 hg h
          match k with
          | 0 => exact h
          | 1 => exact h
          | 2 => exact h
          | 3 => exact h
          | 4 => exact h
          | 5 => exact h
          | 6 => exact h
          | 7 => exact h
          | 8 => exact h
          | 9 => exact h
          | 10 => exact h
          | k + 11 => exact trivial
        · refine ⟨?_, ?_, ?_, ?_, ?_, ?_, ?_, ?_, ?_, ?_, ?_, trivial⟩
          · refine stepOne_run trivial ?_
            intro a' w' hg hs hd
            have e7 : a'.eval (.tmp 7) = .pointer (some ⟨p', 0, none⟩) := hs.rest 7 rfl
            have ec : ∀ v, a'.eval (.const v) = v := fun _ => rfl
            have ef : ∀ g, a'.eval (.func g) = .func (.func g) #[] #[] := fun _ => rfl
            clear hd hs
            refine wpv (v := .pointer (some ⟨p', 0, none⟩)) ?_ ⟨_, rfl, Grow.rfl' _, rfl⟩
            (generalize a'.eval = ev at ec ef e7 ⊢; simp [execOp, go_sem, *])
          · refine stepOne_run trivial ?_
            intro a' w' hg hs hd
            have e0 : a'.eval (.tmp 0) = .slice (some ⟨bb, o, none⟩) n cap := hs.rest 0 rfl
            have ec : ∀ v, a'.eval (.const v) = v := fun _ => rfl
            have ef : ∀ g, a'.eval (.func g) = .func (.func g) #[] #[] := fun _ => rfl
            clear hd hs
            refine wpv (v := .slice (some ⟨bb, o, none⟩) n cap) ?_ ⟨_, rfl, Grow.rfl' _, rfl⟩
            (generalize a'.eval = ev at ec ef e0 ⊢; simp [execOp, go_sem, *])
          · refine stepOne_run trivial ?_
            intro a' w' hg hs hd
            have e8 : a'.eval (.tmp 8) = .int .i64 (k : Int) := hs.rest 8 rfl
            have ec : ∀ v, a'.eval (.const v) = v := fun _ => rfl
            have ef : ∀ g, a'.eval (.func g) = .func (.func g) #[] #[] := fun _ => rfl
            clear hd hs
            refine wpv (v := .int .i64 (k : Int)) ?_ ⟨_, rfl, Grow.rfl' _, rfl⟩
            (generalize a'.eval = ev at ec ef e8 ⊢; simp [execOp, go_sem, *])
          · refine stepOne_run trivial ?_
            intro a' w' hg hs hd
            have e54 : a'.eval (.tmp 54) = .slice (some ⟨bb, o, none⟩) n cap := hd ⟨1, Ground.data⟩ (by simp) rfl
            have e55 : a'.eval (.tmp 55) = .int .i64 (k : Int) := hd ⟨2, Ground.data⟩ (by simp) rfl
            have ec : ∀ v, a'.eval (.const v) = v := fun _ => rfl
            have ef : ∀ g, a'.eval (.func g) = .func (.func g) #[] #[] := fun _ => rfl
            clear hd hs
            refine wpv (v := .pointer (some ⟨bb, o + k * 6, none⟩)) ?_ ⟨_, rfl, Grow.rfl' _, rfl⟩
            (generalize a'.eval = ev at ec ef e54 e55 ⊢; simp [execOp, go_sem, *])
          · refine stepOne_run trivial ?_
            intro a' w' hg hs hd
            have e56 : a'.eval (.tmp 56) = .pointer (some ⟨bb, o + k * 6, none⟩) := hd ⟨3, Ground.data⟩ (by simp) rfl
            have ec : ∀ v, a'.eval (.const v) = v := fun _ => rfl
            have ef : ∀ g, a'.eval (.func g) = .func (.func g) #[] #[] := fun _ => rfl
            clear hd hs
            refine wpv (v := .pointer (some ⟨bb, o + k * 6, none⟩)) ?_ ⟨_, rfl, Grow.rfl' _, rfl⟩
            (generalize a'.eval = ev at ec ef e56 ⊢; simp [execOp, go_sem, *])
          · refine stepOne_run trivial ?_
            intro a' w' hg hs hd
            have e57 : a'.eval (.tmp 57) = .pointer (some ⟨bb, o + k * 6, none⟩) := hd ⟨4, Ground.data⟩ (by simp) rfl
            have ec : ∀ v, a'.eval (.const v) = v := fun _ => rfl
            have ef : ∀ g, a'.eval (.func g) = .func (.func g) #[] #[] := fun _ => rfl
            obtain ⟨p0, p1, p2, p3, p4, p5⟩ := (HR1.out.later (Grow.trans' HG3.out hg)).at k hkd; rw [← HY.out] at p0 p1 p2 p3 p4 p5
            clear hd hs
            refine wpv (v := .agg #[.int .i64 (y.t).e, .int .i64 (y.t).d, .int .i64 (y.t).x, .int .i64 (y.t).y, .int .i64 (y.t).z]) ?_ ⟨_, rfl, Grow.rfl' _, rfl⟩
            (generalize a'.eval = ev at ec ef e57 ⊢; simp [execOp, go_sem, *])
          · refine stepOne_run trivial ?_
            intro a' w' hg hs hd
            have e0 : a'.eval (.tmp 0) = .slice (some ⟨bb, o, none⟩) n cap := hs.rest 0 rfl
            have ec : ∀ v, a'.eval (.const v) = v := fun _ => rfl
            have ef : ∀ g, a'.eval (.func g) = .func (.func g) #[] #[] := fun _ => rfl
            clear hd hs
            refine wpv (v := .slice (some ⟨bb, o, none⟩) n cap) ?_ ⟨_, rfl, Grow.rfl' _, rfl⟩
            (generalize a'.eval = ev at ec ef e0 ⊢; simp [execOp, go_sem, *])
          · refine stepOne_run trivial ?_
            intro a' w' hg hs hd
            have e8 : a'.eval (.tmp 8) = .int .i64 (k : Int) := hs.rest 8 rfl
            have ec : ∀ v, a'.eval (.const v) = v := fun _ => rfl
            have ef : ∀ g, a'.eval (.func g) = .func (.func g) #[] #[] := fun _ => rfl
            clear hd hs
            refine wpv (v := .int .i64 (k : Int)) ?_ ⟨_, rfl, Grow.rfl' _, rfl⟩
            (generalize a'.eval = ev at ec ef e8 ⊢; simp [execOp, go_sem, *])
          · refine stepOne_run trivial ?_
            intro a' w' hg hs hd
            have e59 : a'.eval (.tmp 59) = .slice (some ⟨bb, o, none⟩) n cap := hd ⟨6, Ground.data⟩ (by simp) rfl
            have e60 : a'.eval (.tmp 60) = .int .i64 (k : Int) := hd ⟨7, Ground.data⟩ (by simp) rfl
            have ec : ∀ v, a'.eval (.const v) = v := fun _ => rfl
            have ef : ∀ g, a'.eval (.func g) = .func (.func g) #[] #[] := fun _ => rfl
            clear hd hs
            refine wpv (v := .pointer (some ⟨bb, o + k * 6, none⟩)) ?_ ⟨_, rfl, Grow.rfl' _, rfl⟩
            (generalize a'.eval = ev at ec ef e59 e60 ⊢; simp [execOp, go_sem, *])
          · refine stepOne_run trivial ?_
            intro a' w' hg hs hd
            have e61 : a'.eval (.tmp 61) = .pointer (some ⟨bb, o + k * 6, none⟩) := hd ⟨8, Ground.data⟩ (by simp) rfl
            have ec : ∀ v, a'.eval (.const v) = v := fun _ => rfl
            have ef : ∀ g, a'.eval (.func g) = .func (.func g) #[] #[] := fun _ => rfl
            clear hd hs
            refine wpv (v := .pointer (some ⟨bb, o + k * 6 + 5, none⟩)) ?_ ⟨_, rfl, Grow.rfl' _, rfl⟩
            (generalize a'.eval = ev at ec ef e61 ⊢; simp [execOp, go_sem, *])
          · refine stepOne_run trivial ?_
            intro a' w' hg hs hd
            have e62 : a'.eval (.tmp 62) = .pointer (some ⟨bb, o + k * 6 + 5, none⟩) := hd ⟨9, Ground.data⟩ (by simp) rfl
            have ec : ∀ v, a'.eval (.const v) = v := fun _ => rfl
            have ef : ∀ g, a'.eval (.func g) = .func (.func g) #[] #[] := fun _ => rfl
            obtain ⟨p0, p1, p2, p3, p4, p5⟩ := (HR1.out.later (Grow.trans' HG3.out hg)).at k hkd; rw [← HY.out] at p0 p1 p2 p3 p4 p5
            clear hd hs
            refine wpv (v := .int .i64 y.n) ?_ ⟨_, rfl, Grow.rfl' _, rfl⟩
            (generalize a'.eval = ev at ec ef e62 ⊢; simp [execOp, go_sem, *])
        · intro a' w' hg hs hd
          have e53 : a'.eval (.tmp 53) = .pointer (some ⟨p', 0, none⟩) := hd 0 (by omega)
          have e58 : a'.eval (.tmp 58) = .agg #[.int .i64 (y.t).e, .int .i64 (y.t).d, .int .i64 (y.t).x, .int .i64 (y.t).y, .int .i64 (y.t).z] := hd 5 (by omega)
          have e63 : a'.eval (.tmp 63) = .int .i64 y.n := hd 10 (by omega)
          have ec : ∀ v, a'.eval (.const v) = v := fun _ => rfl
          have ef : ∀ g, a'.eval (.func g) = .func (.func g) #[] #[] := fun _ => rfl
          refine wpc ?_ ((HA.out p' b' w' (HQ3.out.later hg)).mono ?_)
          · (generalize a'.eval = ev at ec ef e53 e58 e63 ⊢; simp [execOp, go_sem, *])
          rintro e w5 ⟨t3, m3, c3, t4, m4, c4, rfl, hg5, hR5, -, -⟩
          refine ⟨_, rfl, ?_⟩
          have HG5 := hide (grow_step (Grow.trans' HG3.out hg) hg5 hwb')
          have HQ5 := hide hR5
          have HR5 := hide ((HR3.out.later hg).far hg5 hpb hbb)
          clear hg5 hR5 e53 e58 e63 ec ef HG3 HR3 HQ3 hg
          rw [frame_eq hs [false, false, false, false, false, false, false, false, false, false, false, false, false, false, false, false, false, false, false, false, false, false, false, false, false, false, false, false, false, false, false, false, false, false, false, false, false, false, false, false, false, false, false, false, false, false, false, false, false, false, false, false, false, true, true, true, true, true, true, true, true, true, true, true, true, false, false, false, false, false, false, false, false, false, false, false, false, false, false, false, false, false, false, false, false, false, false, false, false, false, false, false, false, false, false, false, false, false, false, false, false, false, false, false, false, false, false, false, false, false, false, false, false, false, false, false, false, false, false, false, false, false, false, false, false, false, false, false, false, false, false, false, false, false, false, false, false, false, false, false] (by kernel_rfl)]; simp only [mergeL]; clear hs hd; generalize a'.tmps = TT at *; try go_frame
          go_wp2_with fail
          go_roundw
          case rel => exact ⟨k + 1, by omega, by omega, by go_num, HG5.out, by rw [HS.out]; exact HR5.out, by rw [HS.out]; exact HQ5.out⟩
          case measure => simp [intOf]; omega
    · have hx1 : (k : Int) < (n : Int) := (by omega); have hx2 : ¬ (k : Int) < 30 := (by omega)
      obtain ⟨S, hS⟩ : ∃ S, S = Cs.none.adds (d.take k) := ⟨_, rfl⟩
      have hSO : S.ok := by rw [hS]; exact Cs.adds_ok Cs.none_ok _
      rw [← hS] at HR HQ
      have HSO := hide hSO
      clear hS hSO hlt
      go_wp2_with fail
      refine (clone_any p b S wr HR.out).mono ?_
      rintro e w4 ⟨q, c, rfl, hb, hR, hp1, hb1⟩
      have G4 := hide (Grow.trans' HG.out hb)
      have R4 := hide (HR.out.later hb)
      have Q4 := hide (HQ.out.later hb)
      have B4 := hide hR
      have hpl : p < wr.heap.size := HR.out.lt
      have hbl : b < wr.heap.size := HR.out.map.lt
      have hpl' : p' < wr.heap.size := HQ.out.lt
      have hbl' : b' < wr.heap.size := HQ.out.map.lt
      have hwc : w.heap.size ≤ c := by have := HG.out.size; omega
      have hpc : p ≠ c := by omega
      have hbc : b ≠ c := by omega
      have hpc' : p' ≠ c := by omega
      have hbc' : b' ≠ c := by omega
      have hqb : q ≠ b := by omega
      clear hb hR HG HR HQ hp1 hb1 hpl hbl hpl' hbl'
      clear hk hk30 hx1 hx2
      go_wp2_with fail
      go_loopw [10] (fun i wr => ∃ k : Nat, k ≤ n1 ∧ k ≤ 30 ∧ i = .int .i64 k ∧ Grow w wr ∧ RepC wr p b S ∧ RepC wr p' b' S ∧ RepC wr q c (S.adds (d1.take k))) (fun i _ => 30 - (intOf i).toNat)
      case atStart => exact ⟨0, Nat.zero_le _, Nat.zero_le _, rfl, G4.out, R4.out, Q4.out, B4.out⟩
      case round =>
        obtain ⟨k, hk, hk30, rfl, hg, hR, hQ, hB⟩ := hrel
        have HG := hide hg
        have HR := hide hR
        have HQ := hide hQ
        have HB := hide hB
        clear hg hR hQ hB G4 R4 Q4 B4
        by_cases hlt : k < n1 ∧ k < 30
        · obtain ⟨hlt, hlt30⟩ := hlt
          obtain ⟨bb, o, rfl, hr1, hkd⟩ := HD1.out.see k (by omega)
          have HR1 := hide hr1
          obtain ⟨y, hy⟩ : ∃ y, y = d1[k] := ⟨_, rfl⟩
          have HY := hide hy
          have HS := hide (Cs.adds_take S d1 k hkd)
          rw [← hy] at HS
          have hi1 : (0 : Int) ≤ (k : Int) := by omega
          have hi2 : (k : Int) < (n1 : Int) := by omega
          have hi3 : (k : Int) < 30 := by omega
          have HA := hide (fun w' (h : RepC w' q c (S.adds (d1.take k))) => add_any q c (S.adds (d1.take k)) y.t y.n w' (Cs.adds_ok HSO.out _) h)
          clear hr1 hy
          go_wp2_with fail
          refine wp_region_end (fun i vF wF => match i with | 0 => vF = .pointer (some ⟨q, 0, none⟩) | 1 => vF = .slice (some ⟨bb, o, none⟩) n1 cap1 | 2 => vF = .int .i64 (k : Int) | 3 => vF = .pointer (some ⟨bb, o + k * 6, none⟩) | 4 => vF = .pointer (some ⟨bb, o + k * 6, none⟩) | 5 => vF = .agg #[.int .i64 (y.t).e, .int .i64 (y.t).d, .int .i64 (y.t).x, .int .i64 (y.t).y, .int .i64 (y.t).z] | 6 => vF = .slice (some ⟨bb, o, none⟩) n1 cap1 | 7 => vF = .int .i64 (k : Int) | 8 => vF = .pointer (some ⟨bb, o + k * 6, none⟩) | 9 => vF = .pointer (some ⟨bb, o + k * 6 + 5, none⟩) | 10 => vF = .int .i64 y.n | _ => True) 11 _ rfl rfl rfl (by kernel_rfl) (by kernel_rfl) ?_ ?_ ?_
          · intro k v w1 w2 hg h
            match k with
            | 0 => exact h
            | 1 => exact h
            | 2 => exact h
            | 3 => exact h
            | 4 => exact h
            | 5 => exact h
            | 6 => exact h
            | 7 => exact h
            | 8 => exact h
            | 9 => exact h
            | 10 => exact h
            | k + 11 => exact trivial
          · refine ⟨?_, ?_, ?_, ?_, ?_, ?_, ?_, ?_, ?_, ?_, ?_, trivial⟩
            · refine stepOne_run trivial ?_
              intro a' w' hg hs hd
              have e9 : a'.eval (.tmp 9) = .pointer (some ⟨q, 0, none⟩) := hs.rest 9 rfl
              have ec : ∀ v, a'.eval (.const v) = v := fun _ => rfl
              have ef : ∀ g, a'.eval (.func g) = .func (.func g) #[] #[] := fun _ => rfl
              clear hd hs
              refine wpv (v := .pointer (some ⟨q, 0, none⟩)) ?_ ⟨_, rfl, Grow.rfl' _, rfl⟩
              (generalize a'.eval = ev at ec ef e9 ⊢; simp [execOp, go_sem, *])
            · refine stepOne_run trivial ?_
              intro a' w' hg hs hd
              have e1 : a'.eval (.tmp 1) = .slice (some ⟨bb, o, none⟩) n1 cap1 := hs.rest 1 rfl
              have ec : ∀ v, a'.eval (.const v) = v := fun _ => rfl
              have ef : ∀ g, a'.eval (.func g) = .func (.func g) #[] #[] := fun _ => rfl
              clear hd hs
              refine wpv (v := .slice (some ⟨bb, o, none⟩) n1 cap1) ?_ ⟨_, rfl, Grow.rfl' _, rfl⟩
              (generalize a'.eval = ev at ec ef e1 ⊢; simp [execOp, go_sem, *])
            · refine stepOne_run trivial ?_
              intro a' w' hg hs hd
              have e10 : a'.eval (.tmp 10) = .int .i64 (k : Int) := hs.rest 10 rfl
              have ec : ∀ v, a'.eval (.const v) = v := fun _ => rfl
              have ef : ∀ g, a'.eval (.func g) = .func (.func g) #[] #[] := fun _ => rfl
              clear hd hs
              refine wpv (v := .int .i64 (k : Int)) ?_ ⟨_, rfl, Grow.rfl' _, rfl⟩
              (generalize a'.eval = ev at ec ef e10 ⊢; simp [execOp, go_sem, *])
            · refine stepOne_run trivial ?_
              intro a' w' hg hs hd
              have e80 : a'.eval (.tmp 80) = .slice (some ⟨bb, o, none⟩) n1 cap1 := hd ⟨1, Ground.data⟩ (by simp) rfl
              have e81 : a'.eval (.tmp 81) = .int .i64 (k : Int) := hd ⟨2, Ground.data⟩ (by simp) rfl
              have ec : ∀ v, a'.eval (.const v) = v := fun _ => rfl
              have ef : ∀ g, a'.eval (.func g) = .func (.func g) #[] #[] := fun _ => rfl
              clear hd hs
              refine wpv (v := .pointer (some ⟨bb, o + k * 6, none⟩)) ?_ ⟨_, rfl, Grow.rfl' _, rfl⟩
              (generalize a'.eval = ev at ec ef e80 e81 ⊢; simp [execOp, go_sem, *])
            · refine stepOne_run trivial ?_
              intro a' w' hg hs hd
              have e82 : a'.eval (.tmp 82) = .pointer (some ⟨bb, o + k * 6, none⟩) := hd ⟨3, Ground.data⟩ (by simp) rfl
              have ec : ∀ v, a'.eval (.const v) = v := fun _ => rfl
              have ef : ∀ g, a'.eval (.func g) = .func (.func g) #[] #[] := fun _ => rfl
              clear hd hs
              refine wpv (v := .pointer (some ⟨bb, o + k * 6, none⟩)) ?_ ⟨_, rfl, Grow.rfl' _, rfl⟩
              (generalize a'.eval = ev at ec ef e82 ⊢; simp [execOp, go_sem, *])
            · refine stepOne_run trivial ?_
              intro a' w' hg hs hd
              have e83 : a'.eval (.tmp 83) = .pointer (some ⟨bb, o + k * 6, none⟩) := hd ⟨4, Ground.data⟩ (by simp) rfl
              have ec : ∀ v, a'.eval (.const v) = v := fun _ => rfl
              have ef : ∀ g, a'.eval (.func g) = .func (.func g) #[] #[] := fun _ => rfl
              obtain ⟨p0, p1, p2, p3, p4, p5⟩ := (HR1.out.later (Grow.trans' HG.out hg)).at k hkd; rw [← HY.out] at p0 p1 p2 p3 p4 p5
              clear hd hs
              refine wpv (v := .agg #[.int .i64 (y.t).e, .int .i64 (y.t).d, .int .i64 (y.t).x, .int .i64 (y.t).y, .int .i64 (y.t).z]) ?_ ⟨_, rfl, Grow.rfl' _, rfl⟩
              (generalize a'.eval = ev at ec ef e83 ⊢; simp [execOp, go_sem, *])
            · refine stepOne_run trivial ?_
              intro a' w' hg hs hd
              have e1 : a'.eval (.tmp 1) = .slice (some ⟨bb, o, none⟩) n1 cap1 := hs.rest 1 rfl
              have ec : ∀ v, a'.eval (.const v) = v := fun _ => rfl
              have ef : ∀ g, a'.eval (.func g) = .func (.func g) #[] #[] := fun _ => rfl
              clear hd hs
              refine wpv (v := .slice (some ⟨bb, o, none⟩) n1 cap1) ?_ ⟨_, rfl, Grow.rfl' _, rfl⟩
              (generalize a'.eval = ev at ec ef e1 ⊢; simp [execOp, go_sem, *])
            · refine stepOne_run trivial ?_
              intro a' w' hg hs hd
              have e10 : a'.eval (.tmp 10) = .int .i64 (k : Int) := hs.rest 10 rfl
              have ec : ∀ v, a'.eval (.const v) = v := fun _ => rfl
              have ef : ∀ g, a'.eval (.func g) = .func (.func g) #[] #[] := fun _ => rfl
              clear hd hs
              refine wpv (v := .int .i64 (k : Int)) ?_ ⟨_, rfl, Grow.rfl' _, rfl⟩
              (generalize a'.eval = ev at ec ef e10 ⊢; simp [execOp, go_sem, *])
            · refine stepOne_run trivial ?_
              intro a' w' hg hs hd
              have e85 : a'.eval (.tmp 85) = .slice (some ⟨bb, o, none⟩) n1 cap1 := hd ⟨6, Ground.data⟩ (by simp) rfl
              have e86 : a'.eval (.tmp 86) = .int .i64 (k : Int) := hd ⟨7, Ground.data⟩ (by simp) rfl
              have ec : ∀ v, a'.eval (.const v) = v := fun _ => rfl
              have ef : ∀ g, a'.eval (.func g) = .func (.func g) #[] #[] := fun _ => rfl
              clear hd hs
              refine wpv (v := .pointer (some ⟨bb, o + k * 6, none⟩)) ?_ ⟨_, rfl, Grow.rfl' _, rfl⟩
              (generalize a'.eval = ev at ec ef e85 e86 ⊢; simp [execOp, go_sem, *])
            · refine stepOne_run trivial ?_
              intro a' w' hg hs hd
              have e87 : a'.eval (.tmp 87) = .pointer (some ⟨bb, o + k * 6, none⟩) := hd ⟨8, Ground.data⟩ (by simp) rfl
              have ec : ∀ v, a'.eval (.const v) = v := fun _ => rfl
              have ef : ∀ g, a'.eval (.func g) = .func (.func g) #[] #[] := fun _ => rfl
              clear hd hs
              refine wpv (v := .pointer (some ⟨bb, o + k * 6 + 5, none⟩)) ?_ ⟨_, rfl, Grow.rfl' _, rfl⟩
              (generalize a'.eval = ev at ec ef e87 ⊢; simp [execOp, go_sem, *])
            · refine stepOne_run trivial ?_
              intro a' w' hg hs hd
              have e88 : a'.eval (.tmp 88) = .pointer (some ⟨bb, o + k * 6 + 5, none⟩) := hd ⟨9, Ground.data⟩ (by simp) rfl
              have ec : ∀ v, a'.eval (.const v) = v := fun _ => rfl
              have ef : ∀ g, a'.eval (.func g) = .func (.func g) #[] #[] := fun _ => rfl
              obtain ⟨p0, p1, p2, p3, p4, p5⟩ := (HR1.out.later (Grow.trans' HG.out hg)).at k hkd; rw [← HY.out] at p0 p1 p2 p3 p4 p5
              clear hd hs
              refine wpv (v := .int .i64 y.n) ?_ ⟨_, rfl, Grow.rfl' _, rfl⟩
              (generalize a'.eval = ev at ec ef e88 ⊢; simp [execOp, go_sem, *])
          · intro a' w' hg hs hd
            have e79 : a'.eval (.tmp 79) = .pointer (some ⟨q, 0, none⟩) := hd 0 (by omega)
            have e84 : a'.eval (.tmp 84) = .agg #[.int .i64 (y.t).e, .int .i64 (y.t).d, .int .i64 (y.t).x, .int .i64 (y.t).y, .int .i64 (y.t).z] := hd 5 (by omega)
            have e89 : a'.eval (.tmp 89) = .int .i64 y.n := hd 10 (by omega)
            have ec : ∀ v, a'.eval (.const v) = v := fun _ => rfl
            have ef : ∀ g, a'.eval (.func g) = .func (.func g) #[] #[] := fun _ => rfl
            refine wpc ?_ ((HA.out w' (HB.out.later hg)).mono ?_)
            · (generalize a'.eval = ev at ec ef e79 e84 e89 ⊢; simp [execOp, go_sem, *])
            rintro e w5 ⟨t1, m1, c1, t2, m2, c2, rfl, hg3, hR3, -, -⟩
            refine ⟨_, rfl, ?_⟩
            have HG3 := hide (grow_step (Grow.trans' HG.out hg) hg3 hwc)
            have HB3 := hide hR3
            have HR3 := hide ((HR.out.later hg).far hg3 hpc hbc)
            have HQ3 := hide ((HQ.out.later hg).far hg3 hpc' hbc')
            clear hg3 hR3 e79 e84 e89 ec ef HG HR HQ HB hg
            rw [frame_eq hs [false, false, false, false, false, false, false, false, false, false, false, false, false, false, false, false, false, false, false, false, false, false, false, false, false, false, false, false, false, false, false, false, false, false, false, false, false, false, false, false, false, false, false, false, false, false, false, false, false, false, false, false, false, false, false, false, false, false, false, false, false, false, false, false, false, false, false, false, false, false, false, false, false, false, false, false, false, false, false, true, true, true, true, true, true, true, true, true, true, true, true, false, false, false, false, false, false, false, false, false, false, false, false, false, false, false, false, false, false, false, false, false, false, false, false, false, false, false, false, false, false, false, false, false, false, false, false, false, false, false, false, false, false, false, false, false, false, false, false, false] (by kernel_rfl)]; simp only [mergeL]; clear hs hd; generalize a'.tmps = TT at *; try go_frame
            go_wp2_with fail
            go_roundw
            case rel => exact ⟨k + 1, by omega, by omega, by go_num, HG3.out, HR3.out, HQ3.out, by rw [HS.out]; exact HB3.out⟩
            case measure => simp [intOf]; omega
        · have hy1 : ¬ (k : Int) < (n1 : Int) := (by omega)
          obtain ⟨B, hB⟩ : ∃ B, B = S.adds (d1.take k) := ⟨_, rfl⟩
          have hBO : B.ok := by rw [hB]; exact Cs.adds_ok HSO.out _
          rw [← hB] at HB
          have HBO := hide hBO
          clear hB hBO hlt hk hk30
          go_wp2_with fail
          refine (all_any p b S wr HSO.out HR.out).mono ?_
          rintro e w5 ⟨v, rfl, hb, sA, nA, cA, rfl, hI⟩
          have G5 := hide (Grow.trans' HG.out hb)
          have R5 := hide (HR.out.later hb)
          have Q5 := hide (HQ.out.later hb)
          have B5 := hide (HB.out.later hb)
          have I5 := hide hI
          have hnA : nA ≤ 400 := by have h1 := hI.1; have h2 := HSO.out.few; omega
          clear hb hI HG HR HQ HB hy1
          go_wp2_with fail
          refine (all_any p' b' S w5 HSO.out Q5.out).mono ?_
          rintro e w6 ⟨v, rfl, hb, sB, nB, cB, rfl, hI⟩
          have G6 := hide (Grow.trans' G5.out hb)
          have R6 := hide (R5.out.later hb)
          have Q6 := hide (Q5.out.later hb)
          have B6 := hide (B5.out.later hb)
          have C6 := hide (sameT_any sA sB cA cB nA nB S.T S.T true (by simp) w6 (by omega) (I5.out.later hb) hI)
          clear hb hI G5 R5 Q5 B5 I5
          go_wp2_with fail
          refine (C6.out).mono ?_
          rintro e w7 ⟨rfl, hb⟩
          have G7 := hide (Grow.trans' G6.out hb)
          have R7 := hide (R6.out.later hb)
          have Q7 := hide (Q6.out.later hb)
          have B7 := hide (B6.out.later hb)
          clear hb G6 R6 Q6 B6 C6
          go_wp2_with fail
          refine (front_any p b S w7 HSO.out R7.out).mono ?_
          rintro e w8 ⟨v, rfl, hb, sC, nC, cC, rfl, hI⟩
          have G8 := hide (Grow.trans' G7.out hb)
          have R8 := hide (R7.out.later hb)
          have Q8 := hide (Q7.out.later hb)
          have B8 := hide (B7.out.later hb)
          have I8 := hide hI
          have hnC : nC ≤ 400 := by have h1 := hI.1; have h2 := Cs.front_len HSO.out; omega
          clear hb hI G7 R7 Q7 B7
          go_wp2_with fail
          refine (front_any p' b' S w8 HSO.out Q8.out).mono ?_
          rintro e w9 ⟨v, rfl, hb, sE, nE, cE, rfl, hI⟩
          have G9 := hide (Grow.trans' G8.out hb)
          have R9 := hide (R8.out.later hb)
          have B9 := hide (B8.out.later hb)
          have C9 := hide (sameT_any sC sE cC cE nC nE S.front S.front true (by simp) w9 (by omega) (I8.out.later hb) hI)
          clear hb hI G8 R8 Q8 B8 I8
          go_wp2_with fail
          refine (C9.out).mono ?_
          rintro e w10 ⟨rfl, hb⟩
          have G10 := hide (Grow.trans' G9.out hb)
          have R10 := hide (R9.out.later hb)
          have B10 := hide (B9.out.later hb)
          clear hb G9 R9 B9 C9
          go_wp2_with fail
          refine (all_any q c B w10 HBO.out B10.out).mono ?_
          rintro e w11 ⟨v, rfl, hb, sG, nG, cG, rfl, hI⟩
          have G11 := hide (Grow.trans' G10.out hb)
          have R11 := hide (R10.out.later hb)
          have B11 := hide (B10.out.later hb)
          have I11 := hide hI
          have hnG : nG ≤ 400 := by have h1 := hI.1; have h2 := HBO.out.few; omega
          clear hb hI G10 R10 B10
          go_wp2_with fail
          refine (front_any q c B w11 HBO.out B11.out).mono ?_
          rintro e w12 ⟨v, rfl, hb, sH, nH, cH, rfl, hI⟩
          have G12 := hide (Grow.trans' G11.out hb)
          have R12 := hide (R11.out.later hb)
          have B12 := hide (B11.out.later hb)
          have I12 := hide (I11.out.later hb)
          have F12 := hide hI
          have hnH : nH ≤ 400 := by have h1 := hI.1; have h2 := Cs.front_len HBO.out; omega
          clear hb hI G11 R11 B11 I11
          go_wp2_with fail
          go_loopw [15] (fun i wr => ∃ (k : Nat) (S1 : Cs), k ≤ n ∧ k ≤ 30 ∧ i = .int .i64 k ∧ Grow w wr ∧ S1.ok ∧ RepC wr p b S1 ∧ RepC wr q c B ∧ IsTms wr sG nG cG B.T ∧ IsTms wr sH nH cH B.front) (fun i _ => 30 - (intOf i).toNat)
          case atStart => exact ⟨0, S, Nat.zero_le _, Nat.zero_le _, rfl, G12.out, HSO.out, R12.out, B12.out, I12.out, F12.out⟩
          case round =>
            obtain ⟨k, S1, hk, hk30, rfl, hg, hS1, hR, hB, hI, hF⟩ := hrel
            have HG := hide hg
            have HS1 := hide hS1
            have HR := hide hR
            have HB := hide hB
            have HI := hide hI
            have HF := hide hF
            clear hg hS1 hR hB hI hF G12 R12 B12 I12 F12
            by_cases hlt : k < n ∧ k < 30
            · obtain ⟨hlt, hlt30⟩ := hlt
              obtain ⟨bb, o, rfl, hr1, hkd⟩ := HD.out.see k (by omega)
              obtain ⟨y, hy⟩ : ∃ y, y = d[k] := ⟨_, rfl⟩
              obtain ⟨p0, p1, p2, p3, p4, p5⟩ := (hr1.later HG.out).at k hkd
              rw [← hy] at p0 p1 p2 p3 p4 p5
              have hi1 : (0 : Int) ≤ (k : Int) := by omega
              have hi2 : (k : Int) < (n : Int) := by omega
              have hi3 : (k : Int) < 30 := by omega
              clear hr1 hy
              go_wp2_with fail
              refine (add_any p b S1 y.t 7 wr HS1.out HR.out).mono ?_
              rintro e w13 ⟨t1, m1, c1, t2, m2, c2, rfl, hg3, hR3, -, -⟩
              have HG3 := hide (grow_step HG.out hg3 hwb)
              have HR3 := hide hR3
              have HB3 := hide (HB.out.far hg3 hqb (Ne.symm hbc))
              have HI3 := hide (HI.out.turn HR.out.map.block hg3)
              have HF3 := hide (HF.out.turn HR.out.map.block hg3)
              have HSA := hide (Cs.add_ok (t := y.t) (n := 7) HS1.out)
              clear hg3 hR3 p0 p1 p2 p3 p4 p5 HG HR HB HI HF
              go_wp2_with fail
              go_roundw
              case rel => exact ⟨k + 1, S1.add y.t 7, by omega, by omega, by go_num, HG3.out, HSA.out, HR3.out, HB3.out, HI3.out, HF3.out⟩
              case measure => simp [intOf]; omega
            · have hx1 : (k : Int) < (n : Int) := (by omega); have hx2 : ¬ (k : Int) < 30 := (by omega)
              clear hlt
              go_wp2_with fail
              refine (all_any q c B wr HBO.out HB.out).mono ?_
              rintro e w13 ⟨v, rfl, hb, sJ, nJ, cJ, rfl, hJ⟩
              have G13 := hide (Grow.trans' HG.out hb)
              have B13 := hide (HB.out.later hb)
              have F13 := hide (HF.out.later hb)
              have hnJ : nJ ≤ 400 := by have h1 := hJ.1; have h2 := HBO.out.few; omega
              have C13 := hide (sameT_any sJ sG cJ cG nJ nG B.T B.T true (by simp) w13 (by omega) hJ (HI.out.later hb))
              clear hb hJ HG HB HI HF HR
              go_wp2_with fail
              refine (C13.out).mono ?_
              rintro e w14 ⟨rfl, hb⟩
              have G14 := hide (Grow.trans' G13.out hb)
              have B14 := hide (B13.out.later hb)
              have F14 := hide (F13.out.later hb)
              clear hb G13 B13 F13 C13
              go_wp2_with fail
              refine (front_any q c B w14 HBO.out B14.out).mono ?_
              rintro e w15 ⟨v, rfl, hb, sK, nK, cK, rfl, hK⟩
              have G15 := hide (Grow.trans' G14.out hb)
              have hnK : nK ≤ 400 := by have h1 := hK.1; have h2 := Cs.front_len HBO.out; omega
              have C15 := hide (sameT_any sK sH cK cH nK nH B.front B.front true (by simp) w15 (by omega) hK (F14.out.later hb))
              clear hb hK G14 B14 F14
              go_wp2_with fail
              refine (C15.out).mono ?_
              rintro e w16 ⟨rfl, hb⟩
              have G16 := hide (Grow.trans' G15.out hb)
              clear hb G15 C15
              go_wp2_with fail
              go_ret
              exact ⟨rfl, G16.out⟩
set_option maxHeartbeats 4000000 in
theorem Apart_bb (s : Option Addr) (n cap : Nat) (d : List Opn) (s1 : Option Addr) (n1 cap1 : Nat) (d1 : List Opn) (w : World) (hn : 30 < n) (hm : 30 < n1) (hd : IsOps w s n cap d) (hd1 : IsOps w s1 n1 cap1 d1) :
    Calls Try.prog 8 #[.slice s n cap, .slice s1 n1 cap1] w fun e w' => e = .returned (.bool true) ∧ Grow w w' := by
  have HD := hide hd
  have HD1 := hide hd1
  clear hd hd1
  go_enter Try.func8, Try.ntmps8
  go_wp2_with fail
  refine (shown4_any w).mono ?_
  rintro e w1 ⟨rfl, hb⟩
  have G1 := hide hb
  clear hb
  go_wp2_with fail
  refine (new_any w1).mono ?_
  rintro e w2 ⟨p, b, rfl, hb, hR, hp1, hb1⟩
  have G2 := hide (Grow.trans' G1.out hb)
  have R2 := hide hR
  have hwb : w.heap.size ≤ b := by have := G1.out.size; omega
  have hpl : p < w2.heap.size := hR.lt
  have hbl : b < w2.heap.size := hR.map.lt
  clear hb hR G1 hp1 hb1
  go_wp2_with fail
  refine (new_any w2).mono ?_
  rintro e w3 ⟨p', b', rfl, hb, hR, hp1, hb1⟩
  have G3 := hide (Grow.trans' G2.out hb)
  have R3 := hide (R2.out.later hb)
  have Q3 := hide hR
  have hwb' : w.heap.size ≤ b' := by have := G2.out.size; omega
  have hpb : p ≠ b' := by omega
  have hbb : b ≠ b' := by omega
  have hpb' : p' ≠ b := by omega
  clear hb hR G2 R2 hp1 hb1 hpl hbl
  go_wp2_with fail
  go_loopw [8] (fun i wr => ∃ k : Nat, k ≤ n ∧ k ≤ 30 ∧ i = .int .i64 k ∧ Grow w wr ∧ RepC wr p b (Cs.none.adds (d.take k)) ∧ RepC wr p' b' (Cs.none.adds (d.take k))) (fun i _ => 30 - (intOf i).toNat)
  case atStart => exact ⟨0, Nat.zero_le _, Nat.zero_le _, rfl, G3.out, R3.out, Q3.out⟩
  case round =>
    obtain ⟨k, hk, hk30, rfl, hg, hR, hQ⟩ := hrel
    have HG := hide hg
    have HR := hide hR
    have HQ := hide hQ
    clear hg hR hQ G3 R3 Q3
    by_cases hlt : k < n ∧ k < 30
    · obtain ⟨hlt, hlt30⟩ := hlt
      obtain ⟨bb, o, rfl, hr1, hkd⟩ := HD.out.see k (by omega)
      have HR1 := hide hr1
      obtain ⟨y, hy⟩ : ∃ y, y = d[k] := ⟨_, rfl⟩
      have HY := hide hy
      have HS := hide (Cs.adds_take Cs.none d k hkd)
      rw [← hy] at HS
      have hi1 : (0 : Int) ≤ (k : Int) := by omega
      have hi2 : (k : Int) < (n : Int) := by omega
      have hi3 : (k : Int) < 30 := by omega
      have HA := hide (fun p b w' (h : RepC w' p b (Cs.none.adds (d.take k))) => add_any p b (Cs.none.adds (d.take k)) y.t y.n w' (Cs.adds_ok Cs.none_ok _) h)
      clear hr1 hy
      go_wp2_with fail
      refine wp_region_end (fun i vF wF => match i with | 0 => vF = .pointer (some ⟨p, 0, none⟩) | 1 => vF = .slice (some ⟨bb, o, none⟩) n cap | 2 => vF = .int .i64 (k : Int) | 3 => vF = .pointer (some ⟨bb, o + k * 6, none⟩) | 4 => vF = .pointer (some ⟨bb, o + k * 6, none⟩) | 5 => vF = .agg #[.int .i64 (y.t).e, .int .i64 (y.t).d, .int .i64 (y.t).x, .int .i64 (y.t).y, .int .i64 (y.t).z] | 6 => vF = .slice (some ⟨bb, o, none⟩) n cap | 7 => vF = .int .i64 (k : Int) | 8 => vF = .pointer (some ⟨bb, o + k * 6, none⟩) | 9 => vF = .pointer (some ⟨bb, o + k * 6 + 5, none⟩) | 10 => vF = .int .i64 y.n | _ => True) 11 _ rfl rfl rfl (by kernel_rfl) (by kernel_rfl) ?_ ?_ ?_
      · intro k v w1 w2 hg h
        match k with
        | 0 => exact h
        | 1 => exact h
        | 2 => exact h
        | 3 => exact h
        | 4 => exact h
        | 5 => exact h
        | 6 => exact h
        | 7 => exact h
        | 8 => exact h
        | 9 => exact h
        | 10 => exact h
        | k + 11 => exact trivial
      · refine ⟨?_, ?_, ?_, ?_, ?_, ?_, ?_, ?_, ?_, ?_, ?_, trivial⟩
        · refine stepOne_run trivial ?_
          intro a' w' hg hs hd
          have e6 : a'.eval (.tmp 6) = .pointer (some ⟨p, 0, none⟩) := hs.rest 6 rfl
          have ec : ∀ v, a'.eval (.const v) = v := fun _ => rfl
          have ef : ∀ g, a'.eval (.func g) = .func (.func g) #[] #[] := fun _ => rfl
          clear hd hs
          refine wpv (v := .pointer (some ⟨p, 0, none⟩)) ?_ ⟨_, rfl, Grow.rfl' _, rfl⟩
          (generalize a'.eval = ev at ec ef e6 ⊢; simp [execOp, go_sem, *])
        · refine stepOne_run trivial ?_
          intro a' w' hg hs hd
          have e0 : a'.eval (.tmp 0) = .slice (some ⟨bb, o, none⟩) n cap := hs.rest 0 rfl
          have ec : ∀ v, a'.eval (.const v) = v := fun _ => rfl
          have ef : ∀ g, a'.eval (.func g) = .func (.func g) #[] #[] := fun _ => rfl
          clear hd hs
          refine wpv (v := .slice (some ⟨bb, o, none⟩) n cap) ?_ ⟨_, rfl, Grow.rfl' _, rfl⟩
          (generalize a'.eval = ev at ec ef e0 ⊢; simp [execOp, go_sem, *])
        · refine stepOne_run trivial ?_
          intro a' w' hg hs hd
          have e8 : a'.eval (.tmp 8) = .int .i64 (k : Int) := hs.rest 8 rfl
          have ec : ∀ v, a'.eval (.const v) = v := fun _ => rfl
          have ef : ∀ g, a'.eval (.func g) = .func (.func g) #[] #[] := fun _ => rfl
          clear hd hs
          refine wpv (v := .int .i64 (k : Int)) ?_ ⟨_, rfl, Grow.rfl' _, rfl⟩
          (generalize a'.eval = ev at ec ef e8 ⊢; simp [execOp, go_sem, *])
        · refine stepOne_run trivial ?_
          intro a' w' hg hs hd
          have e42 : a'.eval (.tmp 42) = .slice (some ⟨bb, o, none⟩) n cap := hd ⟨1, Ground.data⟩ (by simp) rfl
          have e43 : a'.eval (.tmp 43) = .int .i64 (k : Int) := hd ⟨2, Ground.data⟩ (by simp) rfl
          have ec : ∀ v, a'.eval (.const v) = v := fun _ => rfl
          have ef : ∀ g, a'.eval (.func g) = .func (.func g) #[] #[] := fun _ => rfl
          clear hd hs
          refine wpv (v := .pointer (some ⟨bb, o + k * 6, none⟩)) ?_ ⟨_, rfl, Grow.rfl' _, rfl⟩
          (generalize a'.eval = ev at ec ef e42 e43 ⊢; simp [execOp, go_sem, *])
        · refine stepOne_run trivial ?_
          intro a' w' hg hs hd
          have e44 : a'.eval (.tmp 44) = .pointer (some ⟨bb, o + k * 6, none⟩) := hd ⟨3, Ground.data⟩ (by simp) rfl
          have ec : ∀ v, a'.eval (.const v) = v := fun _ => rfl
          have ef : ∀ g, a'.eval (.func g) = .func (.func g) #[] #[] := fun _ => rfl
          clear hd hs
          refine wpv (v := .pointer (some ⟨bb, o + k * 6, none⟩)) ?_ ⟨_, rfl, Grow.rfl' _, rfl⟩
          (generalize a'.eval = ev at ec ef e44 ⊢; simp [execOp, go_sem, *])
        · refine stepOne_run trivial ?_
          intro a' w' hg hs hd
          have e45 : a'.eval (.tmp 45) = .pointer (some ⟨bb, o + k * 6, none⟩) := hd ⟨4, Ground.data⟩ (by simp) rfl
          have ec : ∀ v, a'.eval (.const v) = v := fun _ => rfl
          have ef : ∀ g, a'.eval (.func g) = .func (.func g) #[] #[] := fun _ => rfl
          obtain ⟨p0, p1, p2, p3, p4, p5⟩ := (HR1.out.later (Grow.trans' HG.out hg)).at k hkd; rw [← HY.out] at p0 p1 p2 p3 p4 p5
          clear hd hs
          refine wpv (v := .agg #[.int .i64 (y.t).e, .int .i64 (y.t).d, .int .i64 (y.t).x, .int .i64 (y.t).y, .int .i64 (y.t).z]) ?_ ⟨_, rfl, Grow.rfl' _, rfl⟩
          (generalize a'.eval = ev at ec ef e45 ⊢; simp [execOp, go_sem, *])
        · refine stepOne_run trivial ?_
          intro a' w' hg hs hd
          have e0 : a'.eval (.tmp 0) = .slice (some ⟨bb, o, none⟩) n cap := hs.rest 0 rfl
          have ec : ∀ v, a'.eval (.const v) = v := fun _ => rfl
          have ef : ∀ g, a'.eval (.func g) = .func (.func g) #[] #[] := fun _ => rfl
          clear hd hs
          refine wpv (v := .slice (some ⟨bb, o, none⟩) n cap) ?_ ⟨_, rfl, Grow.rfl' _, rfl⟩
          (generalize a'.eval = ev at ec ef e0 ⊢; simp [execOp, go_sem, *])
        · refine stepOne_run trivial ?_
          intro a' w' hg hs hd
          have e8 : a'.eval (.tmp 8) = .int .i64 (k : Int) := hs.rest 8 rfl
          have ec : ∀ v, a'.eval (.const v) = v := fun _ => rfl
          have ef : ∀ g, a'.eval (.func g) = .func (.func g) #[] #[] := fun _ => rfl
          clear hd hs
          refine wpv (v := .int .i64 (k : Int)) ?_ ⟨_, rfl, Grow.rfl' _, rfl⟩
          (generalize a'.eval = ev at ec ef e8 ⊢; simp [execOp, go_sem, *])
        · refine stepOne_run trivial ?_
          intro a' w' hg hs hd
          have e47 : a'.eval (.tmp 47) = .slice (some ⟨bb, o, none⟩) n cap := hd ⟨6, Ground.data⟩ (by simp) rfl
          have e48 : a'.eval (.tmp 48) = .int .i64 (k : Int) := hd ⟨7, Ground.data⟩ (by simp) rfl
          have ec : ∀ v, a'.eval (.const v) = v := fun _ => rfl
          have ef : ∀ g, a'.eval (.func g) = .func (.func g) #[] #[] := fun _ => rfl
          clear hd hs
          refine wpv (v := .pointer (some ⟨bb, o + k * 6, none⟩)) ?_ ⟨_, rfl, Grow.rfl' _, rfl⟩
          (generalize a'.eval = ev at ec ef e47 e48 ⊢; simp [execOp, go_sem, *])
        · refine stepOne_run trivial ?_
          intro a' w' hg hs hd
          have e49 : a'.eval (.tmp 49) = .pointer (some ⟨bb, o + k * 6, none⟩) := hd ⟨8, Ground.data⟩ (by simp) rfl
          have ec : ∀ v, a'.eval (.const v) = v := fun _ => rfl
          have ef : ∀ g, a'.eval (.func g) = .func (.func g) #[] #[] := fun _ => rfl
          clear hd hs
          refine wpv (v := .pointer (some ⟨bb, o + k * 6 + 5, none⟩)) ?_ ⟨_, rfl, Grow.rfl' _, rfl⟩
          (generalize a'.eval = ev at ec ef e49 ⊢; simp [execOp, go_sem, *])
        · refine stepOne_run trivial ?_
          intro a' w' hg hs hd
          have e50 : a'.eval (.tmp 50) = .pointer (some ⟨bb, o + k * 6 + 5, none⟩) := hd ⟨9, Ground.data⟩ (by simp) rfl
          have ec : ∀ v, a'.eval (.const v) = v := fun _ => rfl
          have ef : ∀ g, a'.eval (.func g) = .func (.func g) #[] #[] := fun _ => rfl
          obtain ⟨p0, p1, p2, p3, p4, p5⟩ := (HR1.out.later (Grow.trans' HG.out hg)).at k hkd; rw [← HY.out] at p0 p1 p2 p3 p4 p5
          clear hd hs
          refine wpv (v := .int .i64 y.n) ?_ ⟨_, rfl, Grow.rfl' _, rfl⟩
          (generalize a'.eval = ev at ec ef e50 ⊢; simp [execOp, go_sem, *])
      · intro a' w' hg hs hd
        have e41 : a'.eval (.tmp 41) = .pointer (some ⟨p, 0, none⟩) := hd 0 (by omega)
        have e46 : a'.eval (.tmp 46) = .agg #[.int .i64 (y.t).e, .int .i64 (y.t).d, .int .i64 (y.t).x, .int .i64 (y.t).y, .int .i64 (y.t).z] := hd 5 (by omega)
        have e51 : a'.eval (.tmp 51) = .int .i64 y.n := hd 10 (by omega)
        have ec : ∀ v, a'.eval (.const v) = v := fun _ => rfl
        have ef : ∀ g, a'.eval (.func g) = .func (.func g) #[] #[] := fun _ => rfl
        refine wpc ?_ ((HA.out p b w' (HR.out.later hg)).mono ?_)
        · (generalize a'.eval = ev at ec ef e41 e46 e51 ⊢; simp [execOp, go_sem, *])
        rintro e w4 ⟨t1, m1, c1, t2, m2, c2, rfl, hg3, hR3, -, -⟩
        refine ⟨_, rfl, ?_⟩
        have HG3 := hide (grow_step (Grow.trans' HG.out hg) hg3 hwb)
        have HR3 := hide hR3
        have HQ3 := hide ((HQ.out.later hg).far hg3 hpb' (Ne.symm hbb))
        clear hg3 hR3 e41 e46 e51 ec ef HG HR HQ hg
        rw [frame_eq hs [false, false, false, false, false, false, false, false, false, false, false, false, false, false, false, false, false, false, false, false, false, false, false, false, false, false, false, false, false, false, false, false, false, false, false, false, false, false, false, false, false, true, true, true, true, true, true, true, true, true, true, true, true, false, false, false, false, false, false, false, false, false, false, false, false, false, false, false, false, false, false, false, false, false, false, false, false, false, false, false, false, false, false, false, false, false, false, false, false, false, false, false, false, false, false, false, false, false, false, false, false, false, false, false, false, false, false, false, false, false, false, false, false, false, false, false, false, false, false, false, false, false, false, false, false, false, false, false, false, false, false, false, false, false, false, false, false, false, false, false] (by kernel_rfl)]; simp only [mergeL]; clear hs hd; generalize a'.tmps = TT at *; try go_frame
        go_wp2_with fail
        refine wp_region_end (fun i vF wF => match i with | 0 => vF = .pointer (some ⟨p', 0, none⟩) | 1 => vF = .slice (some ⟨bb, o, none⟩) n cap | 2 => vF = .int .i64 (k : Int) | 3 => vF = .pointer (some ⟨bb, o + k * 6, none⟩) | 4 => vF = .pointer (some ⟨bb, o + k * 6, none⟩) | 5 => vF = .agg #[.int .i64 (y.t).e, .int .i64 (y.t).d, .int .i64 (y.t).x, .int .i64 (y.t).y, .int .i64 (y.t).z] | 6 => vF = .slice (some ⟨bb, o, none⟩) n cap | 7 => vF = .int .i64 (k : Int) | 8 => vF = .pointer (some ⟨bb, o + k * 6, none⟩) | 9 => vF = .pointer (some ⟨bb, o + k * 6 + 5, none⟩) | 10 => vF = .int .i64 y.n | _ => True) 11 _ rfl rfl rfl (by kernel_rfl) (by kernel_rfl) ?_ ?_ ?_
        · intro k v w1 w2 hg h
          match k with
          | 0 => exact h
          | 1 => exact h
          | 2 => exact h
          | 3 => exact h
          | 4 => exact h
          | 5 => exact h
          | 6 => exact h
          | 7 => exact h
          | 8 => exact h
          | 9 => exact h
          | 10 => exact h
          | k + 11 => exact trivial
        · refine ⟨?_, ?_, ?_, ?_, ?_, ?_, ?_, ?_, ?_, ?_, ?_, trivial⟩
          · refine stepOne_run trivial ?_
            intro a' w' hg hs hd
            have e7 : a'.eval (.tmp 7) = .pointer (some ⟨p', 0, none⟩) := hs.rest 7 rfl
            have ec : ∀ v, a'.eval (.const v) = v := fun _ => rfl
            have ef : ∀ g, a'.eval (.func g) = .func (.func g) #[] #[] := fun _ => rfl
            clear hd hs
            refine wpv (v := .pointer (some ⟨p', 0, none⟩)) ?_ ⟨_, rfl, Grow.rfl' _, rfl⟩
            (generalize a'.eval = ev at ec ef e7 ⊢; simp [execOp, go_sem, *])
          · refine stepOne_run trivial ?_
            intro a' w' hg hs hd
            have e0 : a'.eval (.tmp 0) = .slice (some ⟨bb, o, none⟩) n cap := hs.rest 0 rfl
            have ec : ∀ v, a'.eval (.const v) = v := fun _ => rfl
            have ef : ∀ g, a'.eval (.func g) = .func (.func g) #[] #[] := fun _ => rfl
            clear hd hs
            refine wpv (v := .slice (some ⟨bb, o, none⟩) n cap) ?_ ⟨_, rfl, Grow.rfl' _, rfl⟩
            (generalize a'.eval = ev at ec ef e0 ⊢; simp [execOp, go_sem, *])
          · refine stepOne_run trivial ?_
            intro a' w' hg hs hd
            have e8 : a'.eval (.tmp 8) = .int .i64 (k : Int) := hs.rest 8 rfl
            have ec : ∀ v, a'.eval (.const v) = v := fun _ => rfl
            have ef : ∀ g, a'.eval (.func g) = .func (.func g) #[] #[] := fun _ => rfl
            clear hd hs
            refine wpv (v := .int .i64 (k : Int)) ?_ ⟨_, rfl, Grow.rfl' _, rfl⟩
            (generalize a'.eval = ev at ec ef e8 ⊢; simp [execOp, go_sem, *])
          · refine stepOne_run trivial ?_
            intro a' w' hg hs hd
            have e54 : a'.eval (.tmp 54) = .slice (some ⟨bb, o, none⟩) n cap := hd ⟨1, Ground.data⟩ (by simp) rfl
            have e55 : a'.eval (.tmp 55) = .int .i64 (k : Int) := hd ⟨2, Ground.data⟩ (by simp) rfl
            have ec : ∀ v, a'.eval (.const v) = v := fun _ => rfl
            have ef : ∀ g, a'.eval (.func g) = .func (.func g) #[] #[] := fun _ => rfl
            clear hd hs
            refine wpv (v := .pointer (some ⟨bb, o + k * 6, none⟩)) ?_ ⟨_, rfl, Grow.rfl' _, rfl⟩
            (generalize a'.eval = ev at ec ef e54 e55 ⊢; simp [execOp, go_sem, *])
          · refine stepOne_run trivial ?_
            intro a' w' hg hs hd
            have e56 : a'.eval (.tmp 56) = .pointer (some ⟨bb, o + k * 6, none⟩) := hd ⟨3, Ground.data⟩ (by simp) rfl
            have ec : ∀ v, a'.eval (.const v) = v := fun _ => rfl
            have ef : ∀ g, a'.eval (.func g) = .func (.func g) #[] #[] := fun _ => rfl
            clear hd hs
            refine wpv (v := .pointer (some ⟨bb, o + k * 6, none⟩)) ?_ ⟨_, rfl, Grow.rfl' _, rfl⟩
            (generalize a'.eval = ev at ec ef e56 ⊢; simp [execOp, go_sem, *])
          · refine stepOne_run trivial ?_
            intro a' w' hg hs hd
            have e57 : a'.eval (.tmp 57) = .pointer (some ⟨bb, o + k * 6, none⟩) := hd ⟨4, Ground.data⟩ (by simp) rfl
            have ec : ∀ v, a'.eval (.const v) = v := fun _ => rfl
            have ef : ∀ g, a'.eval (.func g) = .func (.func g) #[] #[] := fun _ => rfl
            obtain ⟨p0, p1, p2, p3, p4, p5⟩ := (HR1.out.later (Grow.trans' HG3.out hg)).at k hkd; rw [← HY.out] at p0 p1 p2 p3 p4 p5
            clear hd hs
            refine wpv (v := .agg #[.int .i64 (y.t).e, .int .i64 (y.t).d, .int .i64 (y.t).x, .int .i64 (y.t).y, .int .i64 (y.t).z]) ?_ ⟨_, rfl, Grow.rfl' _, rfl⟩
            (generalize a'.eval = ev at ec ef e57 ⊢; simp [execOp, go_sem, *])
          · refine stepOne_run trivial ?_
            intro a' w' hg hs hd
            have e0 : a'.eval (.tmp 0) = .slice (some ⟨bb, o, none⟩) n cap := hs.rest 0 rfl
            have ec : ∀ v, a'.eval (.const v) = v := fun _ => rfl
            have ef : ∀ g, a'.eval (.func g) = .func (.func g) #[] #[] := fun _ => rfl
            clear hd hs
            refine wpv (v := .slice (some ⟨bb, o, none⟩) n cap) ?_ ⟨_, rfl, Grow.rfl' _, rfl⟩
            (generalize a'.eval = ev at ec ef e0 ⊢; simp [execOp, go_sem, *])
          · refine stepOne_run trivial ?_
            intro a' w' hg hs hd
            have e8 : a'.eval (.tmp 8) = .int .i64 (k : Int) := hs.rest 8 rfl
            have ec : ∀ v, a'.eval (.const v) = v := fun _ => rfl
            have ef : ∀ g, a'.eval (.func g) = .func (.func g) #[] #[] := fun _ => rfl
            clear hd hs
            refine wpv (v := .int .i64 (k : Int)) ?_ ⟨_, rfl, Grow.rfl' _, rfl⟩
            (generalize a'.eval = ev at ec ef e8 ⊢; simp [execOp, go_sem, *])
          · refine stepOne_run trivial ?_
            intro a' w' hg hs hd
            have e59 : a'.eval (.tmp 59) = .slice (some ⟨bb, o, none⟩) n cap := hd ⟨6, Ground.data⟩ (by simp) rfl
            have e60 : a'.eval (.tmp 60) = .int .i64 (k : Int) := hd ⟨7, Ground.data⟩ (by simp) rfl
            have ec : ∀ v, a'.eval (.const v) = v := fun _ => rfl
            have ef : ∀ g, a'.eval (.func g) = .func (.func g) #[] #[] := fun _ => rfl
            clear hd hs
            refine wpv (v := .pointer (some ⟨bb, o + k * 6, none⟩)) ?_ ⟨_, rfl, Grow.rfl' _, rfl⟩
            (generalize a'.eval = ev at ec ef e59 e60 ⊢; simp [execOp, go_sem, *])
          · refine stepOne_run trivial ?_
            intro a' w' hg hs hd
            have e61 : a'.eval (.tmp 61) = .pointer (some ⟨bb, o + k * 6, none⟩) := hd ⟨8, Ground.data⟩ (by simp) rfl
            have ec : ∀ v, a'.eval (.const v) = v := fun _ => rfl
            have ef : ∀ g, a'.eval (.func g) = .func (.func g) #[] #[] := fun _ => rfl
            clear hd hs
            refine wpv (v := .pointer (some ⟨bb, o + k * 6 + 5, none⟩)) ?_ ⟨_, rfl, Grow.rfl' _, rfl⟩
            (generalize a'.eval = ev at ec ef e61 ⊢; simp [execOp, go_sem, *])
          · refine stepOne_run trivial ?_
            intro a' w' hg hs hd
            have e62 : a'.eval (.tmp 62) = .pointer (some ⟨bb, o + k * 6 + 5, none⟩) := hd ⟨9, Ground.data⟩ (by simp) rfl
            have ec : ∀ v, a'.eval (.const v) = v := fun _ => rfl
            have ef : ∀ g, a'.eval (.func g) = .func (.func g) #[] #[] := fun _ => rfl
            obtain ⟨p0, p1, p2, p3, p4, p5⟩ := (HR1.out.later (Grow.trans' HG3.out hg)).at k hkd; rw [← HY.out] at p0 p1 p2 p3 p4 p5
            clear hd hs
            refine wpv (v := .int .i64 y.n) ?_ ⟨_, rfl, Grow.rfl' _, rfl⟩
            (generalize a'.eval = ev at ec ef e62 ⊢; simp [execOp, go_sem, *])
        · intro a' w' hg hs hd
          have e53 : a'.eval (.tmp 53) = .pointer (some ⟨p', 0, none⟩) := hd 0 (by omega)
          have e58 : a'.eval (.tmp 58) = .agg #[.int .i64 (y.t).e, .int .i64 (y.t).d, .int .i64 (y.t).x, .int .i64 (y.t).y, .int .i64 (y.t).z] := hd 5 (by omega)
          have e63 : a'.eval (.tmp 63) = .int .i64 y.n := hd 10 (by omega)
          have ec : ∀ v, a'.eval (.const v) = v := fun _ => rfl
          have ef : ∀ g, a'.eval (.func g) = .func (.func g) #[] #[] := fun _ => rfl
          refine wpc ?_ ((HA.out p' b' w' (HQ3.out.later hg)).mono ?_)
          · (generalize a'.eval = ev at ec ef e53 e58 e63 ⊢; simp [execOp, go_sem, *])
          rintro e w5 ⟨t3, m3, c3, t4, m4, c4, rfl, hg5, hR5, -, -⟩
          refine ⟨_, rfl, ?_⟩
          have HG5 := hide (grow_step (Grow.trans' HG3.out hg) hg5 hwb')
          have HQ5 := hide hR5
          have HR5 := hide ((HR3.out.later hg).far hg5 hpb hbb)
          clear hg5 hR5 e53 e58 e63 ec ef HG3 HR3 HQ3 hg
          rw [frame_eq hs [false, false, false, false, false, false, false, false, false, false, false, false, false, false, false, false, false, false, false, false, false, false, false, false, false, false, false, false, false, false, false, false, false, false, false, false, false, false, false, false, false, false, false, false, false, false, false, false, false, false, false, false, false, true, true, true, true, true, true, true, true, true, true, true, true, false, false, false, false, false, false, false, false, false, false, false, false, false, false, false, false, false, false, false, false, false, false, false, false, false, false, false, false, false, false, false, false, false, false, false, false, false, false, false, false, false, false, false, false, false, false, false, false, false, false, false, false, false, false, false, false, false, false, false, false, false, false, false, false, false, false, false, false, false, false, false, false, false, false, false] (by kernel_rfl)]; simp only [mergeL]; clear hs hd; generalize a'.tmps = TT at *; try go_frame
          go_wp2_with fail
          go_roundw
          case rel => exact ⟨k + 1, by omega, by omega, by go_num, HG5.out, by rw [HS.out]; exact HR5.out, by rw [HS.out]; exact HQ5.out⟩
          case measure => simp [intOf]; omega
    · have hx1 : (k : Int) < (n : Int) := (by omega); have hx2 : ¬ (k : Int) < 30 := (by omega)
      obtain ⟨S, hS⟩ : ∃ S, S = Cs.none.adds (d.take k) := ⟨_, rfl⟩
      have hSO : S.ok := by rw [hS]; exact Cs.adds_ok Cs.none_ok _
      rw [← hS] at HR HQ
      have HSO := hide hSO
      clear hS hSO hlt
      go_wp2_with fail
      refine (clone_any p b S wr HR.out).mono ?_
      rintro e w4 ⟨q, c, rfl, hb, hR, hp1, hb1⟩
      have G4 := hide (Grow.trans' HG.out hb)
      have R4 := hide (HR.out.later hb)
      have Q4 := hide (HQ.out.later hb)
      have B4 := hide hR
      have hpl : p < wr.heap.size := HR.out.lt
      have hbl : b < wr.heap.size := HR.out.map.lt
      have hpl' : p' < wr.heap.size := HQ.out.lt
      have hbl' : b' < wr.heap.size := HQ.out.map.lt
      have hwc : w.heap.size ≤ c := by have := HG.out.size; omega
      have hpc : p ≠ c := by omega
      have hbc : b ≠ c := by omega
      have hpc' : p' ≠ c := by omega
      have hbc' : b' ≠ c := by omega
      have hqb : q ≠ b := by omega
      clear hb hR HG HR HQ hp1 hb1 hpl hbl hpl' hbl'
      clear hk hk30 hx1 hx2
      go_wp2_with fail
      go_loopw [10] (fun i wr => ∃ k : Nat, k ≤ n1 ∧ k ≤ 30 ∧ i = .int .i64 k ∧ Grow w wr ∧ RepC wr p b S ∧ RepC wr p' b' S ∧ RepC wr q c (S.adds (d1.take k))) (fun i _ => 30 - (intOf i).toNat)
      case atStart => exact ⟨0, Nat.zero_le _, Nat.zero_le _, rfl, G4.out, R4.out, Q4.out, B4.out⟩
      case round =>
        obtain ⟨k, hk, hk30, rfl, hg, hR, hQ, hB⟩ := hrel
        have HG := hide hg
        have HR := hide hR
        have HQ := hide hQ
        have HB := hide hB
        clear hg hR hQ hB G4 R4 Q4 B4
        by_cases hlt : k < n1 ∧ k < 30
        · obtain ⟨hlt, hlt30⟩ := hlt
          obtain ⟨bb, o, rfl, hr1, hkd⟩ := HD1.out.see k (by omega)
          have HR1 := hide hr1
          obtain ⟨y, hy⟩ : ∃ y, y = d1[k] := ⟨_, rfl⟩
          have HY := hide hy
          have HS := hide (Cs.adds_take S d1 k hkd)
          rw [← hy] at HS
          have hi1 : (0 : Int) ≤ (k : Int) := by omega
          have hi2 : (k : Int) < (n1 : Int) := by omega
          have hi3 : (k : Int) < 30 := by omega
          have HA := hide (fun w' (h : RepC w' q c (S.adds (d1.take k))) => add_any q c (S.adds (d1.take k)) y.t y.n w' (Cs.adds_ok HSO.out _) h)
          clear hr1 hy
          go_wp2_with fail
          refine wp_region_end (fun i vF wF => match i with | 0 => vF = .pointer (some ⟨q, 0, none⟩) | 1 => vF = .slice (some ⟨bb, o, none⟩) n1 cap1 | 2 => vF = .int .i64 (k : Int) | 3 => vF = .pointer (some ⟨bb, o + k * 6, none⟩) | 4 => vF = .pointer (some ⟨bb, o + k * 6, none⟩) | 5 => vF = .agg #[.int .i64 (y.t).e, .int .i64 (y.t).d, .int .i64 (y.t).x, .int .i64 (y.t).y, .int .i64 (y.t).z] | 6 => vF = .slice (some ⟨bb, o, none⟩) n1 cap1 | 7 => vF = .int .i64 (k : Int) | 8 => vF = .pointer (some ⟨bb, o + k * 6, none⟩) | 9 => vF = .pointer (some ⟨bb, o + k * 6 + 5, none⟩) | 10 => vF = .int .i64 y.n | _ => True) 11 _ rfl rfl rfl (by kernel_rfl) (by kernel_rfl) ?_ ?_ ?_
          · intro k v w1 w2 hg h
            match k with
            | 0 => exact h
            | 1 => exact h
            | 2 => exact h
            | 3 => exact h
            | 4 => exact h
            | 5 => exact h
            | 6 => exact h
            | 7 => exact h
            | 8 => exact h
            | 9 => exact h
            | 10 => exact h
            | k + 11 => exact trivial
          · refine ⟨?_, ?_, ?_, ?_, ?_, ?_, ?_, ?_, ?_, ?_, ?_, trivial⟩
            · refine stepOne_run trivial ?_
              intro a' w' hg hs hd
              have e9 : a'.eval (.tmp 9) = .pointer (some ⟨q, 0, none⟩) := hs.rest 9 rfl
              have ec : ∀ v, a'.eval (.const v) = v := fun _ => rfl
              have ef : ∀ g, a'.eval (.func g) = .func (.func g) #[] #[] := fun _ => rfl
              clear hd hs
              refine wpv (v := .pointer (some ⟨q, 0, none⟩)) ?_ ⟨_, rfl, Grow.rfl' _, rfl⟩
              (generalize a'.eval = ev at ec ef e9 ⊢; simp [execOp, go_sem, *])
            · refine stepOne_run trivial ?_
              intro a' w' hg hs hd
              have e1 : a'.eval (.tmp 1) = .slice (some ⟨bb, o, none⟩) n1 cap1 := hs.rest 1 rfl
              have ec : ∀ v, a'.eval (.const v) = v := fun _ => rfl
              have ef : ∀ g, a'.eval (.func g) = .func (.func g) #[] #[] := fun _ => rfl
              clear hd hs
              refine wpv (v := .slice (some ⟨bb, o, none⟩) n1 cap1) ?_ ⟨_, rfl, Grow.rfl' _, rfl⟩
              (generalize a'.eval = ev at ec ef e1 ⊢; simp [execOp, go_sem, *])
            · refine stepOne_run trivial ?_
              intro a' w' hg hs hd
              have e10 : a'.eval (.tmp 10) = .int .i64 (k : Int) := hs.rest 10 rfl
              have ec : ∀ v, a'.eval (.const v) = v := fun _ => rfl
              have ef : ∀ g, a'.eval (.func g) = .func (.func g) #[] #[] := fun _ => rfl
              clear hd hs
              refine wpv (v := .int .i64 (k : Int)) ?_ ⟨_, rfl, Grow.rfl' _, rfl⟩
              (generalize a'.eval = ev at ec ef e10 ⊢; simp [execOp, go_sem, *])
            · refine stepOne_run trivial ?_
              intro a' w' hg hs hd
              have e80 : a'.eval (.tmp 80) = .slice (some ⟨bb, o, none⟩) n1 cap1 := hd ⟨1, Ground.data⟩ (by simp) rfl
              have e81 : a'.eval (.tmp 81) = .int .i64 (k : Int) := hd ⟨2, Ground.data⟩ (by simp) rfl
              have ec : ∀ v, a'.eval (.const v) = v := fun _ => rfl
              have ef : ∀ g, a'.eval (.func g) = .func (.func g) #[] #[] := fun _ => rfl
              clear hd hs
              refine wpv (v := .pointer (some ⟨bb, o + k * 6, none⟩)) ?_ ⟨_, rfl, Grow.rfl' _, rfl⟩
              (generalize a'.eval = ev at ec ef e80 e81 ⊢; simp [execOp, go_sem, *])
            · refine stepOne_run trivial ?_
              intro a' w' hg hs hd
              have e82 : a'.eval (.tmp 82) = .pointer (some ⟨bb, o + k * 6, none⟩) := hd ⟨3, Ground.data⟩ (by simp) rfl
              have ec : ∀ v, a'.eval (.const v) = v := fun _ => rfl
              have ef : ∀ g, a'.eval (.func g) = .func (.func g) #[] #[] := fun _ => rfl
              clear hd hs
              refine wpv (v := .pointer (some ⟨bb, o + k * 6, none⟩)) ?_ ⟨_, rfl, Grow.rfl' _, rfl⟩
              (generalize a'.eval = ev at ec ef e82 ⊢; simp [execOp, go_sem, *])
            · refine stepOne_run trivial ?_
              intro a' w' hg hs hd
              have e83 : a'.eval (.tmp 83) = .pointer (some ⟨bb, o + k * 6, none⟩) := hd ⟨4, Ground.data⟩ (by simp) rfl
              have ec : ∀ v, a'.eval (.const v) = v := fun _ => rfl
              have ef : ∀ g, a'.eval (.func g) = .func (.func g) #[] #[] := fun _ => rfl
              obtain ⟨p0, p1, p2, p3, p4, p5⟩ := (HR1.out.later (Grow.trans' HG.out hg)).at k hkd; rw [← HY.out] at p0 p1 p2 p3 p4 p5
              clear hd hs
              refine wpv (v := .agg #[.int .i64 (y.t).e, .int .i64 (y.t).d, .int .i64 (y.t).x, .int .i64 (y.t).y, .int .i64 (y.t).z]) ?_ ⟨_, rfl, Grow.rfl' _, rfl⟩
              (generalize a'.eval = ev at ec ef e83 ⊢; simp [execOp, go_sem, *])
            · refine stepOne_run trivial ?_
              intro a' w' hg hs hd
              have e1 : a'.eval (.tmp 1) = .slice (some ⟨bb, o, none⟩) n1 cap1 := hs.rest 1 rfl
              have ec : ∀ v, a'.eval (.const v) = v := fun _ => rfl
              have ef : ∀ g, a'.eval (.func g) = .func (.func g) #[] #[] := fun _ => rfl
              clear hd hs
              refine wpv (v := .slice (some ⟨bb, o, none⟩) n1 cap1) ?_ ⟨_, rfl, Grow.rfl' _, rfl⟩
              (generalize a'.eval = ev at ec ef e1 ⊢; simp [execOp, go_sem, *])
            · refine stepOne_run trivial ?_
              intro a' w' hg hs hd
              have e10 : a'.eval (.tmp 10) = .int .i64 (k : Int) := hs.rest 10 rfl
              have ec : ∀ v, a'.eval (.const v) = v := fun _ => rfl
              have ef : ∀ g, a'.eval (.func g) = .func (.func g) #[] #[] := fun _ => rfl
              clear hd hs
              refine wpv (v := .int .i64 (k : Int)) ?_ ⟨_, rfl, Grow.rfl' _, rfl⟩
              (generalize a'.eval = ev at ec ef e10 ⊢; simp [execOp, go_sem, *])
            · refine stepOne_run trivial ?_
              intro a' w' hg hs hd
              have e85 : a'.eval (.tmp 85) = .slice (some ⟨bb, o, none⟩) n1 cap1 := hd ⟨6, Ground.data⟩ (by simp) rfl
              have e86 : a'.eval (.tmp 86) = .int .i64 (k : Int) := hd ⟨7, Ground.data⟩ (by simp) rfl
              have ec : ∀ v, a'.eval (.const v) = v := fun _ => rfl
              have ef : ∀ g, a'.eval (.func g) = .func (.func g) #[] #[] := fun _ => rfl
              clear hd hs
              refine wpv (v := .pointer (some ⟨bb, o + k * 6, none⟩)) ?_ ⟨_, rfl, Grow.rfl' _, rfl⟩
              (generalize a'.eval = ev at ec ef e85 e86 ⊢; simp [execOp, go_sem, *])
            · refine stepOne_run trivial ?_
              intro a' w' hg hs hd
              have e87 : a'.eval (.tmp 87) = .pointer (some ⟨bb, o + k * 6, none⟩) := hd ⟨8, Ground.data⟩ (by simp) rfl
              have ec : ∀ v, a'.eval (.const v) = v := fun _ => rfl
              have ef : ∀ g, a'.eval (.func g) = .func (.func g) #[] #[] := fun _ => rfl
              clear hd hs
              refine wpv (v := .pointer (some ⟨bb, o + k * 6 + 5, none⟩)) ?_ ⟨_, rfl, Grow.rfl' _, rfl⟩
              (generalize a'.eval = ev at ec ef e87 ⊢; simp [execOp, go_sem, *])
            · refine stepOne_run trivial ?_
              intro a' w' hg hs hd
              have e88 : a'.eval (.tmp 88) = .pointer (some ⟨bb, o + k * 6 + 5, none⟩) := hd ⟨9, Ground.data⟩ (by simp) rfl
              have ec : ∀ v, a'.eval (.const v) = v := fun _ => rfl
              have ef : ∀ g, a'.eval (.func g) = .func (.func g) #[] #[] := fun _ => rfl
              obtain ⟨p0, p1, p2, p3, p4, p5⟩ := (HR1.out.later (Grow.trans' HG.out hg)).at k hkd; rw [← HY.out] at p0 p1 p2 p3 p4 p5
              clear hd hs
              refine wpv (v := .int .i64 y.n) ?_ ⟨_, rfl, Grow.rfl' _, rfl⟩
              (generalize a'.eval = ev at ec ef e88 ⊢; simp [execOp, go_sem, *])
          · intro a' w' hg hs hd
            have e79 : a'.eval (.tmp 79) = .pointer (some ⟨q, 0, none⟩) := hd 0 (by omega)
            have e84 : a'.eval (.tmp 84) = .agg #[.int .i64 (y.t).e, .int .i64 (y.t).d, .int .i64 (y.t).x, .int .i64 (y.t).y, .int .i64 (y.t).z] := hd 5 (by omega)
            have e89 : a'.eval (.tmp 89) = .int .i64 y.n := hd 10 (by omega)
            have ec : ∀ v, a'.eval (.const v) = v := fun _ => rfl
            have ef : ∀ g, a'.eval (.func g) = .func (.func g) #[] #[] := fun _ => rfl
            refine wpc ?_ ((HA.out w' (HB.out.later hg)).mono ?_)
            · (generalize a'.eval = ev at ec ef e79 e84 e89 ⊢; simp [execOp, go_sem, *])
            rintro e w5 ⟨t1, m1, c1, t2, m2, c2, rfl, hg3, hR3, -, -⟩
            refine ⟨_, rfl, ?_⟩
            have HG3 := hide (grow_step (Grow.trans' HG.out hg) hg3 hwc)
            have HB3 := hide hR3
            have HR3 := hide ((HR.out.later hg).far hg3 hpc hbc)
            have HQ3 := hide ((HQ.out.later hg).far hg3 hpc' hbc')
            clear hg3 hR3 e79 e84 e89 ec ef HG HR HQ HB hg
            rw [frame_eq hs [false, false, false, false, false, false, false, false, false, false, false, false, false, false, false, false, false, false, false, false, false, false, false, false, false, false, false, false, false, false, false, false, false, false, false, false, false, false, false, false, false, false, false, false, false, false, false, false, false, false, false, false, false, false, false, false, false, false, false, false, false, false, false, false, false, false, false, false, false, false, false, false, false, false, false, false, false, false, false, true, true, true, true, true, true, true, true, true, true, true, true, false, false, false, false, false, false, false, false, false, false, false, false, false, false, false, false, false, false, false, false, false, false, false, false, false, false, false, false, false, false, false, false, false, false, false, false, false, false, false, false, false, false, false, false, false, false, false, false, false] (by kernel_rfl)]; simp only [mergeL]; clear hs hd; generalize a'.tmps = TT at *; try go_frame
            go_wp2_with fail
            go_roundw
            case rel => exact ⟨k + 1, by omega, by omega, by go_num, HG3.out, HR3.out, HQ3.out, by rw [HS.out]; exact HB3.out⟩
            case measure => simp [intOf]; omega
        · have hy1 : (k : Int) < (n1 : Int) := (by omega); have hy2 : ¬ (k : Int) < 30 := (by omega)
          obtain ⟨B, hB⟩ : ∃ B, B = S.adds (d1.take k) := ⟨_, rfl⟩
          have hBO : B.ok := by rw [hB]; exact Cs.adds_ok HSO.out _
          rw [← hB] at HB
          have HBO := hide hBO
          clear hB hBO hlt hk hk30
          go_wp2_with fail
          refine (all_any p b S wr HSO.out HR.out).mono ?_
          rintro e w5 ⟨v, rfl, hb, sA, nA, cA, rfl, hI⟩
          have G5 := hide (Grow.trans' HG.out hb)
          have R5 := hide (HR.out.later hb)
          have Q5 := hide (HQ.out.later hb)
          have B5 := hide (HB.out.later hb)
          have I5 := hide hI
          have hnA : nA ≤ 400 := by have h1 := hI.1; have h2 := HSO.out.few; omega
          clear hb hI HG HR HQ HB hy1 hy2
          go_wp2_with fail
          refine (all_any p' b' S w5 HSO.out Q5.out).mono ?_
          rintro e w6 ⟨v, rfl, hb, sB, nB, cB, rfl, hI⟩
          have G6 := hide (Grow.trans' G5.out hb)
          have R6 := hide (R5.out.later hb)
          have Q6 := hide (Q5.out.later hb)
          have B6 := hide (B5.out.later hb)
          have C6 := hide (sameT_any sA sB cA cB nA nB S.T S.T true (by simp) w6 (by omega) (I5.out.later hb) hI)
          clear hb hI G5 R5 Q5 B5 I5
          go_wp2_with fail
          refine (C6.out).mono ?_
          rintro e w7 ⟨rfl, hb⟩
          have G7 := hide (Grow.trans' G6.out hb)
          have R7 := hide (R6.out.later hb)
          have Q7 := hide (Q6.out.later hb)
          have B7 := hide (B6.out.later hb)
          clear hb G6 R6 Q6 B6 C6
          go_wp2_with fail
          refine (front_any p b S w7 HSO.out R7.out).mono ?_
          rintro e w8 ⟨v, rfl, hb, sC, nC, cC, rfl, hI⟩
          have G8 := hide (Grow.trans' G7.out hb)
          have R8 := hide (R7.out.later hb)
          have Q8 := hide (Q7.out.later hb)
          have B8 := hide (B7.out.later hb)
          have I8 := hide hI
          have hnC : nC ≤ 400 := by have h1 := hI.1; have h2 := Cs.front_len HSO.out; omega
          clear hb hI G7 R7 Q7 B7
          go_wp2_with fail
          refine (front_any p' b' S w8 HSO.out Q8.out).mono ?_
          rintro e w9 ⟨v, rfl, hb, sE, nE, cE, rfl, hI⟩
          have G9 := hide (Grow.trans' G8.out hb)
          have R9 := hide (R8.out.later hb)
          have B9 := hide (B8.out.later hb)
          have C9 := hide (sameT_any sC sE cC cE nC nE S.front S.front true (by simp) w9 (by omega) (I8.out.later hb) hI)
          clear hb hI G8 R8 Q8 B8 I8
          go_wp2_with fail
          refine (C9.out).mono ?_
          rintro e w10 ⟨rfl, hb⟩
          have G10 := hide (Grow.trans' G9.out hb)
          have R10 := hide (R9.out.later hb)
          have B10 := hide (B9.out.later hb)
          clear hb G9 R9 B9 C9
          go_wp2_with fail
          refine (all_any q c B w10 HBO.out B10.out).mono ?_
          rintro e w11 ⟨v, rfl, hb, sG, nG, cG, rfl, hI⟩
          have G11 := hide (Grow.trans' G10.out hb)
          have R11 := hide (R10.out.later hb)
          have B11 := hide (B10.out.later hb)
          have I11 := hide hI
          have hnG : nG ≤ 400 := by have h1 := hI.1; have h2 := HBO.out.few; omega
          clear hb hI G10 R10 B10
          go_wp2_with fail
          refine (front_any q c B w11 HBO.out B11.out).mono ?_
          rintro e w12 ⟨v, rfl, hb, sH, nH, cH, rfl, hI⟩
          have G12 := hide (Grow.trans' G11.out hb)
          have R12 := hide (R11.out.later hb)
          have B12 := hide (B11.out.later hb)
          have I12 := hide (I11.out.later hb)
          have F12 := hide hI
          have hnH : nH ≤ 400 := by have h1 := hI.1; have h2 := Cs.front_len HBO.out; omega
          clear hb hI G11 R11 B11 I11
          go_wp2_with fail
          go_loopw [15] (fun i wr => ∃ (k : Nat) (S1 : Cs), k ≤ n ∧ k ≤ 30 ∧ i = .int .i64 k ∧ Grow w wr ∧ S1.ok ∧ RepC wr p b S1 ∧ RepC wr q c B ∧ IsTms wr sG nG cG B.T ∧ IsTms wr sH nH cH B.front) (fun i _ => 30 - (intOf i).toNat)
          case atStart => exact ⟨0, S, Nat.zero_le _, Nat.zero_le _, rfl, G12.out, HSO.out, R12.out, B12.out, I12.out, F12.out⟩
          case round =>
            obtain ⟨k, S1, hk, hk30, rfl, hg, hS1, hR, hB, hI, hF⟩ := hrel
            have HG := hide hg
            have HS1 := hide hS1
            have HR := hide hR
            have HB := hide hB
            have HI := hide hI
            have HF := hide hF
            clear hg hS1 hR hB hI hF G12 R12 B12 I12 F12
            by_cases hlt : k < n ∧ k < 30
            · obtain ⟨hlt, hlt30⟩ := hlt
              obtain ⟨bb, o, rfl, hr1, hkd⟩ := HD.out.see k (by omega)
              obtain ⟨y, hy⟩ : ∃ y, y = d[k] := ⟨_, rfl⟩
              obtain ⟨p0, p1, p2, p3, p4, p5⟩ := (hr1.later HG.out).at k hkd
              rw [← hy] at p0 p1 p2 p3 p4 p5
              have hi1 : (0 : Int) ≤ (k : Int) := by omega
              have hi2 : (k : Int) < (n : Int) := by omega
              have hi3 : (k : Int) < 30 := by omega
              clear hr1 hy
              go_wp2_with fail
              refine (add_any p b S1 y.t 7 wr HS1.out HR.out).mono ?_
              rintro e w13 ⟨t1, m1, c1, t2, m2, c2, rfl, hg3, hR3, -, -⟩
              have HG3 := hide (grow_step HG.out hg3 hwb)
              have HR3 := hide hR3
              have HB3 := hide (HB.out.far hg3 hqb (Ne.symm hbc))
              have HI3 := hide (HI.out.turn HR.out.map.block hg3)
              have HF3 := hide (HF.out.turn HR.out.map.block hg3)
              have HSA := hide (Cs.add_ok (t := y.t) (n := 7) HS1.out)
              clear hg3 hR3 p0 p1 p2 p3 p4 p5 HG HR HB HI HF
              go_wp2_with fail
              go_roundw
              case rel => exact ⟨k + 1, S1.add y.t 7, by omega, by omega, by go_num, HG3.out, HSA.out, HR3.out, HB3.out, HI3.out, HF3.out⟩
              case measure => simp [intOf]; omega
            · have hx1 : (k : Int) < (n : Int) := (by omega); have hx2 : ¬ (k : Int) < 30 := (by omega)
              clear hlt
              go_wp2_with fail
              refine (all_any q c B wr HBO.out HB.out).mono ?_
              rintro e w13 ⟨v, rfl, hb, sJ, nJ, cJ, rfl, hJ⟩
              have G13 := hide (Grow.trans' HG.out hb)
              have B13 := hide (HB.out.later hb)
              have F13 := hide (HF.out.later hb)
              have hnJ : nJ ≤ 400 := by have h1 := hJ.1; have h2 := HBO.out.few; omega
              have C13 := hide (sameT_any sJ sG cJ cG nJ nG B.T B.T true (by simp) w13 (by omega) hJ (HI.out.later hb))
              clear hb hJ HG HB HI HF HR
              go_wp2_with fail
              refine (C13.out).mono ?_
              rintro e w14 ⟨rfl, hb⟩
              have G14 := hide (Grow.trans' G13.out hb)
              have B14 := hide (B13.out.later hb)
              have F14 := hide (F13.out.later hb)
              clear hb G13 B13 F13 C13
              go_wp2_with fail
              refine (front_any q c B w14 HBO.out B14.out).mono ?_
              rintro e w15 ⟨v, rfl, hb, sK, nK, cK, rfl, hK⟩
              have G15 := hide (Grow.trans' G14.out hb)
              have hnK : nK ≤ 400 := by have h1 := hK.1; have h2 := Cs.front_len HBO.out; omega
              have C15 := hide (sameT_any sK sH cK cH nK nH B.front B.front true (by simp) w15 (by omega) hK (F14.out.later hb))
              clear hb hK G14 B14 F14
              go_wp2_with fail
              refine (C15.out).mono ?_
              rintro e w16 ⟨rfl, hb⟩
              have G16 := hide (Grow.trans' G15.out hb)
              clear hb G15 C15
              go_wp2_with fail
              go_ret
              exact ⟨rfl, G16.out⟩
theorem CountedApart_any (s : Option Addr) (n cap : Nat) (d : List Opn) (s1 : Option Addr) (n1 cap1 : Nat) (d1 : List Opn) (w : World) (hd : IsOps w s n cap d) (hd1 : IsOps w s1 n1 cap1 d1) :
    Calls Try.prog 8 #[.slice s n cap, .slice s1 n1 cap1] w fun e w' => e = .returned (.bool true) ∧ Grow w w' := by
  by_cases h1 : n ≤ 30
  · by_cases h2 : n1 ≤ 30
    · exact Apart_aa s n cap d s1 n1 cap1 d1 w h1 h2 hd hd1
    · exact Apart_ab s n cap d s1 n1 cap1 d1 w h1 (by omega) hd hd1
  · by_cases h2 : n1 ≤ 30
    · exact Apart_ba s n cap d s1 n1 cap1 d1 w (by omega) h2 hd hd1
    · exact Apart_bb s n cap d s1 n1 cap1 d1 w (by omega) (by omega) hd hd1

end Go.Proofs.Ytpkhmhigoafklaa
