/-
  What the law CountedBack does: for every row of numbers and one more it returns true, and what was there stays as it was.
-/
import Derived.Test.YtpkhmhigoafklaaLCtH
import Derived.Test.YtpkhmhigoafklaaCFr
namespace Go.Proofs.Ytpkhmhigoafklaa
set_option maxRecDepth 100000
open Go.RowKit Go.Sort
attribute [local go_sem ↓] run_minI eqTm
set_option linter.unusedVariables false
set_option linter.unusedSimpArgs false

/-- A number to be added lies in a block. -/
def BoxO (w : World) (b : Nat) (t : Opn) : Prop :=
  w.cell? ⟨b, 0, none⟩ = some (.int .i64 t.t.e) ∧ w.cell? ⟨b, 1, none⟩ = some (.int .i64 t.t.d) ∧ w.cell? ⟨b, 2, none⟩ = some (.int .i64 t.t.x) ∧ w.cell? ⟨b, 3, none⟩ = some (.int .i64 t.t.y) ∧ w.cell? ⟨b, 4, none⟩ = some (.int .i64 t.t.z) ∧ w.cell? ⟨b, 5, none⟩ = some (.int .i64 t.n)
theorem BoxO.later {w w' : World} {b : Nat} {t : Opn} (hg : Grow w w') (h : BoxO w b t) : BoxO w' b t := by
  obtain ⟨a, b, c, d, e, f⟩ := h
  exact ⟨cell_later hg a, cell_later hg b, cell_later hg c, cell_later hg d, cell_later hg e, cell_later hg f⟩
theorem BoxO.new (w : World) (q : Opn) : BoxO (w.alloc (.cells #[.int .i64 q.t.e, .int .i64 q.t.d, .int .i64 q.t.x, .int .i64 q.t.y, .int .i64 q.t.z, .int .i64 q.n] 38)) w.heap.size q := by simp [BoxO, go_sem]

set_option maxHeartbeats 4000000 in
theorem CountedBack_any (s : Option Addr) (n cap : Nat) (d : List Opn) (q : Opn) (w : World) (hd : IsOps w s n cap d) (hq : wfO q) :
    Calls Try.prog 6 #[.slice s n cap, .agg #[.int .i64 q.t.e, .int .i64 q.t.d, .int .i64 q.t.x, .int .i64 q.t.y, .int .i64 q.t.z, .int .i64 q.n]] w fun e w' => e = .returned (.bool true) ∧ Grow w w' := by
  have G0 : Hid (Grow w (w.alloc (.cells #[.int .i64 q.t.e, .int .i64 q.t.d, .int .i64 q.t.x, .int .i64 q.t.y, .int .i64 q.t.z, .int .i64 q.n] 38))) := hide (Grow.alloc' _ _)
  have KX : Hid (BoxO (w.alloc (.cells #[.int .i64 q.t.e, .int .i64 q.t.d, .int .i64 q.t.x, .int .i64 q.t.y, .int .i64 q.t.z, .int .i64 q.n] 38)) w.heap.size q) := hide (BoxO.new _ _)
  have HD := hide (hd.later G0.out)
  have HW := hide hq
  clear hd hq
  go_enter Try.func6, Try.ntmps6
  go_wp2_with fail
  have hz0 : w.heap.size < (w.alloc (.cells #[.int .i64 q.t.e, .int .i64 q.t.d, .int .i64 q.t.x, .int .i64 q.t.y, .int .i64 q.t.z, .int .i64 q.n] 38)).heap.size := by simp
  generalize w.alloc (.cells #[.int .i64 q.t.e, .int .i64 q.t.d, .int .i64 q.t.x, .int .i64 q.t.y, .int .i64 q.t.z, .int .i64 q.n] 38) = w0 at *
  refine (shown4_any w0).mono ?_
  rintro e w1 ⟨rfl, hb⟩
  have G1 := hide hb
  clear hb
  go_wp2_with fail
  refine (new_any w1).mono ?_
  rintro e w2 ⟨p, b, rfl, hb, hR, hp1, hb1⟩
  have G2 := hide (Grow.trans' G1.out hb)
  have R2 := hide hR
  have hwb : w0.heap.size ≤ b := by have := G1.out.size; omega
  clear hb hR G1 hp1 hb1
  go_wp2_with fail
  go_loopw [7] (fun i wr => ∃ k : Nat, k ≤ n ∧ k ≤ 40 ∧ i = .int .i64 k ∧ Grow w0 wr ∧ RepC wr p b (Cs.none.adds (d.take k))) (fun i _ => 40 - (intOf i).toNat)
  case atStart => exact ⟨0, Nat.zero_le _, Nat.zero_le _, rfl, G2.out, R2.out⟩
  case round =>
    obtain ⟨k, hk, hk40, rfl, hg, hR⟩ := hrel
    have HG := hide hg
    have HR := hide hR
    clear hg hR G2 R2
    by_cases hlt : k < n ∧ k < 40
    · obtain ⟨hlt, hlt40⟩ := hlt
      obtain ⟨bb, o, rfl, hr1, hkd⟩ := HD.out.see k (by omega)
      have HR1 := hide hr1
      obtain ⟨y, hy⟩ : ∃ y, y = d[k] := ⟨_, rfl⟩
      have HY := hide hy
      have HS := hide (Cs.adds_take Cs.none d k hkd)
      rw [← hy] at HS
      have hi1 : (0 : Int) ≤ (k : Int) := by omega
      have hi2 : (k : Int) < (n : Int) := by omega
      have hi3 : (k : Int) < 40 := by omega
      have HA := hide (fun w' (h : RepC w' p b (Cs.none.adds (d.take k))) => add_any p b (Cs.none.adds (d.take k)) y.t y.n w' (Cs.adds_ok Cs.none_ok _) h)
      clear hr1 hy
      go_wp2_with fail
      refine wp_region_end (fun i vF wF => match i with | 0 => vF = .pointer (some ⟨p, 0, none⟩) | 1 => vF = .slice (some ⟨bb, o, none⟩) n cap | 2 => vF = .int .i64 (k : Int) | 3 => vF = .pointer (some ⟨bb, o + k * 6, none⟩) | 4 => vF = .pointer (some ⟨bb, o + k * 6, none⟩) | 5 => vF = .agg #[.int .i64 (y.t).e, .int .i64 (y.t).d, .int .i64 (y.t).x, .int .i64 (y.t).y, .int .i64 (y.t).z] | 6 => vF = .slice (some ⟨bb, o, none⟩) n cap | 7 => vF = .int .i64 (k : Int) | 8 => vF = .pointer (some ⟨bb, o + k * 6, none⟩) | 9 => vF = .pointer (some ⟨bb, o + k * 6 + 5, none⟩) | 10 => vF = .int .i64 y.n | _ => True) 11 _ rfl rfl rfl (by kernel_rfl) (by kernel_rfl) ?_ ?_ ?_
      · intro k v w1 w2 hg h
        match k with
        | 0 => exact h
        | 1 => exact h
        | 2 => exact h
        | 3 => exact h
        | 4 => exact h
        | 5 => exact h
        | 6 => exact h
        | 7 => exact h
        | 8 => exact h
        | 9 => exact h
        | 10 => exact h
        | k + 11 => exact trivial
      · refine ⟨?_, ?_, ?_, ?_, ?_, ?_, ?_, ?_, ?_, ?_, ?_, trivial⟩
        · refine stepOne_run trivial ?_
          intro a' w' hg hs hd
          have e6 : a'.eval (.tmp 6) = .pointer (some ⟨p, 0, none⟩) := hs.rest 6 rfl
          have ec : ∀ v, a'.eval (.const v) = v := fun _ => rfl
          have ef : ∀ g, a'.eval (.func g) = .func (.func g) #[] #[] := fun _ => rfl
          clear hd hs
          refine wpv (v := .pointer (some ⟨p, 0, none⟩)) ?_ ⟨_, rfl, Grow.rfl' _, rfl⟩
          (generalize a'.eval = ev at ec ef e6 ⊢; simp [execOp, go_sem, *])
        · refine stepOne_run trivial ?_
          intro a' w' hg hs hd
          have e0 : a'.eval (.tmp 0) = .slice (some ⟨bb, o, none⟩) n cap := hs.rest 0 rfl
          have ec : ∀ v, a'.eval (.const v) = v := fun _ => rfl
          have ef : ∀ g, a'.eval (.func g) = .func (.func g) #[] #[] := fun _ => rfl
          clear hd hs
          refine wpv (v := .slice (some ⟨bb, o, none⟩) n cap) ?_ ⟨_, rfl, Grow.rfl' _, rfl⟩
          (generalize a'.eval = ev at ec ef e0 ⊢; simp [execOp, go_sem, *])
        · refine stepOne_run trivial ?_
          intro a' w' hg hs hd
          have e7 : a'.eval (.tmp 7) = .int .i64 (k : Int) := hs.rest 7 rfl
          have ec : ∀ v, a'.eval (.const v) = v := fun _ => rfl
          have ef : ∀ g, a'.eval (.func g) = .func (.func g) #[] #[] := fun _ => rfl
          clear hd hs
          refine wpv (v := .int .i64 (k : Int)) ?_ ⟨_, rfl, Grow.rfl' _, rfl⟩
          (generalize a'.eval = ev at ec ef e7 ⊢; simp [execOp, go_sem, *])
        · refine stepOne_run trivial ?_
          intro a' w' hg hs hd
          have e40 : a'.eval (.tmp 40) = .slice (some ⟨bb, o, none⟩) n cap := hd ⟨1, Ground.data⟩ (by simp) rfl
          have e41 : a'.eval (.tmp 41) = .int .i64 (k : Int) := hd ⟨2, Ground.data⟩ (by simp) rfl
          have ec : ∀ v, a'.eval (.const v) = v := fun _ => rfl
          have ef : ∀ g, a'.eval (.func g) = .func (.func g) #[] #[] := fun _ => rfl
          clear hd hs
          refine wpv (v := .pointer (some ⟨bb, o + k * 6, none⟩)) ?_ ⟨_, rfl, Grow.rfl' _, rfl⟩
          (generalize a'.eval = ev at ec ef e40 e41 ⊢; simp [execOp, go_sem, *])
        · refine stepOne_run trivial ?_
          intro a' w' hg hs hd
          have e42 : a'.eval (.tmp 42) = .pointer (some ⟨bb, o + k * 6, none⟩) := hd ⟨3, Ground.data⟩ (by simp) rfl
          have ec : ∀ v, a'.eval (.const v) = v := fun _ => rfl
          have ef : ∀ g, a'.eval (.func g) = .func (.func g) #[] #[] := fun _ => rfl
          clear hd hs
          refine wpv (v := .pointer (some ⟨bb, o + k * 6, none⟩)) ?_ ⟨_, rfl, Grow.rfl' _, rfl⟩
          (generalize a'.eval = ev at ec ef e42 ⊢; simp [execOp, go_sem, *])
        · refine stepOne_run trivial ?_
          intro a' w' hg hs hd
          have e43 : a'.eval (.tmp 43) = .pointer (some ⟨bb, o + k * 6, none⟩) := hd ⟨4, Ground.data⟩ (by simp) rfl
          have ec : ∀ v, a'.eval (.const v) = v := fun _ => rfl
          have ef : ∀ g, a'.eval (.func g) = .func (.func g) #[] #[] := fun _ => rfl
          obtain ⟨p0, p1, p2, p3, p4, p5⟩ := (HR1.out.later (Grow.trans' HG.out hg)).at k hkd; rw [← HY.out] at p0 p1 p2 p3 p4 p5
          clear hd hs
          refine wpv (v := .agg #[.int .i64 (y.t).e, .int .i64 (y.t).d, .int .i64 (y.t).x, .int .i64 (y.t).y, .int .i64 (y.t).z]) ?_ ⟨_, rfl, Grow.rfl' _, rfl⟩
          (generalize a'.eval = ev at ec ef e43 ⊢; simp [execOp, go_sem, *])
        · refine stepOne_run trivial ?_
          intro a' w' hg hs hd
          have e0 : a'.eval (.tmp 0) = .slice (some ⟨bb, o, none⟩) n cap := hs.rest 0 rfl
          have ec : ∀ v, a'.eval (.const v) = v := fun _ => rfl
          have ef : ∀ g, a'.eval (.func g) = .func (.func g) #[] #[] := fun _ => rfl
          clear hd hs
          refine wpv (v := .slice (some ⟨bb, o, none⟩) n cap) ?_ ⟨_, rfl, Grow.rfl' _, rfl⟩
          (generalize a'.eval = ev at ec ef e0 ⊢; simp [execOp, go_sem, *])
        · refine stepOne_run trivial ?_
          intro a' w' hg hs hd
          have e7 : a'.eval (.tmp 7) = .int .i64 (k : Int) := hs.rest 7 rfl
          have ec : ∀ v, a'.eval (.const v) = v := fun _ => rfl
          have ef : ∀ g, a'.eval (.func g) = .func (.func g) #[] #[] := fun _ => rfl
          clear hd hs
          refine wpv (v := .int .i64 (k : Int)) ?_ ⟨_, rfl, Grow.rfl' _, rfl⟩
          (generalize a'.eval = ev at ec ef e7 ⊢; simp [execOp, go_sem, *])
        · refine stepOne_run trivial ?_
          intro a' w' hg hs hd
          have e45 : a'.eval (.tmp 45) = .slice (some ⟨bb, o, none⟩) n cap := hd ⟨6, Ground.data⟩ (by simp) rfl
          have e46 : a'.eval (.tmp 46) = .int .i64 (k : Int) := hd ⟨7, Ground.data⟩ (by simp) rfl
          have ec : ∀ v, a'.eval (.const v) = v := fun _ => rfl
          have ef : ∀ g, a'.eval (.func g) = .func (.func g) #[] #[] := fun _ => rfl
          clear hd hs
          refine wpv (v := .pointer (some ⟨bb, o + k * 6, none⟩)) ?_ ⟨_, rfl, Grow.rfl' _, rfl⟩
          (generalize a'.eval = ev at ec ef e45 e46 ⊢; simp [execOp, go_sem, *])
        · refine stepOne_run trivial ?_
          intro a' w' hg hs hd
          have e47 : a'.eval (.tmp 47) = .pointer (some ⟨bb, o + k * 6, none⟩) := hd ⟨8, Ground.data⟩ (by simp) rfl
          have ec : ∀ v, a'.eval (.const v) = v := fun _ => rfl
          have ef : ∀ g, a'.eval (.func g) = .func (.func g) #[] #[] := fun _ => rfl
          clear hd hs
          refine wpv (v := .pointer (some ⟨bb, o + k * 6 + 5, none⟩)) ?_ ⟨_, rfl, Grow.rfl' _, rfl⟩
          (generalize a'.eval = ev at ec ef e47 ⊢; simp [execOp, go_sem, *])
        · refine stepOne_run trivial ?_
          intro a' w' hg hs hd
          have e48 : a'.eval (.tmp 48) = .pointer (some ⟨bb, o + k * 6 + 5, none⟩) := hd ⟨9, Ground.data⟩ (by simp) rfl
          have ec : ∀ v, a'.eval (.const v) = v := fun _ => rfl
          have ef : ∀ g, a'.eval (.func g) = .func (.func g) #[] #[] := fun _ => rfl
          obtain ⟨p0, p1, p2, p3, p4, p5⟩ := (HR1.out.later (Grow.trans' HG.out hg)).at k hkd; rw [← HY.out] at p0 p1 p2 p3 p4 p5
          clear hd hs
          refine wpv (v := .int .i64 y.n) ?_ ⟨_, rfl, Grow.rfl' _, rfl⟩
          (generalize a'.eval = ev at ec ef e48 ⊢; simp [execOp, go_sem, *])
      · intro a' w' hg hs hd
        have e39 : a'.eval (.tmp 39) = .pointer (some ⟨p, 0, none⟩) := hd 0 (by omega)
        have e44 : a'.eval (.tmp 44) = .agg #[.int .i64 (y.t).e, .int .i64 (y.t).d, .int .i64 (y.t).x, .int .i64 (y.t).y, .int .i64 (y.t).z] := hd 5 (by omega)
        have e49 : a'.eval (.tmp 49) = .int .i64 y.n := hd 10 (by omega)
        have ec : ∀ v, a'.eval (.const v) = v := fun _ => rfl
        have ef : ∀ g, a'.eval (.func g) = .func (.func g) #[] #[] := fun _ => rfl
        refine wpc ?_ ((HA.out w' (HR.out.later hg)).mono ?_)
        · (generalize a'.eval = ev at ec ef e39 e44 e49 ⊢; simp [execOp, go_sem, *])
        rintro e w3 ⟨s1, n1, c1, s2, n2, c2, rfl, hg3, hR3, -, -⟩
        refine ⟨_, rfl, ?_⟩
        have HG3 := hide (grow_step (Grow.trans' HG.out hg) hg3 hwb)
        have HR3 := hide hR3
        clear hg3 hR3 e39 e44 e49 ec ef
        rw [frame_eq hs [false, false, false, false, false, false, false, false, false, false, false, false, false, false, false, false, false, false, false, false, false, false, false, false, false, false, false, false, false, false, false, false, false, false, false, false, false, false, false, true, true, true, true, true, true, true, true, true, true, true, true, false, false, false, false, false, false, false, false, false, false, false, false, false, false, false, false, false, false, false, false, false, false, false, false, false, false, false, false, false, false, false, false, false, false, false, false, false, false, false, false, false, false, false, false, false, false, false, false, false, false, false, false, false, false, false, false, false, false, false, false, false, false, false, false, false, false, false, false, false, false, false, false, false, false, false, false, false, false, false, false, false] (by kernel_rfl)]; simp only [mergeL]; clear hs hd; generalize a'.tmps = TT at *; try go_frame
        go_wp2_with fail
        go_roundw
        case rel => exact ⟨k + 1, by omega, by omega, by go_num, HG3.out, by rw [HS.out]; exact HR3.out⟩
        case measure => simp [intOf]; omega
    · obtain ⟨S, hS⟩ : ∃ S, S = Cs.none.adds (d.take k) := ⟨_, rfl⟩
      have hSO : S.ok := by rw [hS]; exact Cs.adds_ok Cs.none_ok _
      have HSO := hide hSO
      rw [← hS] at HR
      obtain ⟨c, hc⟩ : ∃ c, S.f q.t = c := ⟨_, rfl⟩
      have HC := hide hc
      clear hS hSO hc
      by_cases hlt1 : (k : Int) < (n : Int)
      all_goals
        have hi5 : ¬ ((k : Int) < (n : Int) ∧ (k : Int) < 40) := by omega
        have hi6 : ¬ (k : Int) < 40 ∨ ¬ (k : Int) < (n : Int) := by omega
        go_wp2_with fail
        refine (all_any p b S wr HSO.out HR.out).mono ?_
        rintro e w4 ⟨v, rfl, hb, sA, nA, cA, rfl, hI⟩
        have G4 := hide (Grow.trans' HG.out hb)
        have R4 := hide (HR.out.later hb)
        have I4 := hide hI
        have hnA : nA ≤ 400 := by have h1 := hI.1; have h2 := HSO.out.few; omega
        clear hb hI HG HR hlt hi5 hi6
        go_wp2_with fail
        refine (front_any p b S w4 HSO.out R4.out).mono ?_
        rintro e w5 ⟨v, rfl, hb, sF, nF, cF, rfl, hI⟩
        have G5 := hide (Grow.trans' G4.out hb)
        have R5 := hide (R4.out.later hb)
        have I5 := hide (I4.out.later hb)
        have F5 := hide hI
        have hnF : nF ≤ 400 := by have h1 := hI.1; have h2 := Cs.front_len HSO.out; omega
        clear hb hI G4 R4 I4
        obtain ⟨x0, x1, x2, x3, x4, x5⟩ := KX.out.later G5.out
        go_wp2_with fail
        refine (count_at p b S q.t HC.out w5 HW.out.1 R5.out).mono ?_
        rintro e w6 ⟨rfl, hb⟩
        have G6 := hide (Grow.trans' G5.out hb)
        have R6 := hide (R5.out.later hb)
        have I6 := hide (I5.out.later hb)
        have F6 := hide (F5.out.later hb)
        clear hb x0 x1 x2 x3 x4 x5 G5 R5 I5 F5
        obtain ⟨x0, x1, x2, x3, x4, x5⟩ := KX.out.later G6.out
        go_wp2_with fail
        refine (add_any p b S q.t q.n w6 HSO.out R6.out).mono ?_
        rintro e w7 ⟨s1, n1, c1, s2, n2, c2, rfl, hg7, hR7, hI1, hI2⟩
        have G7 := hide (grow_step G6.out hg7 hwb)
        have I7 := hide (I6.out.turn R6.out.map.block hg7)
        have F7 := hide (F6.out.turn R6.out.map.block hg7)
        have R7 := hide hR7
        have J7 := hide hI1
        have K7 := hide hI2
        clear hg7 hR7 hI1 hI2 x0 x1 x2 x3 x4 x5 G6 R6 I6 F6
        by_cases he : S.err q.t q.n = 0
        · have hB := Cs.back HSO.out he
          have hfit := (fitsB_iff q.n).1 (Cs.err_ok he).2.1
          obtain ⟨hq1, hq2⟩ := hfit
          obtain ⟨S', hS'⟩ : ∃ S', S' = S.add q.t q.n := ⟨_, rfl⟩
          have hSO' : S'.ok := by rw [hS']; exact Cs.add_ok HSO.out
          have hg1 : S.gone q.t q.n = outO S.front S'.front := by rw [hS']; rfl
          have hc1 : S.come q.t q.n = outO S'.front S.front := by rw [hS']; rfl
          rw [← hS'] at hB R7
          rw [hg1] at J7
          rw [hc1] at K7
          have hg2 : S'.gone q.t (-q.n) = outO S'.front S.front := by show outO S'.front (S'.add q.t (-q.n)).front = _; rw [hB.2]
          have hc2 : S'.come q.t (-q.n) = outO S.front S'.front := by show outO (S'.add q.t (-q.n)).front S'.front = _; rw [hB.2]
          have HB := hide hB
          have HSO' := hide hSO'
          have HG2 := hide hg2
          have HC2 := hide hc2
          have hn1 : n1 ≤ 400 := by have h1 := J7.out.1; have h2 := outO_len S.front S'.front; have h3 := Cs.front_len HSO.out; omega
          have hn2 : n2 ≤ 400 := by have h1 := K7.out.1; have h2 := outO_len S'.front S.front; have h3 := Cs.front_len hSO'; omega
          rw [he]
          clear hB hS' hSO' hg1 hc1 hg2 hc2 he
          obtain ⟨x0, x1, x2, x3, x4, x5⟩ := KX.out.later G7.out
          go_wp2_with fail
          refine (add_any p b S' q.t (-q.n) w7 HSO'.out R7.out).mono ?_
          rintro e w8 ⟨s3, n3, c3, s4, n4, c4, rfl, hg8, hR8, hI3, hI4⟩
          rw [HB.out.1]
          rw [HB.out.2] at hR8
          rw [HG2.out] at hI3
          rw [HC2.out] at hI4
          have G8 := hide (grow_step G7.out hg8 hwb)
          have I8 := hide (I7.out.turn R7.out.map.block hg8)
          have F8 := hide (F7.out.turn R7.out.map.block hg8)
          have R8 := hide hR8
          have C8 := hide (sameT_any s1 s4 c1 c4 n1 n4 _ _ true (by simp) w8 (by omega) (J7.out.turn R7.out.map.block hg8) hI4)
          have K8 := hide (K7.out.turn R7.out.map.block hg8)
          have L8 := hide hI3
          clear hg8 hR8 hI3 hI4 x0 x1 x2 x3 x4 x5 G7 R7 I7 F7 J7 K7
          go_wp2_with fail
          refine (C8.out).mono ?_
          rintro e w9 ⟨rfl, hb⟩
          have G9 := hide (Grow.trans' G8.out hb)
          have R9 := hide (R8.out.later hb)
          have I9 := hide (I8.out.later hb)
          have F9 := hide (F8.out.later hb)
          have C9 := hide (sameT_any s2 s3 c2 c3 n2 n3 _ _ true (by simp) w9 (by omega) (K8.out.later hb) (L8.out.later hb))
          clear hb G8 R8 I8 F8 C8 K8 L8
          go_wp2_with fail
          refine (C9.out).mono ?_
          rintro e w10 ⟨rfl, hb⟩
          have G10 := hide (Grow.trans' G9.out hb)
          have R10 := hide (R9.out.later hb)
          have I10 := hide (I9.out.later hb)
          have F10 := hide (F9.out.later hb)
          clear hb G9 R9 I9 F9 C9
          go_wp2_with fail
          refine (all_any p b S w10 HSO.out R10.out).mono ?_
          rintro e wA ⟨v, rfl, hb, sG, nG, cG, rfl, hI⟩
          have GA := hide (Grow.trans' G10.out hb)
          have RA := hide (R10.out.later hb)
          have FA := hide (F10.out.later hb)
          have CA := hide (sameT_any sA sG cA cG nA nG S.T S.T true (by simp) wA (by omega) (I10.out.later hb) hI)
          clear hb hI
          go_wp2_with fail
          refine (CA.out).mono ?_
          rintro e wB ⟨rfl, hb⟩
          have GB := hide (Grow.trans' GA.out hb)
          have RB := hide (RA.out.later hb)
          have FB := hide (FA.out.later hb)
          clear hb CA GA RA FA
          go_wp2_with fail
          refine (front_any p b S wB HSO.out RB.out).mono ?_
          rintro e wC ⟨v, rfl, hb, sH, nH, cH, rfl, hI⟩
          have GC := hide (Grow.trans' GB.out hb)
          have RC := hide (RB.out.later hb)
          have CC := hide (sameT_any sF sH cF cH nF nH S.front S.front true (by simp) wC (by omega) (FB.out.later hb) hI)
          clear hb hI GB RB FB
          go_wp2_with fail
          refine (CC.out).mono ?_
          rintro e wD ⟨rfl, hb⟩
          have GD := hide (Grow.trans' GC.out hb)
          have RD := hide (RC.out.later hb)
          clear hb CC GC RC
          obtain ⟨x0, x1, x2, x3, x4, x5⟩ := KX.out.later GD.out
          go_wp2_with fail
          refine (count_at p b S q.t HC.out wD HW.out.1 RD.out).mono ?_
          rintro e wE ⟨rfl, hb⟩
          have GE := hide (Grow.trans' G0.out (Grow.trans' GD.out hb))
          clear hb x0 x1 x2 x3 x4 x5 GD RD
          go_wp2_with fail
          go_ret
          exact ⟨rfl, GE.out⟩
        · have hgn := Cs.gone_not he
          rw [hgn.1] at J7
          rw [hgn.2] at K7
          have hadd : S.add q.t q.n = S := by unfold Cs.add; rw [if_neg he]
          rw [hadd] at R7
          obtain ⟨ev, hev⟩ : ∃ ev, S.err q.t q.n = ev := ⟨_, rfl⟩
          rw [hev] at he ⊢
          obtain rfl : n1 = 0 := J7.out.1.symm
          obtain rfl : n2 = 0 := K7.out.1.symm
          have hev2 : (ev == 0) = false := by simpa using he
          clear hgn hadd hev J7 K7
          go_wp2_with fail
          refine (all_any p b S w7 HSO.out R7.out).mono ?_
          rintro e wA ⟨v, rfl, hb, sG, nG, cG, rfl, hI⟩
          have GA := hide (Grow.trans' G7.out hb)
          have RA := hide (R7.out.later hb)
          have FA := hide (F7.out.later hb)
          have CA := hide (sameT_any sA sG cA cG nA nG S.T S.T true (by simp) wA (by omega) (I7.out.later hb) hI)
          clear hb hI
          go_wp2_with fail
          refine (CA.out).mono ?_
          rintro e wB ⟨rfl, hb⟩
          have GB := hide (Grow.trans' GA.out hb)
          have RB := hide (RA.out.later hb)
          have FB := hide (FA.out.later hb)
          clear hb CA GA RA FA
          go_wp2_with fail
          refine (front_any p b S wB HSO.out RB.out).mono ?_
          rintro e wC ⟨v, rfl, hb, sH, nH, cH, rfl, hI⟩
          have GC := hide (Grow.trans' GB.out hb)
          have RC := hide (RB.out.later hb)
          have CC := hide (sameT_any sF sH cF cH nF nH S.front S.front true (by simp) wC (by omega) (FB.out.later hb) hI)
          clear hb hI GB RB FB
          go_wp2_with fail
          refine (CC.out).mono ?_
          rintro e wD ⟨rfl, hb⟩
          have GD := hide (Grow.trans' GC.out hb)
          have RD := hide (RC.out.later hb)
          clear hb CC GC RC
          obtain ⟨x0, x1, x2, x3, x4, x5⟩ := KX.out.later GD.out
          go_wp2_with fail
          refine (count_at p b S q.t HC.out wD HW.out.1 RD.out).mono ?_
          rintro e wE ⟨rfl, hb⟩
          have GE := hide (Grow.trans' G0.out (Grow.trans' GD.out hb))
          clear hb x0 x1 x2 x3 x4 x5 GD RD
          go_wp2_with fail
          go_ret
          exact ⟨rfl, GE.out⟩

end Go.Proofs.Ytpkhmhigoafklaa
