/-
  What the law CountedSums does: for every row of numbers it returns true, and what was there stays as it was.
-/
import Derived.Test.YtpkhmhigoafklaaHd4
import Derived.Test.YtpkhmhigoafklaaRowO
import Derived.Test.YtpkhmhigoafklaaCAll
import Derived.Test.YtpkhmhigoafklaaRAt
namespace Go.Proofs.Ytpkhmhigoafklaa
set_option maxRecDepth 100000
open Go.RowKit Go.Sort
attribute [local go_sem ↓] run_minI eqTm
set_option linter.unusedVariables false
set_option linter.unusedSimpArgs false

theorem tmod_small (n : Int) (k : Int) (hk : 0 < k) (h100 : k ≤ 100) : -100 ≤ n.tmod k ∧ n.tmod k ≤ 100 := by
  have h1 := Int.tmod_lt_of_pos n hk
  have h2 := Int.lt_tmod_of_pos n hk
  omega
/-- The numbers made small. -/
def smallO (k : Int) (l : List Opn) : List Opn := l.map fun o => ⟨o.t, o.n.tmod k⟩
theorem smallO_small (k : Int) (hk : 0 < k) (h : k ≤ 100) (l : List Opn) : ∀ o ∈ smallO k l, -100 ≤ o.n ∧ o.n ≤ 100 := by
  intro o ho
  obtain ⟨x, _, rfl⟩ := List.mem_map.1 ho
  exact tmod_small x.n k hk h
theorem smallO_take (k : Int) (l : List Opn) (j : Nat) : (smallO k l).take j = smallO k (l.take j) := by simp [smallO, List.map_take]
theorem smallO_len (k : Int) (l : List Opn) : (smallO k l).length = l.length := by simp [smallO]
theorem sumOf_not {x : Tm} (h : mayB x = false) (l : List Opn) : sumOf l x = 0 := by
  unfold sumOf
  induction l with
  | nil => rfl
  | cons o l ih =>
    rw [List.map_cons, List.sum_cons, ih]
    by_cases e : eqB o.t x = true
    · have := (eqB_iff o.t x).1 e
      rw [this, h]; simp
    · simp [e]
theorem sumOf_take_succ (l : List Opn) (x : Tm) (j : Nat) (hj : j < l.length) : sumOf (l.take (j + 1)) x = sumOf (l.take j) x + if (mayB l[j].t && eqB l[j].t x) = true then l[j].n else 0 := by
  rw [List.take_succ_eq_append_getElem hj, sumOf_snoc]

theorem count_at (p b : Nat) (s : Cs) (t : Tm) {c : Int} (hc : s.f t = c) (w : World) (ht : wfT t) (hR : RepC w p b s) :
    Calls Try.prog 18 #[.pointer (some ⟨p, 0, none⟩), .agg #[.int .i64 t.e, .int .i64 t.d, .int .i64 t.x, .int .i64 t.y, .int .i64 t.z]] w fun e w' => e = .returned (.int .i64 c) ∧ Grow w w' := by
  rw [← hc]; exact count_any p b s t w ht hR
/-- Five cells of a time. -/
theorem Box5.later {w w' : World} {b o : Nat} {t : Tm} (hg : Grow w w')
    (h : w.cell? ⟨b, o, none⟩ = some (.int .i64 t.e) ∧ w.cell? ⟨b, o + 1, none⟩ = some (.int .i64 t.d) ∧ w.cell? ⟨b, o + 2, none⟩ = some (.int .i64 t.x) ∧ w.cell? ⟨b, o + 3, none⟩ = some (.int .i64 t.y) ∧ w.cell? ⟨b, o + 4, none⟩ = some (.int .i64 t.z)) :
    w'.cell? ⟨b, o, none⟩ = some (.int .i64 t.e) ∧ w'.cell? ⟨b, o + 1, none⟩ = some (.int .i64 t.d) ∧ w'.cell? ⟨b, o + 2, none⟩ = some (.int .i64 t.x) ∧ w'.cell? ⟨b, o + 3, none⟩ = some (.int .i64 t.y) ∧ w'.cell? ⟨b, o + 4, none⟩ = some (.int .i64 t.z) := by
  obtain ⟨a, b, c, d, e⟩ := h
  exact ⟨cell_later hg a, cell_later hg b, cell_later hg c, cell_later hg d, cell_later hg e⟩

set_option maxHeartbeats 4000000 in
theorem CountedSums_any (s : Option Addr) (n cap : Nat) (d : List Opn) (w : World) (hd : IsOps w s n cap d) :
    Calls Try.prog 7 #[.slice s n cap] w fun e w' => e = .returned (.bool true) ∧ Grow w w' := by
  obtain ⟨m, hm⟩ : ∃ m : Nat, minI (n : Int) 60 = (m : Int) := ⟨min n 60, by unfold minI; split <;> omega⟩
  have hmn : m ≤ n := by unfold minI at hm; split at hm <;> omega
  have hm60 : m ≤ 60 := by unfold minI at hm; split at hm <;> omega
  obtain ⟨L, hL⟩ : ∃ L, L = smallO 50 (d.take m) := ⟨_, rfl⟩
  have hLm : L.length = m := by rw [hL, smallO_len, List.length_take, hd.len]; omega
  have hLs : ∀ o ∈ L, -100 ≤ o.n ∧ o.n ≤ 100 := by rw [hL]; exact smallO_small 50 (by omega) (by omega) _
  have hLk : ∀ j (h : j < L.length) (h' : j < d.length), L[j] = ⟨d[j].t, d[j].n.tmod 50⟩ := by
    intro j h h'
    subst hL
    simp [smallO]
  have HD := hide hd
  have HLM := hide hLm
  have HLS := hide hLs
  have HLK := hide hLk
  clear hd hL hLm hLs hLk
  go_enter Try.func7, Try.ntmps7
  go_wp2_with fail
  refine (shown4_any w).mono ?_
  rintro e w1 ⟨rfl, hb⟩
  have G1 := hide hb
  clear hb
  go_wp2_with fail
  refine (new_any w1).mono ?_
  rintro e w2 ⟨p, b, rfl, hb, hR, hp1, hb1⟩
  have G2 := hide (Grow.trans' G1.out hb)
  have R2 := hide hR
  have hwb : w.heap.size ≤ b := by have := G1.out.size; omega
  clear hb hR G1 hp1 hb1
  go_wp2_with fail
  go_loopw [6] (fun i wr => ∃ k : Nat, k ≤ m ∧ i = .int .i64 k ∧ Grow w wr ∧ RepC wr p b (Cs.none.adds (L.take k))) (fun i _ => m - (intOf i).toNat)
  case atStart => exact ⟨0, Nat.zero_le _, rfl, G2.out, R2.out⟩
  case round =>
    obtain ⟨k, hk, rfl, hg, hR⟩ := hrel
    have HG := hide hg
    have HR := hide hR
    clear hg hR G2 R2
    by_cases hlt : k < m
    · obtain ⟨bb, o, rfl, hr1, hkd⟩ := HD.out.see k (by omega)
      have HR1 := hide hr1
      have hkL : k < L.length := by rw [HLM.out]; exact hlt
      obtain ⟨y, hy⟩ : ∃ y, y = d[k] := ⟨_, rfl⟩
      have HY := hide hy
      have HS := hide (Cs.adds_take Cs.none L k hkL)
      have hi1 : (0 : Int) ≤ (k : Int) := by omega
      have hi2 : (k : Int) < (n : Int) := by omega
      have hi3 : (k : Int) < (m : Int) := by omega
      have HA := hide (fun w' (h : RepC w' p b (Cs.none.adds (L.take k))) => add_any p b (Cs.none.adds (L.take k)) y.t (y.n.tmod 50) w' (Cs.adds_ok Cs.none_ok _) h)
      clear hr1 hy
      go_wp2_with fail
      refine wp_region_end (fun i vF wF => match i with | 0 => vF = .pointer (some ⟨p, 0, none⟩) | 1 => vF = .slice (some ⟨bb, o, none⟩) n cap | 2 => vF = .int .i64 (k : Int) | 3 => vF = .pointer (some ⟨bb, o + k * 6, none⟩) | 4 => vF = .pointer (some ⟨bb, o + k * 6, none⟩) | 5 => vF = .agg #[.int .i64 (y.t).e, .int .i64 (y.t).d, .int .i64 (y.t).x, .int .i64 (y.t).y, .int .i64 (y.t).z] | 6 => vF = .slice (some ⟨bb, o, none⟩) n cap | 7 => vF = .int .i64 (k : Int) | 8 => vF = .pointer (some ⟨bb, o + k * 6, none⟩) | 9 => vF = .pointer (some ⟨bb, o + k * 6 + 5, none⟩) | 10 => vF = .int .i64 y.n | 11 => vF = .int .i64 (y.n.tmod 50) | _ => True) 12 _ rfl rfl rfl (by kernel_rfl) (by kernel_rfl) ?_ ?_ ?_
      · intro k v w1 w2 hg h
        match k with
        | 0 => exact h
        | 1 => exact h
        | 2 => exact h
        | 3 => exact h
        | 4 => exact h
        | 5 => exact h
        | 6 => exact h
        | 7 => exact h
        | 8 => exact h
        | 9 => exact h
        | 10 => exact h
        | 11 => exact h
        | k + 12 => exact trivial
      · refine ⟨?_, ?_, ?_, ?_, ?_, ?_, ?_, ?_, ?_, ?_, ?_, ?_, trivial⟩
        · refine stepOne_run trivial ?_
          intro a' w' hg hs hd
          have e4 : a'.eval (.tmp 4) = .pointer (some ⟨p, 0, none⟩) := hs.rest 4 rfl
          have ec : ∀ v, a'.eval (.const v) = v := fun _ => rfl
          have ef : ∀ g, a'.eval (.func g) = .func (.func g) #[] #[] := fun _ => rfl
          clear hd hs
          refine wpv (v := .pointer (some ⟨p, 0, none⟩)) ?_ ⟨_, rfl, Grow.rfl' _, rfl⟩
          (generalize a'.eval = ev at ec ef e4 ⊢; simp [execOp, go_sem, *])
        · refine stepOne_run trivial ?_
          intro a' w' hg hs hd
          have e0 : a'.eval (.tmp 0) = .slice (some ⟨bb, o, none⟩) n cap := hs.rest 0 rfl
          have ec : ∀ v, a'.eval (.const v) = v := fun _ => rfl
          have ef : ∀ g, a'.eval (.func g) = .func (.func g) #[] #[] := fun _ => rfl
          clear hd hs
          refine wpv (v := .slice (some ⟨bb, o, none⟩) n cap) ?_ ⟨_, rfl, Grow.rfl' _, rfl⟩
          (generalize a'.eval = ev at ec ef e0 ⊢; simp [execOp, go_sem, *])
        · refine stepOne_run trivial ?_
          intro a' w' hg hs hd
          have e6 : a'.eval (.tmp 6) = .int .i64 (k : Int) := hs.rest 6 rfl
          have ec : ∀ v, a'.eval (.const v) = v := fun _ => rfl
          have ef : ∀ g, a'.eval (.func g) = .func (.func g) #[] #[] := fun _ => rfl
          clear hd hs
          refine wpv (v := .int .i64 (k : Int)) ?_ ⟨_, rfl, Grow.rfl' _, rfl⟩
          (generalize a'.eval = ev at ec ef e6 ⊢; simp [execOp, go_sem, *])
        · refine stepOne_run trivial ?_
          intro a' w' hg hs hd
          have e29 : a'.eval (.tmp 29) = .slice (some ⟨bb, o, none⟩) n cap := hd ⟨1, Ground.data⟩ (by simp) rfl
          have e30 : a'.eval (.tmp 30) = .int .i64 (k : Int) := hd ⟨2, Ground.data⟩ (by simp) rfl
          have ec : ∀ v, a'.eval (.const v) = v := fun _ => rfl
          have ef : ∀ g, a'.eval (.func g) = .func (.func g) #[] #[] := fun _ => rfl
          clear hd hs
          refine wpv (v := .pointer (some ⟨bb, o + k * 6, none⟩)) ?_ ⟨_, rfl, Grow.rfl' _, rfl⟩
          (generalize a'.eval = ev at ec ef e29 e30 ⊢; simp [execOp, go_sem, *])
        · refine stepOne_run trivial ?_
          intro a' w' hg hs hd
          have e31 : a'.eval (.tmp 31) = .pointer (some ⟨bb, o + k * 6, none⟩) := hd ⟨3, Ground.data⟩ (by simp) rfl
          have ec : ∀ v, a'.eval (.const v) = v := fun _ => rfl
          have ef : ∀ g, a'.eval (.func g) = .func (.func g) #[] #[] := fun _ => rfl
          clear hd hs
          refine wpv (v := .pointer (some ⟨bb, o + k * 6, none⟩)) ?_ ⟨_, rfl, Grow.rfl' _, rfl⟩
          (generalize a'.eval = ev at ec ef e31 ⊢; simp [execOp, go_sem, *])
        · refine stepOne_run trivial ?_
          intro a' w' hg hs hd
          have e32 : a'.eval (.tmp 32) = .pointer (some ⟨bb, o + k * 6, none⟩) := hd ⟨4, Ground.data⟩ (by simp) rfl
          have ec : ∀ v, a'.eval (.const v) = v := fun _ => rfl
          have ef : ∀ g, a'.eval (.func g) = .func (.func g) #[] #[] := fun _ => rfl
          obtain ⟨p0, p1, p2, p3, p4, p5⟩ := (HR1.out.later (Grow.trans' HG.out hg)).at k hkd; rw [← HY.out] at p0 p1 p2 p3 p4 p5
          clear hd hs
          refine wpv (v := .agg #[.int .i64 (y.t).e, .int .i64 (y.t).d, .int .i64 (y.t).x, .int .i64 (y.t).y, .int .i64 (y.t).z]) ?_ ⟨_, rfl, Grow.rfl' _, rfl⟩
          (generalize a'.eval = ev at ec ef e32 ⊢; simp [execOp, go_sem, *])
        · refine stepOne_run trivial ?_
          intro a' w' hg hs hd
          have e0 : a'.eval (.tmp 0) = .slice (some ⟨bb, o, none⟩) n cap := hs.rest 0 rfl
          have ec : ∀ v, a'.eval (.const v) = v := fun _ => rfl
          have ef : ∀ g, a'.eval (.func g) = .func (.func g) #[] #[] := fun _ => rfl
          clear hd hs
          refine wpv (v := .slice (some ⟨bb, o, none⟩) n cap) ?_ ⟨_, rfl, Grow.rfl' _, rfl⟩
          (generalize a'.eval = ev at ec ef e0 ⊢; simp [execOp, go_sem, *])
        · refine stepOne_run trivial ?_
          intro a' w' hg hs hd
          have e6 : a'.eval (.tmp 6) = .int .i64 (k : Int) := hs.rest 6 rfl
          have ec : ∀ v, a'.eval (.const v) = v := fun _ => rfl
          have ef : ∀ g, a'.eval (.func g) = .func (.func g) #[] #[] := fun _ => rfl
          clear hd hs
          refine wpv (v := .int .i64 (k : Int)) ?_ ⟨_, rfl, Grow.rfl' _, rfl⟩
          (generalize a'.eval = ev at ec ef e6 ⊢; simp [execOp, go_sem, *])
        · refine stepOne_run trivial ?_
          intro a' w' hg hs hd
          have e34 : a'.eval (.tmp 34) = .slice (some ⟨bb, o, none⟩) n cap := hd ⟨6, Ground.data⟩ (by simp) rfl
          have e35 : a'.eval (.tmp 35) = .int .i64 (k : Int) := hd ⟨7, Ground.data⟩ (by simp) rfl
          have ec : ∀ v, a'.eval (.const v) = v := fun _ => rfl
          have ef : ∀ g, a'.eval (.func g) = .func (.func g) #[] #[] := fun _ => rfl
          clear hd hs
          refine wpv (v := .pointer (some ⟨bb, o + k * 6, none⟩)) ?_ ⟨_, rfl, Grow.rfl' _, rfl⟩
          (generalize a'.eval = ev at ec ef e34 e35 ⊢; simp [execOp, go_sem, *])
        · refine stepOne_run trivial ?_
          intro a' w' hg hs hd
          have e36 : a'.eval (.tmp 36) = .pointer (some ⟨bb, o + k * 6, none⟩) := hd ⟨8, Ground.data⟩ (by simp) rfl
          have ec : ∀ v, a'.eval (.const v) = v := fun _ => rfl
          have ef : ∀ g, a'.eval (.func g) = .func (.func g) #[] #[] := fun _ => rfl
          clear hd hs
          refine wpv (v := .pointer (some ⟨bb, o + k * 6 + 5, none⟩)) ?_ ⟨_, rfl, Grow.rfl' _, rfl⟩
          (generalize a'.eval = ev at ec ef e36 ⊢; simp [execOp, go_sem, *])
        · refine stepOne_run trivial ?_
          intro a' w' hg hs hd
          have e37 : a'.eval (.tmp 37) = .pointer (some ⟨bb, o + k * 6 + 5, none⟩) := hd ⟨9, Ground.data⟩ (by simp) rfl
          have ec : ∀ v, a'.eval (.const v) = v := fun _ => rfl
          have ef : ∀ g, a'.eval (.func g) = .func (.func g) #[] #[] := fun _ => rfl
          obtain ⟨p0, p1, p2, p3, p4, p5⟩ := (HR1.out.later (Grow.trans' HG.out hg)).at k hkd; rw [← HY.out] at p0 p1 p2 p3 p4 p5
          clear hd hs
          refine wpv (v := .int .i64 y.n) ?_ ⟨_, rfl, Grow.rfl' _, rfl⟩
          (generalize a'.eval = ev at ec ef e37 ⊢; simp [execOp, go_sem, *])
        · refine stepOne_run trivial ?_
          intro a' w' hg hs hd
          have e38 : a'.eval (.tmp 38) = .int .i64 y.n := hd ⟨10, Ground.data⟩ (by simp) rfl
          have ec : ∀ v, a'.eval (.const v) = v := fun _ => rfl
          have ef : ∀ g, a'.eval (.func g) = .func (.func g) #[] #[] := fun _ => rfl
          clear hd hs
          refine wpv (v := .int .i64 (y.n.tmod 50)) ?_ ⟨_, rfl, Grow.rfl' _, rfl⟩
          (generalize a'.eval = ev at ec ef e38 ⊢; simp [execOp, go_sem, *])
      · intro a' w' hg hs hd
        have e28 : a'.eval (.tmp 28) = .pointer (some ⟨p, 0, none⟩) := hd 0 (by omega)
        have e33 : a'.eval (.tmp 33) = .agg #[.int .i64 (y.t).e, .int .i64 (y.t).d, .int .i64 (y.t).x, .int .i64 (y.t).y, .int .i64 (y.t).z] := hd 5 (by omega)
        have e39 : a'.eval (.tmp 39) = .int .i64 (y.n.tmod 50) := hd 11 (by omega)
        have ec : ∀ v, a'.eval (.const v) = v := fun _ => rfl
        have ef : ∀ g, a'.eval (.func g) = .func (.func g) #[] #[] := fun _ => rfl
        refine wpc ?_ ((HA.out w' (HR.out.later hg)).mono ?_)
        · (generalize a'.eval = ev at ec ef e28 e33 e39 ⊢; simp [execOp, go_sem, *])
        rintro e w3 ⟨s1, n1, c1, s2, n2, c2, rfl, hg3, hR3, -, -⟩
        refine ⟨_, rfl, ?_⟩
        have HG3 := hide (grow_step (Grow.trans' HG.out hg) hg3 hwb)
        have HR3 := hide hR3
        clear hg3 hR3 e28 e33 e39 ec ef
        rw [frame_eq hs [false, false, false, false, false, false, false, false, false, false, false, false, false, false, false, false, false, false, false, false, false, false, false, false, false, false, false, false, true, true, true, true, true, true, true, true, true, true, true, true, true, false, false, false, false, false, false, false, false, false, false, false, false, false, false, false, false, false, false, false, false, false, false, false, false, false, false, false, false, false, false, false, false, false, false, false, false, false, false, false, false, false, false, false, false, false, false, false, false, false, false, false, false, false, false, false, false, false, false, false, false, false] (by kernel_rfl)]; simp only [mergeL]; clear hs hd; generalize a'.tmps = TT at *; try go_frame
        go_wp2_with fail
        go_roundw
        case rel =>
          refine ⟨k + 1, by omega, by go_num, HG3.out, ?_⟩
          have h1 := HLK.out k hkL hkd
          rw [HS.out, h1, ← HY.out]; exact HR3.out
        case measure => simp [intOf]; omega
    · obtain rfl : k = m := by omega
      have hSf : ∀ x, (Cs.none.adds L).f x = sumOf L x := (Cs.adds_small L (by rw [HLM.out]; omega) HLS.out).1
      have hSO : (Cs.none.adds L).ok := Cs.adds_ok Cs.none_ok _
      have HR2 := HR.out
      rw [List.take_of_length_le (by rw [HLM.out]; omega)] at HR2
      have HR3 := hide HR2
      have HSF := hide hSf
      have HSO := hide hSO
      obtain ⟨S, hS⟩ : ∃ S, S = Cs.none.adds L := ⟨_, rfl⟩
      rw [← hS] at HR3 HSF HSO
      have hi3 : ¬ (k : Int) < (k : Int) := by omega
      clear HR HR2 hSf hSO hS
      go_wp2_with fail
      refine (all_any p b S wr HSO.out HR3.out).mono ?_
      rintro e w4 ⟨v, rfl, hb, sA, nA, cA, rfl, hI⟩
      have G4 := hide (Grow.trans' HG.out hb)
      have R4 := hide (HR3.out.later hb)
      have I4 := hide hI
      have hnA : nA ≤ 400 := by have h1 := hI.1; have h2 := HSO.out.few; omega
      clear hb hI HG HR3 hi3
      go_wp2_with fail
      go_loopw [8] (fun i wr => ∃ j : Nat, j ≤ k ∧ i = .int .i64 j ∧ Grow w wr ∧ RepC wr p b S ∧ IsTms wr sA nA cA S.T) (fun i _ => k - (intOf i).toNat)
      case atStart => exact ⟨0, Nat.zero_le _, rfl, G4.out, R4.out, I4.out⟩
      case round =>
        obtain ⟨j, hj, rfl, hg, hR, hI⟩ := hrel
        have HG := hide hg
        have HR := hide hR
        have HI := hide hI
        clear hg hR hI G4 R4 I4
        by_cases hlt : j < k
        · obtain ⟨bb, o, rfl, hr1, hjd⟩ := HD.out.see j (by omega)
          have HR1 := hide hr1
          obtain ⟨y, hy⟩ : ∃ y, y = d[j] := ⟨_, rfl⟩
          have HY := hide hy
          have HW := hide (show wfO y from by rw [hy]; exact HD.out.wf _ (List.getElem_mem _))
          have hi1 : (0 : Int) ≤ (j : Int) := by omega
          have hi2 : (j : Int) < (n : Int) := by omega
          have hi3 : (j : Int) < (k : Int) := by omega
          obtain ⟨c, hc⟩ : ∃ c, S.f y.t = c := ⟨_, rfl⟩
          have HC := hide hc
          have HCS := hide (show sumOf L y.t = c from by rw [← HSF.out]; exact hc)
          obtain ⟨p0, p1, p2, p3, p4, p5⟩ := (hr1.later HG.out).at j hjd
          rw [← hy] at p0 p1 p2 p3 p4 p5
          clear hr1 hy hc
          cases hmay : mayB y.t
          · have CM := hide (refMayT_at y.t hmay wr)
            have HMY := hide hmay
            clear hmay
            go_wp2_with fail
            refine (CM.out).mono ?_
            rintro e w5 ⟨rfl, hb⟩
            have G5 := hide (Grow.trans' HG.out hb)
            have R5 := hide (HR.out.later hb)
            have I5 := hide (HI.out.later hb)
            clear hb HG HR HI p0 p1 p2 p3 p4 p5 CM
            go_wp2_with fail
            go_loopw [9, 11] (fun v q wr => ∃ (z : Int), v = .int .i64 z ∧ z = 0 ∧ q = .int .i64 0 ∧ Grow w5 wr) (fun _ _ _ => 0)
            case atStart => exact ⟨0, rfl, rfl, rfl, Grow.rfl' _⟩
            case round =>
              obtain ⟨z, rfl, hz0, rfl, hg⟩ := hrel
              have HG3 := hide hg
              have HG2 := hide (Grow.trans' G5.out hg)
              have hi4 : (0 : Int) < (k : Int) := by omega
              clear hg
              have hz : z = c := by rw [hz0, ← HCS.out, sumOf_not HMY.out]
              subst hz
              obtain ⟨p0, p1, p2, p3, p4, p5⟩ := (HR1.out.later HG2.out).at j hjd
              rw [← HY.out] at p0 p1 p2 p3 p4 p5
              have HP := hide (And.intro p0 (And.intro p1 (And.intro p2 (And.intro p3 p4))))
              go_wp2_with fail
              refine (count_at p b S y.t HC.out wr HW.out.1 (R5.out.later HG3.out)).mono ?_
              rintro e w7 ⟨rfl, hb7⟩
              have G7 := hide hb7
              clear p0 p1 p2 p3 p4 p5 hb7
              obtain ⟨p0, p1, p2, p3, p4⟩ := Box5.later G7.out HP.out
              have HQ := hide (show (decide (z ≠ 0)) = true ↔ y.t ∈ S.T from by rw [decide_eq_true_iff, HSO.out.mem, HC.out])
              rw [show decide (z ≠ 0) = false from by simpa using hz0] at HQ
              have CI := hide (in_at sA nA cA S.T y.t HQ.out w7 (by omega) ((I5.out.later HG3.out).later G7.out))
              go_wp2_with fail
              refine (CI.out).mono ?_
              rintro e w8 ⟨rfl, hb8⟩
              have G8 := hide (Grow.trans' HG3.out (Grow.trans' G7.out hb8))
              clear hb8
              go_wp2_with fail
              go_roundw
              case rel => exact ⟨j + 1, by omega, by go_num, Grow.trans' G5.out G8.out, R5.out.later G8.out, I5.out.later G8.out⟩
              case measure => simp [intOf]; omega

          · have CM := hide (refMayT_at y.t hmay wr)
            have HMY := hide hmay
            clear hmay
            go_wp2_with fail
            refine (CM.out).mono ?_
            rintro e w5 ⟨rfl, hb⟩
            have G5 := hide (Grow.trans' HG.out hb)
            have R5 := hide (HR.out.later hb)
            have I5 := hide (HI.out.later hb)
            clear hb HG HR HI p0 p1 p2 p3 p4 p5 CM
            go_wp2_with fail
            go_loopw [9, 11] (fun v q wr => ∃ (z : Int) (i : Nat), v = .int .i64 z ∧ z = sumOf (L.take i) y.t ∧ i ≤ k ∧ q = .int .i64 i ∧ Grow w5 wr) (fun _ q _ => k - (intOf q).toNat)
            case atStart => exact ⟨0, 0, rfl, rfl, Nat.zero_le _, rfl, Grow.rfl' _⟩
            case round =>
              obtain ⟨z, i, rfl, hzs, hik, rfl, hg⟩ := hrel
              have HG3 := hide hg
              have HG2 := hide (Grow.trans' G5.out hg)
              have HZS := hide hzs
              clear hg
              by_cases hlt2 : i < k
              · have hid : i < d.length := by rw [HD.out.len]; omega
                have hiL : i < L.length := by rw [HLM.out]; omega
                have hzb : -6000 ≤ z ∧ z ≤ 6000 := by
                  have h1 := (Cs.adds_small (L.take i) (by rw [List.length_take]; omega) (fun o ho => HLS.out o (List.mem_of_mem_take ho))).2.2 y.t
                  rw [← hzs, List.length_take] at h1
                  omega
                obtain ⟨hz1, hz2⟩ := hzb
                obtain ⟨x, hx⟩ : ∃ x, x = d[i] := ⟨_, rfl⟩
                have HX := hide hx
                have HT := hide (sumOf_take_succ L y.t i hiL)
                rw [HLK.out i hiL hid, ← hx] at HT
                have hm1 := tmod_small x.n 50 (by omega) (by omega)
                obtain ⟨hm1, hm2⟩ := hm1
                obtain ⟨p0, p1, p2, p3, p4, p5⟩ := (HR1.out.later HG2.out).at j hjd
                rw [← HY.out] at p0 p1 p2 p3 p4 p5
                obtain ⟨q0, q1, q2, q3, q4, q5⟩ := (HR1.out.later HG2.out).at i hid
                rw [← hx] at q0 q1 q2 q3 q4 q5
                have hj1 : (0 : Int) ≤ (i : Int) := by omega
                have hj2 : (i : Int) < (n : Int) := by omega
                have hj3 : (i : Int) < (k : Int) := by omega
                clear hx hzs
                cases es : eqB x.t y.t
                all_goals
                  have HES := hide es
                  have sp0 := cell_regrown p0; have sp1 := cell_regrown p1; have sp2 := cell_regrown p2; have sp3 := cell_regrown p3; have sp4 := cell_regrown p4
                  have sq0 := cell_regrown q0; have sq1 := cell_regrown q1; have sq2 := cell_regrown q2; have sq3 := cell_regrown q3; have sq4 := cell_regrown q4
                  go_wp2_with fail
                  refine wp_region_quiet_below (by kernel_rfl) (by kernel_rfl) ?_
                  repeat (go_big_quiet_step (fail))
                  refine wpQuiet_nil ?_
                  intro _ hw'
                  obtain ⟨⟨dq, osq⟩, hw''⟩ := hw'
                  subst hw''
                  have GB := hide (Grow.trans' HG3.out (below_regrown wr dq osq))
                  have q5' := cell_regrown q5 dq osq
                  clear sp0 sp1 sp2 sp3 sp4 sq0 sq1 sq2 sq3 sq4 p0 p1 p2 p3 p4 p5 q0 q1 q2 q3 q4 q5
                  generalize grow (redrawn wr dq) osq = wc at *
                  go_wp2_with fail
                  go_roundw
                case rel =>
                  refine ⟨z, i + 1, rfl, ?_, by omega, by go_num, GB.out⟩
                  rw [HT.out, HES.out, ← HZS.out]; simp
                case measure => simp [intOf]; omega
                case rel =>
                  refine ⟨z + x.n.tmod 50, i + 1, by go_num, ?_, by omega, by go_num, GB.out⟩
                  have := (eqB_iff x.t y.t).1 HES.out
                  rw [HT.out, HES.out, ← HZS.out, this, HMY.out]; simp
                case measure => simp [intOf]; omega
              · have hi4 : ¬ (i : Int) < (k : Int) := by omega
                have hz : z = c := by rw [hzs, List.take_of_length_le (by rw [HLM.out]; omega), HCS.out]
                subst hz
                clear hzs
                obtain ⟨p0, p1, p2, p3, p4, p5⟩ := (HR1.out.later HG2.out).at j hjd
                rw [← HY.out] at p0 p1 p2 p3 p4 p5
                have HP := hide (And.intro p0 (And.intro p1 (And.intro p2 (And.intro p3 p4))))
                go_wp2_with fail
                refine (count_at p b S y.t HC.out wr HW.out.1 (R5.out.later HG3.out)).mono ?_
                rintro e w7 ⟨rfl, hb7⟩
                have G7 := hide hb7
                clear p0 p1 p2 p3 p4 p5 hb7
                obtain ⟨p0, p1, p2, p3, p4⟩ := Box5.later G7.out HP.out
                by_cases hz0 : z = 0
                · have HQ := hide (show (decide (z ≠ 0)) = true ↔ y.t ∈ S.T from by rw [decide_eq_true_iff, HSO.out.mem, HC.out])
                  rw [show decide (z ≠ 0) = false from by simpa using hz0] at HQ
                  have CI := hide (in_at sA nA cA S.T y.t HQ.out w7 (by omega) ((I5.out.later HG3.out).later G7.out))
                  go_wp2_with fail
                  refine (CI.out).mono ?_
                  rintro e w8 ⟨rfl, hb8⟩
                  have G8 := hide (Grow.trans' HG3.out (Grow.trans' G7.out hb8))
                  clear hb8
                  go_wp2_with fail
                  go_roundw
                  case rel => exact ⟨j + 1, by omega, by go_num, Grow.trans' G5.out G8.out, R5.out.later G8.out, I5.out.later G8.out⟩
                  case measure => simp [intOf]; omega
                · have HQ := hide (show (decide (z ≠ 0)) = true ↔ y.t ∈ S.T from by rw [decide_eq_true_iff, HSO.out.mem, HC.out])
                  rw [show decide (z ≠ 0) = true from by simpa using hz0] at HQ
                  have hzn : (z != 0) = true := by simpa using hz0
                  have CI := hide (in_at sA nA cA S.T y.t HQ.out w7 (by omega) ((I5.out.later HG3.out).later G7.out))
                  go_wp2_with fail
                  refine (CI.out).mono ?_
                  rintro e w8 ⟨rfl, hb8⟩
                  have G8 := hide (Grow.trans' HG3.out (Grow.trans' G7.out hb8))
                  clear hb8
                  go_wp2_with fail
                  go_roundw
                  case rel => exact ⟨j + 1, by omega, by go_num, Grow.trans' G5.out G8.out, R5.out.later G8.out, I5.out.later G8.out⟩
                  case measure => simp [intOf]; omega

        · have hi3 : ¬ (j : Int) < (k : Int) := by omega
          go_wp2_with fail
          go_ret
          exact ⟨rfl, HG.out⟩

end Go.Proofs.Ytpkhmhigoafklaa
