/-
  What the law CountedOrder does: for every row of numbers it returns true, and what was there stays as it was.
-/
import Derived.Test.YtpkhmhigoafklaaLCtH
import Derived.Test.YtpkhmhigoafklaaCFr
namespace Go.Proofs.Ytpkhmhigoafklaa
set_option maxRecDepth 100000
open Go.RowKit Go.Sort
attribute [local go_sem ↓] run_minI eqTm
set_option linter.unusedVariables false
set_option linter.unusedSimpArgs false

set_option maxHeartbeats 4000000 in
theorem CountedOrder_any (s : Option Addr) (n cap : Nat) (d : List Opn) (w : World) (hd : IsOps w s n cap d) :
    Calls Try.prog 4 #[.slice s n cap] w fun e w' => e = .returned (.bool true) ∧ Grow w w' := by
  obtain ⟨m, hm⟩ : ∃ m : Nat, minI (n : Int) 60 = (m : Int) := ⟨min n 60, by unfold minI; split <;> omega⟩
  have hmn : m ≤ n := by unfold minI at hm; split at hm <;> omega
  have hm60 : m ≤ 60 := by unfold minI at hm; split at hm <;> omega
  obtain ⟨L, hL⟩ : ∃ L, L = smallO 100 (d.take m) := ⟨_, rfl⟩
  have hLm : L.length = m := by rw [hL, smallO_len, List.length_take, hd.len]; omega
  have hLs : ∀ o ∈ L, -100 ≤ o.n ∧ o.n ≤ 100 := by rw [hL]; exact smallO_small 100 (by omega) (by omega) _
  have hLk : ∀ j (h : j < L.length) (h' : j < d.length), L[j] = ⟨d[j].t, d[j].n.tmod 100⟩ := by
    intro j h h'
    subst hL
    simp [smallO]
  have HD := hide hd
  have HLM := hide hLm
  have HLS := hide hLs
  have HLK := hide hLk
  clear hd hL hLm hLs hLk
  go_enter Try.func4, Try.ntmps4
  go_wp2_with fail
  refine (shown4_any w).mono ?_
  rintro e w1 ⟨rfl, hb⟩
  have G1 := hide hb
  clear hb
  go_wp2_with fail
  refine (new_any w1).mono ?_
  rintro e w2 ⟨p, b, rfl, hb, hR, hp1, hb1⟩
  have G2 := hide (Grow.trans' G1.out hb)
  have R2 := hide hR
  have hwb : w.heap.size ≤ b := by have := G1.out.size; omega
  have hpl : p < w2.heap.size := hR.lt
  have hbl : b < w2.heap.size := hR.map.lt
  clear hb hR G1 hp1 hb1
  go_wp2_with fail
  refine (new_any w2).mono ?_
  rintro e w3 ⟨p', b', rfl, hb, hR, hp1, hb1⟩
  have G3 := hide (Grow.trans' G2.out hb)
  have R3 := hide (R2.out.later hb)
  have Q3 := hide hR
  have hwb' : w.heap.size ≤ b' := by have := G2.out.size; omega
  have hpb : p ≠ b' := by omega
  have hbb : b ≠ b' := by omega
  have hpb' : p' ≠ b := by omega
  clear hb hR G2 R2 hp1 hb1 hpl hbl
  go_wp2_with fail
  go_loopw [7] (fun i wr => ∃ k : Nat, k ≤ m ∧ i = .int .i64 k ∧ Grow w wr ∧ RepC wr p b (Cs.none.adds (L.take k)) ∧ RepC wr p' b' (Cs.none.adds (L.reverse.take k))) (fun i _ => m - (intOf i).toNat)
  case atStart => exact ⟨0, Nat.zero_le _, rfl, G3.out, R3.out, Q3.out⟩
  case round =>
    obtain ⟨k, hk, rfl, hg, hR, hQ⟩ := hrel
    have HG := hide hg
    have HR := hide hR
    have HQ := hide hQ
    clear hg hR hQ G3 R3 Q3
    by_cases hlt : k < m
    · obtain ⟨bb, o, rfl, hr1, hkd⟩ := HD.out.see k (by omega)
      have HR1 := hide hr1
      have hkL : k < L.length := by rw [HLM.out]; exact hlt
      obtain ⟨j, hj⟩ : ∃ j : Nat, (m : Int) - 1 - (k : Int) = (j : Int) := ⟨m - 1 - k, by omega⟩
      have hjm : j < m := by omega
      have hjd : j < d.length := by rw [HD.out.len]; omega
      have hjL : j < L.length := by rw [HLM.out]; exact hjm
      obtain ⟨y, hy⟩ : ∃ y, y = d[k] := ⟨_, rfl⟩
      obtain ⟨z, hz⟩ : ∃ z, z = d[j] := ⟨_, rfl⟩
      have HY := hide hy
      have HZ := hide hz
      have hy2 := HLK.out k hkL hkd
      have hz2 := HLK.out j hjL hjd
      have hrl : k < L.reverse.length := by simpa using hkL
      have hrev : L.reverse[k] = L[j] := by
        rw [List.getElem_reverse]
        congr 1
        have := HLM.out
        omega
      have HS := hide (Cs.adds_take Cs.none L k hkL)
      have HT := hide (Cs.adds_take Cs.none L.reverse k hrl)
      rw [hrev, hz2, ← hz] at HT
      rw [hy2, ← hy] at HS
      obtain ⟨c1, hc1⟩ : ∃ c, (Cs.none.adds (L.take k)).err y.t (y.n.tmod 100) = c := ⟨_, rfl⟩
      obtain ⟨c2, hc2⟩ : ∃ c, (Cs.none.adds (L.reverse.take k)).err z.t (z.n.tmod 100) = c := ⟨_, rfl⟩
      obtain ⟨q1, hq1⟩ : ∃ q, mayB y.t = q := ⟨_, rfl⟩
      obtain ⟨q2, hq2⟩ : ∃ q, mayB z.t = q := ⟨_, rfl⟩
      have hcq1 : (c1 == 0) = q1 := by
        rw [← hc1, ← hq1]
        exact small_err_val _ (by rw [List.length_take]; omega) (fun o ho => HLS.out o (List.mem_of_mem_take ho)) _ _ (tmod_small _ _ (by omega) (by omega))
      have hcq2 : (c2 == 0) = q2 := by
        rw [← hc2, ← hq2]
        exact small_err_val _ (by rw [List.length_take]; omega) (fun o ho => HLS.out o (by have := List.mem_of_mem_take ho; simpa using this)) _ _ (tmod_small _ _ (by omega) (by omega))
      have HC1 := hide hc1
      have HC2 := hide hc2
      have HQ1 := hide hq1
      have HQ2 := hide hq2
      have hi1 : (0 : Int) ≤ (k : Int) := by omega
      have hi2 : (k : Int) < (n : Int) := by omega
      have hi3 : (k : Int) < (m : Int) := by omega
      have hj1 : (0 : Int) ≤ (j : Int) := by omega
      have hj2 : (j : Int) < (n : Int) := by omega
      have hw1 : IntKind.i64.wrap ((m : Int) - 1) = (m : Int) - 1 := by rw [IntKind.wrap_i64]; omega
      have hw2 : IntKind.i64.wrap (j : Int) = (j : Int) := by rw [IntKind.wrap_i64]; omega
      have HA := hide (fun w' (h : RepC w' p b (Cs.none.adds (L.take k))) => add_any p b (Cs.none.adds (L.take k)) y.t (y.n.tmod 100) w' (Cs.adds_ok Cs.none_ok _) h)
      have HB := hide (fun w' (h : RepC w' p' b' (Cs.none.adds (L.reverse.take k))) => add_any p' b' (Cs.none.adds (L.reverse.take k)) z.t (z.n.tmod 100) w' (Cs.adds_ok Cs.none_ok _) h)
      clear hr1 hy hz hy2 hz2 hrev hc1 hc2 hq1 hq2
      go_wp2_with fail
      refine wp_region_pivot (fun i vF wF => match i with | 0 => vF = .pointer (some ⟨p, 0, none⟩) | 1 => vF = .slice (some ⟨bb, o, none⟩) n cap | 2 => vF = .int .i64 (k : Int) | 3 => vF = .pointer (some ⟨bb, o + k * 6, none⟩) | 4 => vF = .pointer (some ⟨bb, o + k * 6, none⟩) | 5 => vF = .agg #[.int .i64 (y.t).e, .int .i64 (y.t).d, .int .i64 (y.t).x, .int .i64 (y.t).y, .int .i64 (y.t).z] | 6 => vF = .slice (some ⟨bb, o, none⟩) n cap | 7 => vF = .int .i64 (k : Int) | 8 => vF = .pointer (some ⟨bb, o + k * 6, none⟩) | 9 => vF = .pointer (some ⟨bb, o + k * 6 + 5, none⟩) | 10 => vF = .int .i64 y.n | 11 => vF = .int .i64 (y.n.tmod 100) | _ => True) 12 _ rfl rfl (by kernel_rfl) (by kernel_rfl) (by kernel_rfl) (fun _ _ _ _ _ h => h) ?_ ?_
      · refine ⟨?_, ?_, ?_, ?_, ?_, ?_, ?_, ?_, ?_, ?_, ?_, ?_, trivial⟩
        · refine stepOne_run trivial ?_
          intro a' w' hg hs hd
          have e4 : a'.eval (.tmp 4) = .pointer (some ⟨p, 0, none⟩) := hs.rest 4 rfl
          have ec : ∀ v, a'.eval (.const v) = v := fun _ => rfl
          have ef : ∀ g, a'.eval (.func g) = .func (.func g) #[] #[] := fun _ => rfl
          clear hd hs
          refine wpv (v := .pointer (some ⟨p, 0, none⟩)) ?_ ⟨_, rfl, Grow.rfl' _, rfl⟩
          (generalize a'.eval = ev at ec ef e4 ⊢; simp [execOp, go_sem, *])
        · refine stepOne_run trivial ?_
          intro a' w' hg hs hd
          have e0 : a'.eval (.tmp 0) = .slice (some ⟨bb, o, none⟩) n cap := hs.rest 0 rfl
          have ec : ∀ v, a'.eval (.const v) = v := fun _ => rfl
          have ef : ∀ g, a'.eval (.func g) = .func (.func g) #[] #[] := fun _ => rfl
          clear hd hs
          refine wpv (v := .slice (some ⟨bb, o, none⟩) n cap) ?_ ⟨_, rfl, Grow.rfl' _, rfl⟩
          (generalize a'.eval = ev at ec ef e0 ⊢; simp [execOp, go_sem, *])
        · refine stepOne_run trivial ?_
          intro a' w' hg hs hd
          have e7 : a'.eval (.tmp 7) = .int .i64 (k : Int) := hs.rest 7 rfl
          have ec : ∀ v, a'.eval (.const v) = v := fun _ => rfl
          have ef : ∀ g, a'.eval (.func g) = .func (.func g) #[] #[] := fun _ => rfl
          clear hd hs
          refine wpv (v := .int .i64 (k : Int)) ?_ ⟨_, rfl, Grow.rfl' _, rfl⟩
          (generalize a'.eval = ev at ec ef e7 ⊢; simp [execOp, go_sem, *])
        · refine stepOne_run trivial ?_
          intro a' w' hg hs hd
          have e42 : a'.eval (.tmp 42) = .slice (some ⟨bb, o, none⟩) n cap := hd ⟨1, Ground.data⟩ (by simp) rfl
          have e43 : a'.eval (.tmp 43) = .int .i64 (k : Int) := hd ⟨2, Ground.data⟩ (by simp) rfl
          have ec : ∀ v, a'.eval (.const v) = v := fun _ => rfl
          have ef : ∀ g, a'.eval (.func g) = .func (.func g) #[] #[] := fun _ => rfl
          clear hd hs
          refine wpv (v := .pointer (some ⟨bb, o + k * 6, none⟩)) ?_ ⟨_, rfl, Grow.rfl' _, rfl⟩
          (generalize a'.eval = ev at ec ef e42 e43 ⊢; simp [execOp, go_sem, *])
        · refine stepOne_run trivial ?_
          intro a' w' hg hs hd
          have e44 : a'.eval (.tmp 44) = .pointer (some ⟨bb, o + k * 6, none⟩) := hd ⟨3, Ground.data⟩ (by simp) rfl
          have ec : ∀ v, a'.eval (.const v) = v := fun _ => rfl
          have ef : ∀ g, a'.eval (.func g) = .func (.func g) #[] #[] := fun _ => rfl
          clear hd hs
          refine wpv (v := .pointer (some ⟨bb, o + k * 6, none⟩)) ?_ ⟨_, rfl, Grow.rfl' _, rfl⟩
          (generalize a'.eval = ev at ec ef e44 ⊢; simp [execOp, go_sem, *])
        · refine stepOne_run trivial ?_
          intro a' w' hg hs hd
          have e45 : a'.eval (.tmp 45) = .pointer (some ⟨bb, o + k * 6, none⟩) := hd ⟨4, Ground.data⟩ (by simp) rfl
          have ec : ∀ v, a'.eval (.const v) = v := fun _ => rfl
          have ef : ∀ g, a'.eval (.func g) = .func (.func g) #[] #[] := fun _ => rfl
          obtain ⟨p0, p1, p2, p3, p4, p5⟩ := (HR1.out.later (Grow.trans' HG.out hg)).at k hkd; rw [← HY.out] at p0 p1 p2 p3 p4 p5
          clear hd hs
          refine wpv (v := .agg #[.int .i64 (y.t).e, .int .i64 (y.t).d, .int .i64 (y.t).x, .int .i64 (y.t).y, .int .i64 (y.t).z]) ?_ ⟨_, rfl, Grow.rfl' _, rfl⟩
          (generalize a'.eval = ev at ec ef e45 ⊢; simp [execOp, go_sem, *])
        · refine stepOne_run trivial ?_
          intro a' w' hg hs hd
          have e0 : a'.eval (.tmp 0) = .slice (some ⟨bb, o, none⟩) n cap := hs.rest 0 rfl
          have ec : ∀ v, a'.eval (.const v) = v := fun _ => rfl
          have ef : ∀ g, a'.eval (.func g) = .func (.func g) #[] #[] := fun _ => rfl
          clear hd hs
          refine wpv (v := .slice (some ⟨bb, o, none⟩) n cap) ?_ ⟨_, rfl, Grow.rfl' _, rfl⟩
          (generalize a'.eval = ev at ec ef e0 ⊢; simp [execOp, go_sem, *])
        · refine stepOne_run trivial ?_
          intro a' w' hg hs hd
          have e7 : a'.eval (.tmp 7) = .int .i64 (k : Int) := hs.rest 7 rfl
          have ec : ∀ v, a'.eval (.const v) = v := fun _ => rfl
          have ef : ∀ g, a'.eval (.func g) = .func (.func g) #[] #[] := fun _ => rfl
          clear hd hs
          refine wpv (v := .int .i64 (k : Int)) ?_ ⟨_, rfl, Grow.rfl' _, rfl⟩
          (generalize a'.eval = ev at ec ef e7 ⊢; simp [execOp, go_sem, *])
        · refine stepOne_run trivial ?_
          intro a' w' hg hs hd
          have e47 : a'.eval (.tmp 47) = .slice (some ⟨bb, o, none⟩) n cap := hd ⟨6, Ground.data⟩ (by simp) rfl
          have e48 : a'.eval (.tmp 48) = .int .i64 (k : Int) := hd ⟨7, Ground.data⟩ (by simp) rfl
          have ec : ∀ v, a'.eval (.const v) = v := fun _ => rfl
          have ef : ∀ g, a'.eval (.func g) = .func (.func g) #[] #[] := fun _ => rfl
          clear hd hs
          refine wpv (v := .pointer (some ⟨bb, o + k * 6, none⟩)) ?_ ⟨_, rfl, Grow.rfl' _, rfl⟩
          (generalize a'.eval = ev at ec ef e47 e48 ⊢; simp [execOp, go_sem, *])
        · refine stepOne_run trivial ?_
          intro a' w' hg hs hd
          have e49 : a'.eval (.tmp 49) = .pointer (some ⟨bb, o + k * 6, none⟩) := hd ⟨8, Ground.data⟩ (by simp) rfl
          have ec : ∀ v, a'.eval (.const v) = v := fun _ => rfl
          have ef : ∀ g, a'.eval (.func g) = .func (.func g) #[] #[] := fun _ => rfl
          clear hd hs
          refine wpv (v := .pointer (some ⟨bb, o + k * 6 + 5, none⟩)) ?_ ⟨_, rfl, Grow.rfl' _, rfl⟩
          (generalize a'.eval = ev at ec ef e49 ⊢; simp [execOp, go_sem, *])
        · refine stepOne_run trivial ?_
          intro a' w' hg hs hd
          have e50 : a'.eval (.tmp 50) = .pointer (some ⟨bb, o + k * 6 + 5, none⟩) := hd ⟨9, Ground.data⟩ (by simp) rfl
          have ec : ∀ v, a'.eval (.const v) = v := fun _ => rfl
          have ef : ∀ g, a'.eval (.func g) = .func (.func g) #[] #[] := fun _ => rfl
          obtain ⟨p0, p1, p2, p3, p4, p5⟩ := (HR1.out.later (Grow.trans' HG.out hg)).at k hkd; rw [← HY.out] at p0 p1 p2 p3 p4 p5
          clear hd hs
          refine wpv (v := .int .i64 y.n) ?_ ⟨_, rfl, Grow.rfl' _, rfl⟩
          (generalize a'.eval = ev at ec ef e50 ⊢; simp [execOp, go_sem, *])
        · refine stepOne_run trivial ?_
          intro a' w' hg hs hd
          have e51 : a'.eval (.tmp 51) = .int .i64 y.n := hd ⟨10, Ground.data⟩ (by simp) rfl
          have ec : ∀ v, a'.eval (.const v) = v := fun _ => rfl
          have ef : ∀ g, a'.eval (.func g) = .func (.func g) #[] #[] := fun _ => rfl
          clear hd hs
          refine wpv (v := .int .i64 (y.n.tmod 100)) ?_ ⟨_, rfl, Grow.rfl' _, rfl⟩
          (generalize a'.eval = ev at ec ef e51 ⊢; simp [execOp, go_sem, *])
      · intro a' w' hg hs hd
        have e41 : a'.eval (.tmp 41) = .pointer (some ⟨p, 0, none⟩) := hd 0 (by omega)
        have e46 : a'.eval (.tmp 46) = .agg #[.int .i64 (y.t).e, .int .i64 (y.t).d, .int .i64 (y.t).x, .int .i64 (y.t).y, .int .i64 (y.t).z] := hd 5 (by omega)
        have e52 : a'.eval (.tmp 52) = .int .i64 (y.n.tmod 100) := hd 11 (by omega)
        have ec : ∀ v, a'.eval (.const v) = v := fun _ => rfl
        have ef : ∀ g, a'.eval (.func g) = .func (.func g) #[] #[] := fun _ => rfl
        refine wpc ?_ ((HA.out w' (HR.out.later hg)).mono ?_)
        · (generalize a'.eval = ev at ec ef e41 e46 e52 ⊢; simp [execOp, go_sem, *])
        rintro e w4 ⟨s1, n1, c1', s2, n2, c2', rfl, hg4, hR4, -, -⟩
        rw [HC1.out]
        refine ⟨_, rfl, _, rfl, ?_⟩
        have HG4 := hide (grow_step (Grow.trans' HG.out hg) hg4 hwb)
        have HR4 := hide hR4
        have HQ4 := hide ((HQ.out.later hg).far hg4 hpb' (Ne.symm hbb))
        clear hg4 hR4 hg
        clear hd hs e41 e46 e52 ec ef
        refine ⟨fun i vF wF => match i with | 12 => vF = .tuple #[.slice s1 n1 c1', .slice s2 n2 c2', .int .i64 c1] | 13 => vF = .tuple #[.slice s1 n1 c1', .slice s2 n2 c2', .int .i64 c1] | 14 => vF = .slice s1 n1 c1' | 15 => vF = .slice s2 n2 c2' | 16 => vF = .int .i64 c1 | 17 => vF = .slice s1 n1 c1' | 18 => vF = .slice s2 n2 c2' | 19 => vF = .int .i64 c1 | _ => True, fun _ _ _ _ _ h => h, ?_, rfl, ?_, ?_⟩
        · intro i u w' hi
          match i, hi with
          | 0, _ => exact trivial
          | 1, _ => exact trivial
          | 2, _ => exact trivial
          | 3, _ => exact trivial
          | 4, _ => exact trivial
          | 5, _ => exact trivial
          | 6, _ => exact trivial
          | 7, _ => exact trivial
          | 8, _ => exact trivial
          | 9, _ => exact trivial
          | 10, _ => exact trivial
          | 11, _ => exact trivial
          | k + 12, h => exact absurd h (by omega)
        · refine ⟨?_, ?_, ?_, ?_, ?_, ?_, ?_, trivial⟩
          · refine stepOne_run trivial ?_
            intro a' w' hg hs hd
            have e53 : a'.eval (.tmp 53) = .tuple #[.slice s1 n1 c1', .slice s2 n2 c2', .int .i64 c1] := hd ⟨12, Ground.data⟩ (by simp) rfl
            have ec : ∀ v, a'.eval (.const v) = v := fun _ => rfl
            have ef : ∀ g, a'.eval (.func g) = .func (.func g) #[] #[] := fun _ => rfl
            clear hd hs
            refine wpv (v := .tuple #[.slice s1 n1 c1', .slice s2 n2 c2', .int .i64 c1]) ?_ ⟨_, rfl, Grow.rfl' _, rfl⟩
            (generalize a'.eval = ev at ec ef e53 ⊢; simp [execOp, go_sem, *])
          · refine stepOne_run trivial ?_
            intro a' w' hg hs hd
            have e40 : a'.eval (.tmp 40) = .tuple #[.slice s1 n1 c1', .slice s2 n2 c2', .int .i64 c1] := hd ⟨13, Ground.data⟩ (by simp) rfl
            have ec : ∀ v, a'.eval (.const v) = v := fun _ => rfl
            have ef : ∀ g, a'.eval (.func g) = .func (.func g) #[] #[] := fun _ => rfl
            clear hd hs
            refine wpv (v := .slice s1 n1 c1') ?_ ⟨_, rfl, Grow.rfl' _, rfl⟩
            (generalize a'.eval = ev at ec ef e40 ⊢; simp [execOp, go_sem, *])
          · refine stepOne_run trivial ?_
            intro a' w' hg hs hd
            have e40 : a'.eval (.tmp 40) = .tuple #[.slice s1 n1 c1', .slice s2 n2 c2', .int .i64 c1] := hd ⟨13, Ground.data⟩ (by simp) rfl
            have ec : ∀ v, a'.eval (.const v) = v := fun _ => rfl
            have ef : ∀ g, a'.eval (.func g) = .func (.func g) #[] #[] := fun _ => rfl
            clear hd hs
            refine wpv (v := .slice s2 n2 c2') ?_ ⟨_, rfl, Grow.rfl' _, rfl⟩
            (generalize a'.eval = ev at ec ef e40 ⊢; simp [execOp, go_sem, *])
          · refine stepOne_run trivial ?_
            intro a' w' hg hs hd
            have e40 : a'.eval (.tmp 40) = .tuple #[.slice s1 n1 c1', .slice s2 n2 c2', .int .i64 c1] := hd ⟨13, Ground.data⟩ (by simp) rfl
            have ec : ∀ v, a'.eval (.const v) = v := fun _ => rfl
            have ef : ∀ g, a'.eval (.func g) = .func (.func g) #[] #[] := fun _ => rfl
            clear hd hs
            refine wpv (v := .int .i64 c1) ?_ ⟨_, rfl, Grow.rfl' _, rfl⟩
            (generalize a'.eval = ev at ec ef e40 ⊢; simp [execOp, go_sem, *])
          · refine stepOne_run trivial ?_
            intro a' w' hg hs hd
            have e54 : a'.eval (.tmp 54) = .slice s1 n1 c1' := hd ⟨14, Ground.data⟩ (by simp) rfl
            have ec : ∀ v, a'.eval (.const v) = v := fun _ => rfl
            have ef : ∀ g, a'.eval (.func g) = .func (.func g) #[] #[] := fun _ => rfl
            clear hd hs
            refine wpv (v := .slice s1 n1 c1') ?_ ⟨_, rfl, Grow.rfl' _, rfl⟩
            (generalize a'.eval = ev at ec ef e54 ⊢; simp [execOp, go_sem, *])
          · refine stepOne_run trivial ?_
            intro a' w' hg hs hd
            have e55 : a'.eval (.tmp 55) = .slice s2 n2 c2' := hd ⟨15, Ground.data⟩ (by simp) rfl
            have ec : ∀ v, a'.eval (.const v) = v := fun _ => rfl
            have ef : ∀ g, a'.eval (.func g) = .func (.func g) #[] #[] := fun _ => rfl
            clear hd hs
            refine wpv (v := .slice s2 n2 c2') ?_ ⟨_, rfl, Grow.rfl' _, rfl⟩
            (generalize a'.eval = ev at ec ef e55 ⊢; simp [execOp, go_sem, *])
          · refine stepOne_run trivial ?_
            intro a' w' hg hs hd
            have e56 : a'.eval (.tmp 56) = .int .i64 c1 := hd ⟨16, Ground.data⟩ (by simp) rfl
            have ec : ∀ v, a'.eval (.const v) = v := fun _ => rfl
            have ef : ∀ g, a'.eval (.func g) = .func (.func g) #[] #[] := fun _ => rfl
            clear hd hs
            refine wpv (v := .int .i64 c1) ?_ ⟨_, rfl, Grow.rfl' _, rfl⟩
            (generalize a'.eval = ev at ec ef e56 ⊢; simp [execOp, go_sem, *])
        · intro a' w' hg hs hd
          have HG5 := hide (Grow.trans' HG4.out hg)
          have HR5 := hide (HR4.out.later hg)
          have HQ5 := hide (HQ4.out.later hg)
          clear hg HG4 HR4 HQ4 HG HR HQ HA
          have fz53 : a'.tmps.getD 53 undef = .tuple #[.slice s1 n1 c1', .slice s2 n2 c2', .int .i64 c1] := hd 12 (by simp); have fz40 : a'.tmps.getD 40 undef = .tuple #[.slice s1 n1 c1', .slice s2 n2 c2', .int .i64 c1] := hd 13 (by simp); have fz54 : a'.tmps.getD 54 undef = .slice s1 n1 c1' := hd 14 (by simp); have fz55 : a'.tmps.getD 55 undef = .slice s2 n2 c2' := hd 15 (by simp); have fz56 : a'.tmps.getD 56 undef = .int .i64 c1 := hd 16 (by simp); have fz8 : a'.tmps.getD 8 undef = .slice s1 n1 c1' := hd 17 (by simp); have fz9 : a'.tmps.getD 9 undef = .slice s2 n2 c2' := hd 18 (by simp); have fz10 : a'.tmps.getD 10 undef = .int .i64 c1 := hd 19 (by simp); rw [frame_eq hs [false, false, false, false, false, false, false, false, true, true, true, false, false, false, false, false, false, false, false, false, false, false, false, false, false, false, false, false, false, false, false, false, false, false, false, false, false, false, false, false, true, true, true, true, true, true, true, true, true, true, true, true, true, true, true, true, true, false, false, false, false, false, false, false, false, false, false, false, false, false, false, false, false, false, false, false, false, false, false, false, false, false, false, false, false, false, false, false, false, false, false, false, false, false, false, false, false, false, false, false, false, false, false, false, false, false, false, false, false, false, false, false, false, false, false, false, false, false, false, false, false, false, false, false, false, false, false, false, false, false, false, false, false, false, false, false, false, false, false] (by kernel_rfl)]; simp only [mergeL, fz53, fz40, fz54, fz55, fz56, fz8, fz9, fz10]; clear hs hd fz53 fz40 fz54 fz55 fz56 fz8 fz9 fz10; generalize a'.tmps = TT at *
          go_wp2_with fail
          refine wp_region_pivot (fun i vF wF => match i with | 0 => vF = .pointer (some ⟨p', 0, none⟩) | 1 => vF = .slice (some ⟨bb, o, none⟩) n cap | 2 => vF = .int .i64 (m : Int) | 3 => vF = .int .i64 ((m : Int) - 1) | 4 => vF = .int .i64 (k : Int) | 5 => vF = .int .i64 (j : Int) | 6 => vF = .pointer (some ⟨bb, o + j * 6, none⟩) | 7 => vF = .pointer (some ⟨bb, o + j * 6, none⟩) | 8 => vF = .agg #[.int .i64 (z.t).e, .int .i64 (z.t).d, .int .i64 (z.t).x, .int .i64 (z.t).y, .int .i64 (z.t).z] | 9 => vF = .slice (some ⟨bb, o, none⟩) n cap | 10 => vF = .int .i64 (m : Int) | 11 => vF = .int .i64 ((m : Int) - 1) | 12 => vF = .int .i64 (k : Int) | 13 => vF = .int .i64 (j : Int) | 14 => vF = .pointer (some ⟨bb, o + j * 6, none⟩) | 15 => vF = .pointer (some ⟨bb, o + j * 6 + 5, none⟩) | 16 => vF = .int .i64 z.n | 17 => vF = .int .i64 (z.n.tmod 100) | _ => True) 18 _ rfl rfl (by kernel_rfl) (by kernel_rfl) (by kernel_rfl) (fun _ _ _ _ _ h => h) ?_ ?_
          · refine ⟨?_, ?_, ?_, ?_, ?_, ?_, ?_, ?_, ?_, ?_, ?_, ?_, ?_, ?_, ?_, ?_, ?_, ?_, trivial⟩
            · refine stepOne_run trivial ?_
              intro a' w' hg hs hd
              have e5 : a'.eval (.tmp 5) = .pointer (some ⟨p', 0, none⟩) := hs.rest 5 rfl
              have ec : ∀ v, a'.eval (.const v) = v := fun _ => rfl
              have ef : ∀ g, a'.eval (.func g) = .func (.func g) #[] #[] := fun _ => rfl
              clear hd hs
              refine wpv (v := .pointer (some ⟨p', 0, none⟩)) ?_ ⟨_, rfl, Grow.rfl' _, rfl⟩
              (generalize a'.eval = ev at ec ef e5 ⊢; simp [execOp, go_sem, *])
            · refine stepOne_run trivial ?_
              intro a' w' hg hs hd
              have e0 : a'.eval (.tmp 0) = .slice (some ⟨bb, o, none⟩) n cap := hs.rest 0 rfl
              have ec : ∀ v, a'.eval (.const v) = v := fun _ => rfl
              have ef : ∀ g, a'.eval (.func g) = .func (.func g) #[] #[] := fun _ => rfl
              clear hd hs
              refine wpv (v := .slice (some ⟨bb, o, none⟩) n cap) ?_ ⟨_, rfl, Grow.rfl' _, rfl⟩
              (generalize a'.eval = ev at ec ef e0 ⊢; simp [execOp, go_sem, *])
            · refine stepOne_run trivial ?_
              intro a' w' hg hs hd
              have e6 : a'.eval (.tmp 6) = .int .i64 (m : Int) := hs.rest 6 rfl
              have ec : ∀ v, a'.eval (.const v) = v := fun _ => rfl
              have ef : ∀ g, a'.eval (.func g) = .func (.func g) #[] #[] := fun _ => rfl
              clear hd hs
              refine wpv (v := .int .i64 (m : Int)) ?_ ⟨_, rfl, Grow.rfl' _, rfl⟩
              (generalize a'.eval = ev at ec ef e6 ⊢; simp [execOp, go_sem, *])
            · refine stepOne_run trivial ?_
              intro a' w' hg hs hd
              have e60 : a'.eval (.tmp 60) = .int .i64 (m : Int) := hd ⟨2, Ground.data⟩ (by simp) rfl
              have ec : ∀ v, a'.eval (.const v) = v := fun _ => rfl
              have ef : ∀ g, a'.eval (.func g) = .func (.func g) #[] #[] := fun _ => rfl
              clear hd hs
              refine wpv (v := .int .i64 ((m : Int) - 1)) ?_ ⟨_, rfl, Grow.rfl' _, rfl⟩
              (generalize a'.eval = ev at ec ef e60 ⊢; simp [execOp, go_sem, *])
            · refine stepOne_run trivial ?_
              intro a' w' hg hs hd
              have e7 : a'.eval (.tmp 7) = .int .i64 (k : Int) := hs.rest 7 rfl
              have ec : ∀ v, a'.eval (.const v) = v := fun _ => rfl
              have ef : ∀ g, a'.eval (.func g) = .func (.func g) #[] #[] := fun _ => rfl
              clear hd hs
              refine wpv (v := .int .i64 (k : Int)) ?_ ⟨_, rfl, Grow.rfl' _, rfl⟩
              (generalize a'.eval = ev at ec ef e7 ⊢; simp [execOp, go_sem, *])
            · refine stepOne_run trivial ?_
              intro a' w' hg hs hd
              have e61 : a'.eval (.tmp 61) = .int .i64 ((m : Int) - 1) := hd ⟨3, Ground.data⟩ (by simp) rfl
              have e62 : a'.eval (.tmp 62) = .int .i64 (k : Int) := hd ⟨4, Ground.data⟩ (by simp) rfl
              have ec : ∀ v, a'.eval (.const v) = v := fun _ => rfl
              have ef : ∀ g, a'.eval (.func g) = .func (.func g) #[] #[] := fun _ => rfl
              clear hd hs
              refine wpv (v := .int .i64 (j : Int)) ?_ ⟨_, rfl, Grow.rfl' _, rfl⟩
              (generalize a'.eval = ev at ec ef e61 e62 ⊢; simp [execOp, go_sem, *])
            · refine stepOne_run trivial ?_
              intro a' w' hg hs hd
              have e59 : a'.eval (.tmp 59) = .slice (some ⟨bb, o, none⟩) n cap := hd ⟨1, Ground.data⟩ (by simp) rfl
              have e63 : a'.eval (.tmp 63) = .int .i64 (j : Int) := hd ⟨5, Ground.data⟩ (by simp) rfl
              have ec : ∀ v, a'.eval (.const v) = v := fun _ => rfl
              have ef : ∀ g, a'.eval (.func g) = .func (.func g) #[] #[] := fun _ => rfl
              clear hd hs
              refine wpv (v := .pointer (some ⟨bb, o + j * 6, none⟩)) ?_ ⟨_, rfl, Grow.rfl' _, rfl⟩
              (generalize a'.eval = ev at ec ef e59 e63 ⊢; simp [execOp, go_sem, *])
            · refine stepOne_run trivial ?_
              intro a' w' hg hs hd
              have e64 : a'.eval (.tmp 64) = .pointer (some ⟨bb, o + j * 6, none⟩) := hd ⟨6, Ground.data⟩ (by simp) rfl
              have ec : ∀ v, a'.eval (.const v) = v := fun _ => rfl
              have ef : ∀ g, a'.eval (.func g) = .func (.func g) #[] #[] := fun _ => rfl
              clear hd hs
              refine wpv (v := .pointer (some ⟨bb, o + j * 6, none⟩)) ?_ ⟨_, rfl, Grow.rfl' _, rfl⟩
              (generalize a'.eval = ev at ec ef e64 ⊢; simp [execOp, go_sem, *])
            · refine stepOne_run trivial ?_
              intro a' w' hg hs hd
              have e65 : a'.eval (.tmp 65) = .pointer (some ⟨bb, o + j * 6, none⟩) := hd ⟨7, Ground.data⟩ (by simp) rfl
              have ec : ∀ v, a'.eval (.const v) = v := fun _ => rfl
              have ef : ∀ g, a'.eval (.func g) = .func (.func g) #[] #[] := fun _ => rfl
              obtain ⟨p0, p1, p2, p3, p4, p5⟩ := (HR1.out.later (Grow.trans' HG5.out hg)).at j hjd; rw [← HZ.out] at p0 p1 p2 p3 p4 p5
              clear hd hs
              refine wpv (v := .agg #[.int .i64 (z.t).e, .int .i64 (z.t).d, .int .i64 (z.t).x, .int .i64 (z.t).y, .int .i64 (z.t).z]) ?_ ⟨_, rfl, Grow.rfl' _, rfl⟩
              (generalize a'.eval = ev at ec ef e65 ⊢; simp [execOp, go_sem, *])
            · refine stepOne_run trivial ?_
              intro a' w' hg hs hd
              have e0 : a'.eval (.tmp 0) = .slice (some ⟨bb, o, none⟩) n cap := hs.rest 0 rfl
              have ec : ∀ v, a'.eval (.const v) = v := fun _ => rfl
              have ef : ∀ g, a'.eval (.func g) = .func (.func g) #[] #[] := fun _ => rfl
              clear hd hs
              refine wpv (v := .slice (some ⟨bb, o, none⟩) n cap) ?_ ⟨_, rfl, Grow.rfl' _, rfl⟩
              (generalize a'.eval = ev at ec ef e0 ⊢; simp [execOp, go_sem, *])
            · refine stepOne_run trivial ?_
              intro a' w' hg hs hd
              have e6 : a'.eval (.tmp 6) = .int .i64 (m : Int) := hs.rest 6 rfl
              have ec : ∀ v, a'.eval (.const v) = v := fun _ => rfl
              have ef : ∀ g, a'.eval (.func g) = .func (.func g) #[] #[] := fun _ => rfl
              clear hd hs
              refine wpv (v := .int .i64 (m : Int)) ?_ ⟨_, rfl, Grow.rfl' _, rfl⟩
              (generalize a'.eval = ev at ec ef e6 ⊢; simp [execOp, go_sem, *])
            · refine stepOne_run trivial ?_
              intro a' w' hg hs hd
              have e68 : a'.eval (.tmp 68) = .int .i64 (m : Int) := hd ⟨10, Ground.data⟩ (by simp) rfl
              have ec : ∀ v, a'.eval (.const v) = v := fun _ => rfl
              have ef : ∀ g, a'.eval (.func g) = .func (.func g) #[] #[] := fun _ => rfl
              clear hd hs
              refine wpv (v := .int .i64 ((m : Int) - 1)) ?_ ⟨_, rfl, Grow.rfl' _, rfl⟩
              (generalize a'.eval = ev at ec ef e68 ⊢; simp [execOp, go_sem, *])
            · refine stepOne_run trivial ?_
              intro a' w' hg hs hd
              have e7 : a'.eval (.tmp 7) = .int .i64 (k : Int) := hs.rest 7 rfl
              have ec : ∀ v, a'.eval (.const v) = v := fun _ => rfl
              have ef : ∀ g, a'.eval (.func g) = .func (.func g) #[] #[] := fun _ => rfl
              clear hd hs
              refine wpv (v := .int .i64 (k : Int)) ?_ ⟨_, rfl, Grow.rfl' _, rfl⟩
              (generalize a'.eval = ev at ec ef e7 ⊢; simp [execOp, go_sem, *])
            · refine stepOne_run trivial ?_
              intro a' w' hg hs hd
              have e69 : a'.eval (.tmp 69) = .int .i64 ((m : Int) - 1) := hd ⟨11, Ground.data⟩ (by simp) rfl
              have e70 : a'.eval (.tmp 70) = .int .i64 (k : Int) := hd ⟨12, Ground.data⟩ (by simp) rfl
              have ec : ∀ v, a'.eval (.const v) = v := fun _ => rfl
              have ef : ∀ g, a'.eval (.func g) = .func (.func g) #[] #[] := fun _ => rfl
              clear hd hs
              refine wpv (v := .int .i64 (j : Int)) ?_ ⟨_, rfl, Grow.rfl' _, rfl⟩
              (generalize a'.eval = ev at ec ef e69 e70 ⊢; simp [execOp, go_sem, *])
            · refine stepOne_run trivial ?_
              intro a' w' hg hs hd
              have e67 : a'.eval (.tmp 67) = .slice (some ⟨bb, o, none⟩) n cap := hd ⟨9, Ground.data⟩ (by simp) rfl
              have e71 : a'.eval (.tmp 71) = .int .i64 (j : Int) := hd ⟨13, Ground.data⟩ (by simp) rfl
              have ec : ∀ v, a'.eval (.const v) = v := fun _ => rfl
              have ef : ∀ g, a'.eval (.func g) = .func (.func g) #[] #[] := fun _ => rfl
              clear hd hs
              refine wpv (v := .pointer (some ⟨bb, o + j * 6, none⟩)) ?_ ⟨_, rfl, Grow.rfl' _, rfl⟩
              (generalize a'.eval = ev at ec ef e67 e71 ⊢; simp [execOp, go_sem, *])
            · refine stepOne_run trivial ?_
              intro a' w' hg hs hd
              have e72 : a'.eval (.tmp 72) = .pointer (some ⟨bb, o + j * 6, none⟩) := hd ⟨14, Ground.data⟩ (by simp) rfl
              have ec : ∀ v, a'.eval (.const v) = v := fun _ => rfl
              have ef : ∀ g, a'.eval (.func g) = .func (.func g) #[] #[] := fun _ => rfl
              clear hd hs
              refine wpv (v := .pointer (some ⟨bb, o + j * 6 + 5, none⟩)) ?_ ⟨_, rfl, Grow.rfl' _, rfl⟩
              (generalize a'.eval = ev at ec ef e72 ⊢; simp [execOp, go_sem, *])
            · refine stepOne_run trivial ?_
              intro a' w' hg hs hd
              have e73 : a'.eval (.tmp 73) = .pointer (some ⟨bb, o + j * 6 + 5, none⟩) := hd ⟨15, Ground.data⟩ (by simp) rfl
              have ec : ∀ v, a'.eval (.const v) = v := fun _ => rfl
              have ef : ∀ g, a'.eval (.func g) = .func (.func g) #[] #[] := fun _ => rfl
              obtain ⟨p0, p1, p2, p3, p4, p5⟩ := (HR1.out.later (Grow.trans' HG5.out hg)).at j hjd; rw [← HZ.out] at p0 p1 p2 p3 p4 p5
              clear hd hs
              refine wpv (v := .int .i64 z.n) ?_ ⟨_, rfl, Grow.rfl' _, rfl⟩
              (generalize a'.eval = ev at ec ef e73 ⊢; simp [execOp, go_sem, *])
            · refine stepOne_run trivial ?_
              intro a' w' hg hs hd
              have e74 : a'.eval (.tmp 74) = .int .i64 z.n := hd ⟨16, Ground.data⟩ (by simp) rfl
              have ec : ∀ v, a'.eval (.const v) = v := fun _ => rfl
              have ef : ∀ g, a'.eval (.func g) = .func (.func g) #[] #[] := fun _ => rfl
              clear hd hs
              refine wpv (v := .int .i64 (z.n.tmod 100)) ?_ ⟨_, rfl, Grow.rfl' _, rfl⟩
              (generalize a'.eval = ev at ec ef e74 ⊢; simp [execOp, go_sem, *])
          · intro a' w' hg hs hd
            have e58 : a'.eval (.tmp 58) = .pointer (some ⟨p', 0, none⟩) := hd 0 (by omega)
            have e66 : a'.eval (.tmp 66) = .agg #[.int .i64 (z.t).e, .int .i64 (z.t).d, .int .i64 (z.t).x, .int .i64 (z.t).y, .int .i64 (z.t).z] := hd 8 (by omega)
            have e75 : a'.eval (.tmp 75) = .int .i64 (z.n.tmod 100) := hd 17 (by omega)
            have ec : ∀ v, a'.eval (.const v) = v := fun _ => rfl
            have ef : ∀ g, a'.eval (.func g) = .func (.func g) #[] #[] := fun _ => rfl
            refine wpc ?_ ((HB.out w' (HQ5.out.later hg)).mono ?_)
            · (generalize a'.eval = ev at ec ef e58 e66 e75 ⊢; simp [execOp, go_sem, *])
            rintro e w6 ⟨s3, n3, c3', s4, n4, c4', rfl, hg6, hR6, -, -⟩
            rw [HC2.out]
            refine ⟨_, rfl, _, rfl, ?_⟩
            have HG6 := hide (grow_step (Grow.trans' HG5.out hg) hg6 hwb')
            have HQ6 := hide hR6
            have HR6 := hide ((HR5.out.later hg).far hg6 hpb hbb)
            clear hg6 hR6 hg
            clear hd hs e58 e66 e75 ec ef
            refine ⟨fun i vF wF => match i with | 18 => vF = .tuple #[.slice s3 n3 c3', .slice s4 n4 c4', .int .i64 c2] | 19 => vF = .tuple #[.slice s3 n3 c3', .slice s4 n4 c4', .int .i64 c2] | 20 => vF = .slice s3 n3 c3' | 21 => vF = .slice s4 n4 c4' | 22 => vF = .int .i64 c2 | 23 => vF = .slice s3 n3 c3' | 24 => vF = .slice s4 n4 c4' | 25 => vF = .int .i64 c2 | _ => True, fun _ _ _ _ _ h => h, ?_, rfl, ?_, ?_⟩
            · intro i u w' hi
              match i, hi with
              | 0, _ => exact trivial
              | 1, _ => exact trivial
              | 2, _ => exact trivial
              | 3, _ => exact trivial
              | 4, _ => exact trivial
              | 5, _ => exact trivial
              | 6, _ => exact trivial
              | 7, _ => exact trivial
              | 8, _ => exact trivial
              | 9, _ => exact trivial
              | 10, _ => exact trivial
              | 11, _ => exact trivial
              | 12, _ => exact trivial
              | 13, _ => exact trivial
              | 14, _ => exact trivial
              | 15, _ => exact trivial
              | 16, _ => exact trivial
              | 17, _ => exact trivial
              | k + 18, h => exact absurd h (by omega)
            · refine ⟨?_, ?_, ?_, ?_, ?_, ?_, ?_, trivial⟩
              · refine stepOne_run trivial ?_
                intro a' w' hg hs hd
                have e76 : a'.eval (.tmp 76) = .tuple #[.slice s3 n3 c3', .slice s4 n4 c4', .int .i64 c2] := hd ⟨18, Ground.data⟩ (by simp) rfl
                have ec : ∀ v, a'.eval (.const v) = v := fun _ => rfl
                have ef : ∀ g, a'.eval (.func g) = .func (.func g) #[] #[] := fun _ => rfl
                clear hd hs
                refine wpv (v := .tuple #[.slice s3 n3 c3', .slice s4 n4 c4', .int .i64 c2]) ?_ ⟨_, rfl, Grow.rfl' _, rfl⟩
                (generalize a'.eval = ev at ec ef e76 ⊢; simp [execOp, go_sem, *])
              · refine stepOne_run trivial ?_
                intro a' w' hg hs hd
                have e57 : a'.eval (.tmp 57) = .tuple #[.slice s3 n3 c3', .slice s4 n4 c4', .int .i64 c2] := hd ⟨19, Ground.data⟩ (by simp) rfl
                have ec : ∀ v, a'.eval (.const v) = v := fun _ => rfl
                have ef : ∀ g, a'.eval (.func g) = .func (.func g) #[] #[] := fun _ => rfl
                clear hd hs
                refine wpv (v := .slice s3 n3 c3') ?_ ⟨_, rfl, Grow.rfl' _, rfl⟩
                (generalize a'.eval = ev at ec ef e57 ⊢; simp [execOp, go_sem, *])
              · refine stepOne_run trivial ?_
                intro a' w' hg hs hd
                have e57 : a'.eval (.tmp 57) = .tuple #[.slice s3 n3 c3', .slice s4 n4 c4', .int .i64 c2] := hd ⟨19, Ground.data⟩ (by simp) rfl
                have ec : ∀ v, a'.eval (.const v) = v := fun _ => rfl
                have ef : ∀ g, a'.eval (.func g) = .func (.func g) #[] #[] := fun _ => rfl
                clear hd hs
                refine wpv (v := .slice s4 n4 c4') ?_ ⟨_, rfl, Grow.rfl' _, rfl⟩
                (generalize a'.eval = ev at ec ef e57 ⊢; simp [execOp, go_sem, *])
              · refine stepOne_run trivial ?_
                intro a' w' hg hs hd
                have e57 : a'.eval (.tmp 57) = .tuple #[.slice s3 n3 c3', .slice s4 n4 c4', .int .i64 c2] := hd ⟨19, Ground.data⟩ (by simp) rfl
                have ec : ∀ v, a'.eval (.const v) = v := fun _ => rfl
                have ef : ∀ g, a'.eval (.func g) = .func (.func g) #[] #[] := fun _ => rfl
                clear hd hs
                refine wpv (v := .int .i64 c2) ?_ ⟨_, rfl, Grow.rfl' _, rfl⟩
                (generalize a'.eval = ev at ec ef e57 ⊢; simp [execOp, go_sem, *])
              · refine stepOne_run trivial ?_
                intro a' w' hg hs hd
                have e77 : a'.eval (.tmp 77) = .slice s3 n3 c3' := hd ⟨20, Ground.data⟩ (by simp) rfl
                have ec : ∀ v, a'.eval (.const v) = v := fun _ => rfl
                have ef : ∀ g, a'.eval (.func g) = .func (.func g) #[] #[] := fun _ => rfl
                clear hd hs
                refine wpv (v := .slice s3 n3 c3') ?_ ⟨_, rfl, Grow.rfl' _, rfl⟩
                (generalize a'.eval = ev at ec ef e77 ⊢; simp [execOp, go_sem, *])
              · refine stepOne_run trivial ?_
                intro a' w' hg hs hd
                have e78 : a'.eval (.tmp 78) = .slice s4 n4 c4' := hd ⟨21, Ground.data⟩ (by simp) rfl
                have ec : ∀ v, a'.eval (.const v) = v := fun _ => rfl
                have ef : ∀ g, a'.eval (.func g) = .func (.func g) #[] #[] := fun _ => rfl
                clear hd hs
                refine wpv (v := .slice s4 n4 c4') ?_ ⟨_, rfl, Grow.rfl' _, rfl⟩
                (generalize a'.eval = ev at ec ef e78 ⊢; simp [execOp, go_sem, *])
              · refine stepOne_run trivial ?_
                intro a' w' hg hs hd
                have e79 : a'.eval (.tmp 79) = .int .i64 c2 := hd ⟨22, Ground.data⟩ (by simp) rfl
                have ec : ∀ v, a'.eval (.const v) = v := fun _ => rfl
                have ef : ∀ g, a'.eval (.func g) = .func (.func g) #[] #[] := fun _ => rfl
                clear hd hs
                refine wpv (v := .int .i64 c2) ?_ ⟨_, rfl, Grow.rfl' _, rfl⟩
                (generalize a'.eval = ev at ec ef e79 ⊢; simp [execOp, go_sem, *])
            · intro a' w' hg hs hd
              have HG7 := hide (Grow.trans' HG6.out hg)
              have HR7 := hide (HR6.out.later hg)
              have HQ7 := hide (HQ6.out.later hg)
              clear hg HG5 HR5 HQ5 HG6 HR6 HQ6 HB
              have fz76 : a'.tmps.getD 76 undef = .tuple #[.slice s3 n3 c3', .slice s4 n4 c4', .int .i64 c2] := hd 18 (by simp); have fz57 : a'.tmps.getD 57 undef = .tuple #[.slice s3 n3 c3', .slice s4 n4 c4', .int .i64 c2] := hd 19 (by simp); have fz77 : a'.tmps.getD 77 undef = .slice s3 n3 c3' := hd 20 (by simp); have fz78 : a'.tmps.getD 78 undef = .slice s4 n4 c4' := hd 21 (by simp); have fz79 : a'.tmps.getD 79 undef = .int .i64 c2 := hd 22 (by simp); have fz11 : a'.tmps.getD 11 undef = .slice s3 n3 c3' := hd 23 (by simp); have fz12 : a'.tmps.getD 12 undef = .slice s4 n4 c4' := hd 24 (by simp); have fz13 : a'.tmps.getD 13 undef = .int .i64 c2 := hd 25 (by simp); rw [frame_eq hs [false, false, false, false, false, false, false, false, false, false, false, true, true, true, false, false, false, false, false, false, false, false, false, false, false, false, false, false, false, false, false, false, false, false, false, false, false, false, false, false, false, false, false, false, false, false, false, false, false, false, false, false, false, false, false, false, false, true, true, true, true, true, true, true, true, true, true, true, true, true, true, true, true, true, true, true, true, true, true, true, false, false, false, false, false, false, false, false, false, false, false, false, false, false, false, false, false, false, false, false, false, false, false, false, false, false, false, false, false, false, false, false, false, false, false, false, false, false, false, false, false, false, false, false, false, false, false, false, false, false, false, false, false, false, false, false, false, false, false] (by kernel_rfl)]; simp only [mergeL, fz76, fz57, fz77, fz78, fz79, fz11, fz12, fz13]; clear hs hd fz76 fz57 fz77 fz78 fz79 fz11 fz12 fz13; generalize a'.tmps = TT at *
              obtain ⟨p0, p1, p2, p3, p4, p5⟩ := (HR1.out.later HG7.out).at k hkd
              rw [← HY.out] at p0 p1 p2 p3 p4 p5
              go_wp2_with fail
              refine (refMayT_at y.t HQ1.out w').mono ?_
              rintro e w8 ⟨rfl, hb⟩
              have HG8 := hide (Grow.trans' HG7.out hb)
              have HR8 := hide (HR7.out.later hb)
              have HQ8 := hide (HQ7.out.later hb)
              clear hb p0 p1 p2 p3 p4 p5 HG7 HR7 HQ7
              obtain ⟨p0, p1, p2, p3, p4, p5⟩ := (HR1.out.later HG8.out).at j hjd
              rw [← HZ.out] at p0 p1 p2 p3 p4 p5
              go_wp2_with fail
              refine (refMayT_at z.t HQ2.out w8).mono ?_
              rintro e w9 ⟨rfl, hb⟩
              have HG9 := hide (Grow.trans' HG8.out hb)
              have HR9 := hide (HR8.out.later hb)
              have HQ9 := hide (HQ8.out.later hb)
              clear hb p0 p1 p2 p3 p4 p5 HG8 HR8 HQ8
              go_wp2_with fail
              go_roundw
              case rel => exact ⟨k + 1, by omega, by go_num, HG9.out, by rw [HS.out]; exact HR9.out, by rw [HT.out]; exact HQ9.out⟩
              case measure => simp [intOf]; omega
    · obtain rfl : k = m := by omega
      have hSO : (Cs.none.adds L).ok := Cs.adds_ok Cs.none_ok _
      have hR2 := HR.out
      have hQ2 := HQ.out
      rw [List.take_of_length_le (by rw [HLM.out]; omega)] at hR2
      rw [List.take_of_length_le (by rw [List.length_reverse, HLM.out]; omega), adds_rev L (by rw [HLM.out]; omega) HLS.out] at hQ2
      obtain ⟨S, hS⟩ : ∃ S, S = Cs.none.adds L := ⟨_, rfl⟩
      rw [← hS] at hSO hR2 hQ2
      have HSO := hide hSO
      have R3 := hide hR2
      have Q3 := hide hQ2
      have hi3 : ¬ (k : Int) < (k : Int) := by omega
      clear HR HQ hR2 hQ2 hSO hS
      go_wp2_with fail
      refine (all_any p b S wr HSO.out R3.out).mono ?_
      rintro e w4 ⟨v, rfl, hb, sA, nA, cA, rfl, hI⟩
      have G4 := hide (Grow.trans' HG.out hb)
      have R4 := hide (R3.out.later hb)
      have Q4 := hide (Q3.out.later hb)
      have I4 := hide hI
      have hnA : nA ≤ 400 := by have h1 := hI.1; have h2 := HSO.out.few; omega
      clear hb hI HG R3 Q3 hi3
      go_wp2_with fail
      refine (all_any p' b' S w4 HSO.out Q4.out).mono ?_
      rintro e w5 ⟨v, rfl, hb, sB, nB, cB, rfl, hI⟩
      have G5 := hide (Grow.trans' G4.out hb)
      have R5 := hide (R4.out.later hb)
      have Q5 := hide (Q4.out.later hb)
      have C5 := hide (sameT_any sA sB cA cB nA nB S.T S.T true (by simp) w5 (by omega) (I4.out.later hb) hI)
      clear hb hI G4 R4 Q4 I4
      go_wp2_with fail
      refine (C5.out).mono ?_
      rintro e w6 ⟨rfl, hb⟩
      have G6 := hide (Grow.trans' G5.out hb)
      have R6 := hide (R5.out.later hb)
      have Q6 := hide (Q5.out.later hb)
      clear hb G5 R5 Q5 C5
      go_wp2_with fail
      refine (front_any p b S w6 HSO.out R6.out).mono ?_
      rintro e w7 ⟨v, rfl, hb, sC, nC, cC, rfl, hI⟩
      have G7 := hide (Grow.trans' G6.out hb)
      have R7 := hide (R6.out.later hb)
      have Q7 := hide (Q6.out.later hb)
      have I7 := hide hI
      have hnC : nC ≤ 400 := by have h1 := hI.1; have h2 := Cs.front_len HSO.out; omega
      clear hb hI G6 R6 Q6
      go_wp2_with fail
      refine (front_any p' b' S w7 HSO.out Q7.out).mono ?_
      rintro e w8 ⟨v, rfl, hb, sE, nE, cE, rfl, hI⟩
      have G8 := hide (Grow.trans' G7.out hb)
      have R8 := hide (R7.out.later hb)
      have Q8 := hide (Q7.out.later hb)
      have C8 := hide (sameT_any sC sE cC cE nC nE S.front S.front true (by simp) w8 (by omega) (I7.out.later hb) hI)
      clear hb hI G7 R7 Q7 I7
      go_wp2_with fail
      refine (C8.out).mono ?_
      rintro e w9 ⟨rfl, hb⟩
      have G9 := hide (Grow.trans' G8.out hb)
      have R9 := hide (R8.out.later hb)
      have Q9 := hide (Q8.out.later hb)
      clear hb G8 R8 Q8 C8
      go_wp2_with fail
      go_loopw [18] (fun i wr => ∃ j : Nat, j ≤ k ∧ i = .int .i64 j ∧ Grow w wr ∧ RepC wr p b S ∧ RepC wr p' b' S) (fun i _ => k - (intOf i).toNat)
      case atStart => exact ⟨0, Nat.zero_le _, rfl, G9.out, R9.out, Q9.out⟩
      case round =>
        obtain ⟨j, hj, rfl, hg, hR, hQ⟩ := hrel
        have HG := hide hg
        have HR := hide hR
        have HQ := hide hQ
        clear hg hR hQ G9 R9 Q9
        by_cases hlt : j < k
        · obtain ⟨bb, o, rfl, hr1, hjd⟩ := HD.out.see j (by omega)
          obtain ⟨y, hy⟩ : ∃ y, y = d[j] := ⟨_, rfl⟩
          have HW := hide (show wfO y from by rw [hy]; exact HD.out.wf _ (List.getElem_mem _))
          obtain ⟨p0, p1, p2, p3, p4, p5⟩ := (hr1.later HG.out).at j hjd
          rw [← hy] at p0 p1 p2 p3 p4 p5
          obtain ⟨c, hc⟩ : ∃ c, S.f y.t = c := ⟨_, rfl⟩
          have C1 := hide (fun dd os => Calls.regrown_of (count_at p b S y.t hc (grow (redrawn wr dd) os) HW.out.1 (HR.out.later (below_regrown wr dd os))))
          have C2 := hide (fun dd os => Calls.regrown_of (count_at p' b' S y.t hc (grow (redrawn wr dd) os) HW.out.1 (HQ.out.later (below_regrown wr dd os))))
          have hi1 : (0 : Int) ≤ (j : Int) := by omega
          have hi2 : (j : Int) < (n : Int) := by omega
          have hi3 : (j : Int) < (k : Int) := by omega
          have sp0 := cell_regrown p0; have sp1 := cell_regrown p1; have sp2 := cell_regrown p2; have sp3 := cell_regrown p3; have sp4 := cell_regrown p4
          clear hr1 hy hc
          go_wp2_with fail
          refine wp_region_quiet_below (by kernel_rfl) (by kernel_rfl) ?_
          repeat (go_big_quiet_step (first | exact C1.out _ _ | exact C2.out _ _))
          refine wpQuiet_nil ?_
          intro _ hw'
          obtain ⟨⟨dq, osq⟩, hw''⟩ := hw'
          subst hw''
          have GB := hide (Grow.trans' HG.out (below_regrown wr dq osq))
          have RB := hide (HR.out.later (below_regrown wr dq osq))
          have QB := hide (HQ.out.later (below_regrown wr dq osq))
          clear C1 C2 sp0 sp1 sp2 sp3 sp4 p0 p1 p2 p3 p4 p5
          generalize grow (redrawn wr dq) osq = wc at *
          go_wp2_with fail
          go_roundw
          case rel => exact ⟨j + 1, by omega, by go_num, GB.out, RB.out, QB.out⟩
          case measure => simp [intOf]; omega
        · have hi3 : ¬ (j : Int) < (k : Int) := by omega
          go_wp2_with fail
          go_ret
          exact ⟨rfl, HG.out⟩

end Go.Proofs.Ytpkhmhigoafklaa
