/-
  BagCounts: for every two rows of records (the first hundred of each): each record is in what is joined as often as in both together, in what is left as much less often as it is in the second, and Same is told just if each is as often in both; the call returns true and leaves its arguments as they were. No conditions.
-/
import Derived.Test.YtkmgbhehhdjmlaaGLw
namespace Go.Proofs.Ytkmgbhehhdjmlaa
set_option maxRecDepth 100000
open Go.ChangeShapes Go.WideShapes Go.ChangeAt Go.RowKit Go.Deep Go.Sort
attribute [local go_sem ↓] run_maxI
set_option linter.unusedVariables false
set_option linter.unusedSimpArgs false

theorem many_is (s : Option Addr) (n cap : Nat) (d : List Rc) (x : Rc) {v : Int} (hv : (d.count x : Int) = v) (w : World) (hbig : n ≤ 1000000) (hd : IsRcs w s n cap d) :
    Calls Try.prog 26 #[.slice s n cap, .agg #[.int .i64 x.k, .int .i64 x.v]] w fun e w' => e = .returned (.int .i64 v) ∧ Grow w w' := by rw [← hv]; exact many_at s n cap d x w hbig hd
theorem same_counts (A B : List Rc) : (A.length = B.length ∧ ∀ j (h : j < A.length), A.count A[j] = B.count A[j]) ↔ srt A = srt B := by
  rw [srt_eq_iff]
  constructor
  · rintro ⟨hl, hc⟩
    have hmem : ∀ x ∈ A, A.count x = B.count x := fun x hx => by
      obtain ⟨j, hj, rfl⟩ := List.mem_iff_getElem.1 hx
      exact hc j hj
    have hp : (A ++ mns B A).Perm B := by
      rw [List.perm_iff_count]
      intro x
      rw [List.count_append, mns_count]
      by_cases hx : x ∈ A
      · have := hmem x hx; omega
      · have := List.count_eq_zero_of_not_mem hx; omega
    have hlen := hp.length_eq
    rw [List.length_append] at hlen
    have h0 : mns B A = [] := List.eq_nil_of_length_eq_zero (by omega)
    rw [h0, List.append_nil] at hp
    exact hp
  · intro hp
    exact ⟨hp.length_eq, fun j h => hp.count_eq _⟩
/-- Whether the first k are as often in both. -/
def SameTo (A B : List Rc) (k : Nat) : Prop := A.length = B.length ∧ ∀ j (h : j < A.length), j < k → A.count A[j] = B.count A[j]
theorem sameTo_zero (A B : List Rc) : SameTo A B 0 ↔ A.length = B.length := ⟨fun h => h.1, fun h => ⟨h, fun j _ hj => by omega⟩⟩
theorem sameTo_succ (A B : List Rc) (k : Nat) (h : k < A.length) : SameTo A B (k + 1) ↔ SameTo A B k ∧ A.count A[k] = B.count A[k] := by
  constructor
  · rintro ⟨h1, h2⟩
    exact ⟨⟨h1, fun j hj hk => h2 j hj (by omega)⟩, h2 k h (by omega)⟩
  · rintro ⟨⟨h1, h2⟩, h3⟩
    refine ⟨h1, fun j hj hk => ?_⟩
    by_cases e : j = k
    · subst e; exact h3
    · exact h2 j hj (by omega)
theorem sameTo_all (A B : List Rc) (k : Nat) (h : A.length ≤ k) : SameTo A B k ↔ srt A = srt B := by
  rw [← same_counts]
  exact ⟨fun ⟨h1, h2⟩ => ⟨h1, fun j hj => h2 j hj (by omega)⟩, fun ⟨h1, h2⟩ => ⟨h1, fun j hj _ => h2 j hj⟩⟩

set_option maxHeartbeats 4000000 in
theorem BagCounts_ll (s : Option Addr) (s' : Option Addr) (n m cap cap' : Nat) (A B : List Rc) (w : World) (hn : ¬ (100 : Int) < (n : Int)) (hm : ¬ (100 : Int) < (m : Int))
    (hcA : (100 : Int) ≤ (cap : Int) ∨ n ≤ 100) (hcB : (100 : Int) ≤ (cap' : Int) ∨ m ≤ 100) (hA : IsRcs w s n cap A) (hB : IsRcs w s' m cap' B) (hwA : ∀ r ∈ A, RcWf r) (hwB : ∀ r ∈ B, RcWf r) :
    Calls Try.prog 6 #[.slice s n cap, .slice s' m cap'] w fun e w' => e = .returned (.bool true) ∧ Grow w w' := by
  have HA := hide hA
  have HB := hide hB
  have WA := hide hwA
  have WB := hide hwB
  clear hA hB hwA hwB hcA hcB
  go_enter Try.func6, Try.ntmps6
  go_wp2_with fail
  refine (shown_any _).mono ?_
  rintro e w1 ⟨rfl, hb⟩
  have G1 := hide hb
  have HA1 := hide (HA.out.later hb)
  have HB1 := hide (HB.out.later hb)
  have C2 := hide (join2_at s s' n m cap cap' A B w1 (HA.out.later hb) (HB.out.later hb) (by omega) (by omega))
  clear hb HA HB
  go_wp2_with fail
  refine (C2.out).mono ?_
  rintro e w2 ⟨sJ, nJ, cJ, rfl, hb, hI, hnJ⟩
  have hbJ : nJ ≤ 200 := by omega
  have HNJ := hide hnJ
  have G2 := hide (Grow.trans' G1.out hb)
  have HA2 := hide (HA1.out.later hb)
  have HB2 := hide (HB1.out.later hb)
  have HJ2 := hide hI
  have C3 := hide (minusN_at s s' n m cap cap' A B w2 (by omega) (by omega) WA.out WB.out (HA1.out.later hb) (HB1.out.later hb))
  clear hb hI hnJ HA1 HB1 G1 C2
  go_wp2_with fail
  refine (C3.out).mono ?_
  rintro e w3 ⟨sM, nM, cM, rfl, hb, hI, hnM⟩
  have hbM : nM ≤ 100 := by omega
  have G3 := hide (Grow.trans' G2.out hb)
  have HA3 := hide (HA2.out.later hb)
  have HB3 := hide (HB2.out.later hb)
  have HJ3 := hide (HJ2.out.later hb)
  have HM3 := hide hI
  clear hb hI hnM HA2 HB2 HJ2 G2 C3
  go_wp2_with fail
  go_loopw [8, 9] (fun v i wr => ∃ (k : Nat) (q : Bool), k ≤ n ∧ v = .bool q ∧ i = .int .i64 k ∧ Grow w3 wr ∧ (q = true ↔ SameTo A B k)) (fun _ i _ => n - (intOf i).toNat)
  case atStart =>
    refine ⟨0, _, Nat.zero_le _, rfl, rfl, Grow.rfl' _, ?_⟩
    rw [sameTo_zero, HA3.out.1, HB3.out.1]
    simp <;> omega
  case round =>
    obtain ⟨k, q, hk, rfl, rfl, hg, hq⟩ := hrel
    have HG := hide hg
    have HQ := hide hq
    clear hq
    by_cases hlt : k < n
    · have hkA : k < A.length := by rw [HA3.out.1]; exact hlt
      have hne : ¬ A = [] := fun h => by rw [h] at hkA; simp at hkA
      have HSU := hide (sameTo_succ A B k hkA)
      obtain ⟨b0, o0, hs0, hr0⟩ := HA3.out.2.2.resolve_left hne
      subst hs0
      have R0 := hide (hr0.later hg)
      obtain ⟨x, hx⟩ : ∃ x, x = A[k] := ⟨_, rfl⟩
      rw [← hx] at HSU
      have HX := hide hx
      obtain ⟨cx, hcx⟩ : ∃ cx : Nat, cx = A.count x := ⟨_, rfl⟩
      obtain ⟨cy, hcy⟩ : ∃ cy : Nat, cy = B.count x := ⟨_, rfl⟩
      have hx1 : cx ≤ 100 := by have := List.count_le_length (a := x) (l := A); rw [HA3.out.1] at this; omega
      have hy1 : cy ≤ 100 := by have := List.count_le_length (a := x) (l := B); rw [HB3.out.1] at this; omega
      have HCX := hide hcx
      have HCY := hide hcy
      have hi1 : (0 : Int) ≤ (k : Int) := by omega
      have hi2 : (k : Int) < (n : Int) := by omega
      have hx2 : (0 : Int) ≤ (cx : Int) := by omega
      have hx3 : (cx : Int) ≤ 100 := by omega
      have hy2 : (0 : Int) ≤ (cy : Int) := by omega
      have hy3 : (cy : Int) ≤ 100 := by omega
      obtain ⟨p0, p1⟩ := R0.out.at k hkA
      rw [← hx] at p0 p1
      have hwf2 : IntKind.i64.wrap ((cx : Int) - (cy : Int)) = (cx : Int) - (cy : Int) := IntWalk.i64_in _ ⟨by omega, by omega⟩
      have hwf3 : IntKind.i64.wrap ((cx : Int) + (cy : Int)) = (cx : Int) + (cy : Int) := IntWalk.i64_in _ ⟨by omega, by omega⟩
      have C4 := hide (many_is _ _ cap A x (v := (cx : Int)) (by rw [HCX.out]) wr (by omega) (HA3.out.later hg))
      clear hne hr0 hx hcx hcy hg hx1 hy1
      cases q
      all_goals
        go_wp2_with fail
        refine (C4.out).mono ?_
        rintro e w4 ⟨rfl, hb⟩
        have G4 := hide hb
        clear p0 p1 hb
        obtain ⟨p0, p1⟩ := (R0.out.later G4.out).at k hkA
        rw [← HX.out] at p0 p1
        have C5 := hide (many_is _ _ cap' B x (v := (cy : Int)) (by rw [HCY.out]) w4 (by omega) (HB3.out.later (Grow.trans' HG.out G4.out)))
        go_wp2_with fail
        refine (C5.out).mono ?_
        rintro e w5 ⟨rfl, hb⟩
        have G5 := hide (Grow.trans' G4.out hb)
        clear p0 p1 hb
        obtain ⟨p0, p1⟩ := (R0.out.later G5.out).at k hkA
        rw [← HX.out] at p0 p1
        have C6 := hide (many_is sJ nJ cJ (srt (A ++ B)) x (v := (cx : Int) + (cy : Int)) (by rw [srt_count, List.count_append, HCX.out, HCY.out]; omega) w5 (by omega) (HJ3.out.later (Grow.trans' HG.out G5.out)))
        go_wp2_with fail
        refine (C6.out).mono ?_
        rintro e w6 ⟨rfl, hb⟩
        have G6 := hide (Grow.trans' G5.out hb)
        clear p0 p1 hb
        obtain ⟨p0, p1⟩ := (R0.out.later G6.out).at k hkA
        rw [← HX.out] at p0 p1
        have C7 := hide (many_is sM nM cM (mns A B) x (v := maxI 0 ((cx : Int) - (cy : Int))) (by rw [mns_count, ← HCX.out, ← HCY.out]; unfold maxI; split <;> omega) w6 (by omega) (HM3.out.later (Grow.trans' HG.out G6.out)))
        go_wp2_with fail
        refine (C7.out).mono ?_
        rintro e w7 ⟨rfl, hb⟩
        have G7 := hide (Grow.trans' HG.out (Grow.trans' G6.out hb))
        clear p0 p1 hb
        go_wp2_with fail
        go_roundw
        case rel =>
          refine ⟨k + 1, _, by omega, rfl, by go_num, G7.out, ?_⟩
          rw [HSU.out, ← HQ.out, ← HCX.out, ← HCY.out]
          simp <;> omega
        case measure => simp [intOf]; omega
    · have hkn : k = n := by omega
      have HP := hide (HQ.out.trans (sameTo_all A B k (by rw [HA3.out.1]; omega)))
      have hlen : (nJ : Int) = (n : Int) + (m : Int) := by have := HNJ.out; omega
      have C4 := hide (same_at s s' n m cap cap' A B q HP.out wr (by omega) (HA3.out.later hg) (HB3.out.later hg))
      clear hg
      cases q
      all_goals
        go_wp2_with fail
        refine (C4.out).mono ?_
        rintro e w4 ⟨rfl, hb⟩
        have G4 := hide (Grow.trans' G3.out (Grow.trans' HG.out hb))
        clear hb
        go_wp2_with fail
        go_ret
        exact ⟨rfl, G4.out⟩
set_option maxHeartbeats 4000000 in
theorem BagCounts_hl (ba oa : Nat) (s' : Option Addr) (n m cap cap' : Nat) (A B : List Rc) (w : World) (hn : (100 : Int) < (n : Int)) (hm : ¬ (100 : Int) < (m : Int))
    (hcA : (100 : Int) ≤ (cap : Int) ∨ n ≤ 100) (hcB : (100 : Int) ≤ (cap' : Int) ∨ m ≤ 100) (hA : IsRcs w (some ⟨ba, oa, none⟩) 100 cap A) (hB : IsRcs w s' m cap' B) (hwA : ∀ r ∈ A, RcWf r) (hwB : ∀ r ∈ B, RcWf r) :
    Calls Try.prog 6 #[.slice (some ⟨ba, oa, none⟩) n cap, .slice s' m cap'] w fun e w' => e = .returned (.bool true) ∧ Grow w w' := by
  have HA := hide hA
  have HB := hide hB
  have WA := hide hwA
  have WB := hide hwB
  have hc1 : (100 : Int) ≤ (cap : Int) := by omega
  clear hA hB hwA hwB hcA hcB
  go_enter Try.func6, Try.ntmps6
  go_wp2_with fail
  refine (shown_any _).mono ?_
  rintro e w1 ⟨rfl, hb⟩
  have G1 := hide hb
  have HA1 := hide (HA.out.later hb)
  have HB1 := hide (HB.out.later hb)
  have C2 := hide (join2_at (some ⟨ba, oa, none⟩) s' 100 m cap cap' A B w1 (HA.out.later hb) (HB.out.later hb) (by omega) (by omega))
  clear hb HA HB
  go_wp2_with fail
  refine (C2.out).mono ?_
  rintro e w2 ⟨sJ, nJ, cJ, rfl, hb, hI, hnJ⟩
  have hbJ : nJ ≤ 200 := by omega
  have HNJ := hide hnJ
  have G2 := hide (Grow.trans' G1.out hb)
  have HA2 := hide (HA1.out.later hb)
  have HB2 := hide (HB1.out.later hb)
  have HJ2 := hide hI
  have C3 := hide (minusN_at (some ⟨ba, oa, none⟩) s' 100 m cap cap' A B w2 (by omega) (by omega) WA.out WB.out (HA1.out.later hb) (HB1.out.later hb))
  clear hb hI hnJ HA1 HB1 G1 C2
  go_wp2_with fail
  refine (C3.out).mono ?_
  rintro e w3 ⟨sM, nM, cM, rfl, hb, hI, hnM⟩
  have hbM : nM ≤ 100 := by omega
  have G3 := hide (Grow.trans' G2.out hb)
  have HA3 := hide (HA2.out.later hb)
  have HB3 := hide (HB2.out.later hb)
  have HJ3 := hide (HJ2.out.later hb)
  have HM3 := hide hI
  clear hb hI hnM HA2 HB2 HJ2 G2 C3
  go_wp2_with fail
  go_loopw [8, 9] (fun v i wr => ∃ (k : Nat) (q : Bool), k ≤ 100 ∧ v = .bool q ∧ i = .int .i64 k ∧ Grow w3 wr ∧ (q = true ↔ SameTo A B k)) (fun _ i _ => 100 - (intOf i).toNat)
  case atStart =>
    refine ⟨0, _, Nat.zero_le _, rfl, rfl, Grow.rfl' _, ?_⟩
    rw [sameTo_zero, HA3.out.1, HB3.out.1]
    simp <;> omega
  case round =>
    obtain ⟨k, q, hk, rfl, rfl, hg, hq⟩ := hrel
    have HG := hide hg
    have HQ := hide hq
    clear hq
    by_cases hlt : k < 100
    · have hkA : k < A.length := by rw [HA3.out.1]; exact hlt
      have hne : ¬ A = [] := fun h => by rw [h] at hkA; simp at hkA
      have HSU := hide (sameTo_succ A B k hkA)
      obtain ⟨b0, o0, hs0, hr0⟩ := HA3.out.2.2.resolve_left hne
      obtain ⟨rfl, rfl⟩ : ba = b0 ∧ oa = o0 := by cases hs0; exact ⟨rfl, rfl⟩
      have R0 := hide (hr0.later hg)
      obtain ⟨x, hx⟩ : ∃ x, x = A[k] := ⟨_, rfl⟩
      rw [← hx] at HSU
      have HX := hide hx
      obtain ⟨cx, hcx⟩ : ∃ cx : Nat, cx = A.count x := ⟨_, rfl⟩
      obtain ⟨cy, hcy⟩ : ∃ cy : Nat, cy = B.count x := ⟨_, rfl⟩
      have hx1 : cx ≤ 100 := by have := List.count_le_length (a := x) (l := A); rw [HA3.out.1] at this; omega
      have hy1 : cy ≤ 100 := by have := List.count_le_length (a := x) (l := B); rw [HB3.out.1] at this; omega
      have HCX := hide hcx
      have HCY := hide hcy
      have hi1 : (0 : Int) ≤ (k : Int) := by omega
      have hi2 : (k : Int) < (100 : Int) := by omega
      have hx2 : (0 : Int) ≤ (cx : Int) := by omega
      have hx3 : (cx : Int) ≤ 100 := by omega
      have hy2 : (0 : Int) ≤ (cy : Int) := by omega
      have hy3 : (cy : Int) ≤ 100 := by omega
      obtain ⟨p0, p1⟩ := R0.out.at k hkA
      rw [← hx] at p0 p1
      have hwf2 : IntKind.i64.wrap ((cx : Int) - (cy : Int)) = (cx : Int) - (cy : Int) := IntWalk.i64_in _ ⟨by omega, by omega⟩
      have hwf3 : IntKind.i64.wrap ((cx : Int) + (cy : Int)) = (cx : Int) + (cy : Int) := IntWalk.i64_in _ ⟨by omega, by omega⟩
      have C4 := hide (many_is _ _ cap A x (v := (cx : Int)) (by rw [HCX.out]) wr (by omega) (HA3.out.later hg))
      clear hne hr0 hx hcx hcy hg hx1 hy1
      cases q
      all_goals
        go_wp2_with fail
        refine (C4.out).mono ?_
        rintro e w4 ⟨rfl, hb⟩
        have G4 := hide hb
        clear p0 p1 hb
        obtain ⟨p0, p1⟩ := (R0.out.later G4.out).at k hkA
        rw [← HX.out] at p0 p1
        have C5 := hide (many_is _ _ cap' B x (v := (cy : Int)) (by rw [HCY.out]) w4 (by omega) (HB3.out.later (Grow.trans' HG.out G4.out)))
        go_wp2_with fail
        refine (C5.out).mono ?_
        rintro e w5 ⟨rfl, hb⟩
        have G5 := hide (Grow.trans' G4.out hb)
        clear p0 p1 hb
        obtain ⟨p0, p1⟩ := (R0.out.later G5.out).at k hkA
        rw [← HX.out] at p0 p1
        have C6 := hide (many_is sJ nJ cJ (srt (A ++ B)) x (v := (cx : Int) + (cy : Int)) (by rw [srt_count, List.count_append, HCX.out, HCY.out]; omega) w5 (by omega) (HJ3.out.later (Grow.trans' HG.out G5.out)))
        go_wp2_with fail
        refine (C6.out).mono ?_
        rintro e w6 ⟨rfl, hb⟩
        have G6 := hide (Grow.trans' G5.out hb)
        clear p0 p1 hb
        obtain ⟨p0, p1⟩ := (R0.out.later G6.out).at k hkA
        rw [← HX.out] at p0 p1
        have C7 := hide (many_is sM nM cM (mns A B) x (v := maxI 0 ((cx : Int) - (cy : Int))) (by rw [mns_count, ← HCX.out, ← HCY.out]; unfold maxI; split <;> omega) w6 (by omega) (HM3.out.later (Grow.trans' HG.out G6.out)))
        go_wp2_with fail
        refine (C7.out).mono ?_
        rintro e w7 ⟨rfl, hb⟩
        have G7 := hide (Grow.trans' HG.out (Grow.trans' G6.out hb))
        clear p0 p1 hb
        go_wp2_with fail
        go_roundw
        case rel =>
          refine ⟨k + 1, _, by omega, rfl, by go_num, G7.out, ?_⟩
          rw [HSU.out, ← HQ.out, ← HCX.out, ← HCY.out]
          simp <;> omega
        case measure => simp [intOf]; omega
    · have hkn : k = 100 := by omega
      have HP := hide (HQ.out.trans (sameTo_all A B k (by rw [HA3.out.1]; omega)))
      have hlen : (nJ : Int) = (100 : Int) + (m : Int) := by have := HNJ.out; omega
      have C4 := hide (same_at (some ⟨ba, oa, none⟩) s' 100 m cap cap' A B q HP.out wr (by omega) (HA3.out.later hg) (HB3.out.later hg))
      clear hg
      cases q
      all_goals
        go_wp2_with fail
        refine (C4.out).mono ?_
        rintro e w4 ⟨rfl, hb⟩
        have G4 := hide (Grow.trans' G3.out (Grow.trans' HG.out hb))
        clear hb
        go_wp2_with fail
        go_ret
        exact ⟨rfl, G4.out⟩
set_option maxHeartbeats 4000000 in
theorem BagCounts_lh (s : Option Addr) (bb ob : Nat) (n m cap cap' : Nat) (A B : List Rc) (w : World) (hn : ¬ (100 : Int) < (n : Int)) (hm : (100 : Int) < (m : Int))
    (hcA : (100 : Int) ≤ (cap : Int) ∨ n ≤ 100) (hcB : (100 : Int) ≤ (cap' : Int) ∨ m ≤ 100) (hA : IsRcs w s n cap A) (hB : IsRcs w (some ⟨bb, ob, none⟩) 100 cap' B) (hwA : ∀ r ∈ A, RcWf r) (hwB : ∀ r ∈ B, RcWf r) :
    Calls Try.prog 6 #[.slice s n cap, .slice (some ⟨bb, ob, none⟩) m cap'] w fun e w' => e = .returned (.bool true) ∧ Grow w w' := by
  have HA := hide hA
  have HB := hide hB
  have WA := hide hwA
  have WB := hide hwB
  have hc2 : (100 : Int) ≤ (cap' : Int) := by omega
  clear hA hB hwA hwB hcA hcB
  go_enter Try.func6, Try.ntmps6
  go_wp2_with fail
  refine (shown_any _).mono ?_
  rintro e w1 ⟨rfl, hb⟩
  have G1 := hide hb
  have HA1 := hide (HA.out.later hb)
  have HB1 := hide (HB.out.later hb)
  have C2 := hide (join2_at s (some ⟨bb, ob, none⟩) n 100 cap cap' A B w1 (HA.out.later hb) (HB.out.later hb) (by omega) (by omega))
  clear hb HA HB
  go_wp2_with fail
  refine (C2.out).mono ?_
  rintro e w2 ⟨sJ, nJ, cJ, rfl, hb, hI, hnJ⟩
  have hbJ : nJ ≤ 200 := by omega
  have HNJ := hide hnJ
  have G2 := hide (Grow.trans' G1.out hb)
  have HA2 := hide (HA1.out.later hb)
  have HB2 := hide (HB1.out.later hb)
  have HJ2 := hide hI
  have C3 := hide (minusN_at s (some ⟨bb, ob, none⟩) n 100 cap cap' A B w2 (by omega) (by omega) WA.out WB.out (HA1.out.later hb) (HB1.out.later hb))
  clear hb hI hnJ HA1 HB1 G1 C2
  go_wp2_with fail
  refine (C3.out).mono ?_
  rintro e w3 ⟨sM, nM, cM, rfl, hb, hI, hnM⟩
  have hbM : nM ≤ 100 := by omega
  have G3 := hide (Grow.trans' G2.out hb)
  have HA3 := hide (HA2.out.later hb)
  have HB3 := hide (HB2.out.later hb)
  have HJ3 := hide (HJ2.out.later hb)
  have HM3 := hide hI
  clear hb hI hnM HA2 HB2 HJ2 G2 C3
  go_wp2_with fail
  go_loopw [8, 9] (fun v i wr => ∃ (k : Nat) (q : Bool), k ≤ n ∧ v = .bool q ∧ i = .int .i64 k ∧ Grow w3 wr ∧ (q = true ↔ SameTo A B k)) (fun _ i _ => n - (intOf i).toNat)
  case atStart =>
    refine ⟨0, _, Nat.zero_le _, rfl, rfl, Grow.rfl' _, ?_⟩
    rw [sameTo_zero, HA3.out.1, HB3.out.1]
    simp <;> omega
  case round =>
    obtain ⟨k, q, hk, rfl, rfl, hg, hq⟩ := hrel
    have HG := hide hg
    have HQ := hide hq
    clear hq
    by_cases hlt : k < n
    · have hkA : k < A.length := by rw [HA3.out.1]; exact hlt
      have hne : ¬ A = [] := fun h => by rw [h] at hkA; simp at hkA
      have HSU := hide (sameTo_succ A B k hkA)
      obtain ⟨b0, o0, hs0, hr0⟩ := HA3.out.2.2.resolve_left hne
      subst hs0
      have R0 := hide (hr0.later hg)
      obtain ⟨x, hx⟩ : ∃ x, x = A[k] := ⟨_, rfl⟩
      rw [← hx] at HSU
      have HX := hide hx
      obtain ⟨cx, hcx⟩ : ∃ cx : Nat, cx = A.count x := ⟨_, rfl⟩
      obtain ⟨cy, hcy⟩ : ∃ cy : Nat, cy = B.count x := ⟨_, rfl⟩
      have hx1 : cx ≤ 100 := by have := List.count_le_length (a := x) (l := A); rw [HA3.out.1] at this; omega
      have hy1 : cy ≤ 100 := by have := List.count_le_length (a := x) (l := B); rw [HB3.out.1] at this; omega
      have HCX := hide hcx
      have HCY := hide hcy
      have hi1 : (0 : Int) ≤ (k : Int) := by omega
      have hi2 : (k : Int) < (n : Int) := by omega
      have hx2 : (0 : Int) ≤ (cx : Int) := by omega
      have hx3 : (cx : Int) ≤ 100 := by omega
      have hy2 : (0 : Int) ≤ (cy : Int) := by omega
      have hy3 : (cy : Int) ≤ 100 := by omega
      obtain ⟨p0, p1⟩ := R0.out.at k hkA
      rw [← hx] at p0 p1
      have hwf2 : IntKind.i64.wrap ((cx : Int) - (cy : Int)) = (cx : Int) - (cy : Int) := IntWalk.i64_in _ ⟨by omega, by omega⟩
      have hwf3 : IntKind.i64.wrap ((cx : Int) + (cy : Int)) = (cx : Int) + (cy : Int) := IntWalk.i64_in _ ⟨by omega, by omega⟩
      have C4 := hide (many_is _ _ cap A x (v := (cx : Int)) (by rw [HCX.out]) wr (by omega) (HA3.out.later hg))
      clear hne hr0 hx hcx hcy hg hx1 hy1
      cases q
      all_goals
        go_wp2_with fail
        refine (C4.out).mono ?_
        rintro e w4 ⟨rfl, hb⟩
        have G4 := hide hb
        clear p0 p1 hb
        obtain ⟨p0, p1⟩ := (R0.out.later G4.out).at k hkA
        rw [← HX.out] at p0 p1
        have C5 := hide (many_is _ _ cap' B x (v := (cy : Int)) (by rw [HCY.out]) w4 (by omega) (HB3.out.later (Grow.trans' HG.out G4.out)))
        go_wp2_with fail
        refine (C5.out).mono ?_
        rintro e w5 ⟨rfl, hb⟩
        have G5 := hide (Grow.trans' G4.out hb)
        clear p0 p1 hb
        obtain ⟨p0, p1⟩ := (R0.out.later G5.out).at k hkA
        rw [← HX.out] at p0 p1
        have C6 := hide (many_is sJ nJ cJ (srt (A ++ B)) x (v := (cx : Int) + (cy : Int)) (by rw [srt_count, List.count_append, HCX.out, HCY.out]; omega) w5 (by omega) (HJ3.out.later (Grow.trans' HG.out G5.out)))
        go_wp2_with fail
        refine (C6.out).mono ?_
        rintro e w6 ⟨rfl, hb⟩
        have G6 := hide (Grow.trans' G5.out hb)
        clear p0 p1 hb
        obtain ⟨p0, p1⟩ := (R0.out.later G6.out).at k hkA
        rw [← HX.out] at p0 p1
        have C7 := hide (many_is sM nM cM (mns A B) x (v := maxI 0 ((cx : Int) - (cy : Int))) (by rw [mns_count, ← HCX.out, ← HCY.out]; unfold maxI; split <;> omega) w6 (by omega) (HM3.out.later (Grow.trans' HG.out G6.out)))
        go_wp2_with fail
        refine (C7.out).mono ?_
        rintro e w7 ⟨rfl, hb⟩
        have G7 := hide (Grow.trans' HG.out (Grow.trans' G6.out hb))
        clear p0 p1 hb
        go_wp2_with fail
        go_roundw
        case rel =>
          refine ⟨k + 1, _, by omega, rfl, by go_num, G7.out, ?_⟩
          rw [HSU.out, ← HQ.out, ← HCX.out, ← HCY.out]
          simp <;> omega
        case measure => simp [intOf]; omega
    · have hkn : k = n := by omega
      have HP := hide (HQ.out.trans (sameTo_all A B k (by rw [HA3.out.1]; omega)))
      have hlen : (nJ : Int) = (n : Int) + (100 : Int) := by have := HNJ.out; omega
      have C4 := hide (same_at s (some ⟨bb, ob, none⟩) n 100 cap cap' A B q HP.out wr (by omega) (HA3.out.later hg) (HB3.out.later hg))
      clear hg
      cases q
      all_goals
        go_wp2_with fail
        refine (C4.out).mono ?_
        rintro e w4 ⟨rfl, hb⟩
        have G4 := hide (Grow.trans' G3.out (Grow.trans' HG.out hb))
        clear hb
        go_wp2_with fail
        go_ret
        exact ⟨rfl, G4.out⟩
set_option maxHeartbeats 4000000 in
theorem BagCounts_hh (ba oa : Nat) (bb ob : Nat) (n m cap cap' : Nat) (A B : List Rc) (w : World) (hn : (100 : Int) < (n : Int)) (hm : (100 : Int) < (m : Int))
    (hcA : (100 : Int) ≤ (cap : Int) ∨ n ≤ 100) (hcB : (100 : Int) ≤ (cap' : Int) ∨ m ≤ 100) (hA : IsRcs w (some ⟨ba, oa, none⟩) 100 cap A) (hB : IsRcs w (some ⟨bb, ob, none⟩) 100 cap' B) (hwA : ∀ r ∈ A, RcWf r) (hwB : ∀ r ∈ B, RcWf r) :
    Calls Try.prog 6 #[.slice (some ⟨ba, oa, none⟩) n cap, .slice (some ⟨bb, ob, none⟩) m cap'] w fun e w' => e = .returned (.bool true) ∧ Grow w w' := by
  have HA := hide hA
  have HB := hide hB
  have WA := hide hwA
  have WB := hide hwB
  have hc1 : (100 : Int) ≤ (cap : Int) := by omega
  have hc2 : (100 : Int) ≤ (cap' : Int) := by omega
  clear hA hB hwA hwB hcA hcB
  go_enter Try.func6, Try.ntmps6
  go_wp2_with fail
  refine (shown_any _).mono ?_
  rintro e w1 ⟨rfl, hb⟩
  have G1 := hide hb
  have HA1 := hide (HA.out.later hb)
  have HB1 := hide (HB.out.later hb)
  have C2 := hide (join2_at (some ⟨ba, oa, none⟩) (some ⟨bb, ob, none⟩) 100 100 cap cap' A B w1 (HA.out.later hb) (HB.out.later hb) (by omega) (by omega))
  clear hb HA HB
  go_wp2_with fail
  refine (C2.out).mono ?_
  rintro e w2 ⟨sJ, nJ, cJ, rfl, hb, hI, hnJ⟩
  have hbJ : nJ ≤ 200 := by omega
  have HNJ := hide hnJ
  have G2 := hide (Grow.trans' G1.out hb)
  have HA2 := hide (HA1.out.later hb)
  have HB2 := hide (HB1.out.later hb)
  have HJ2 := hide hI
  have C3 := hide (minusN_at (some ⟨ba, oa, none⟩) (some ⟨bb, ob, none⟩) 100 100 cap cap' A B w2 (by omega) (by omega) WA.out WB.out (HA1.out.later hb) (HB1.out.later hb))
  clear hb hI hnJ HA1 HB1 G1 C2
  go_wp2_with fail
  refine (C3.out).mono ?_
  rintro e w3 ⟨sM, nM, cM, rfl, hb, hI, hnM⟩
  have hbM : nM ≤ 100 := by omega
  have G3 := hide (Grow.trans' G2.out hb)
  have HA3 := hide (HA2.out.later hb)
  have HB3 := hide (HB2.out.later hb)
  have HJ3 := hide (HJ2.out.later hb)
  have HM3 := hide hI
  clear hb hI hnM HA2 HB2 HJ2 G2 C3
  go_wp2_with fail
  go_loopw [8, 9] (fun v i wr => ∃ (k : Nat) (q : Bool), k ≤ 100 ∧ v = .bool q ∧ i = .int .i64 k ∧ Grow w3 wr ∧ (q = true ↔ SameTo A B k)) (fun _ i _ => 100 - (intOf i).toNat)
  case atStart =>
    refine ⟨0, _, Nat.zero_le _, rfl, rfl, Grow.rfl' _, ?_⟩
    rw [sameTo_zero, HA3.out.1, HB3.out.1]
    simp <;> omega
  case round =>
    obtain ⟨k, q, hk, rfl, rfl, hg, hq⟩ := hrel
    have HG := hide hg
    have HQ := hide hq
    clear hq
    by_cases hlt : k < 100
    · have hkA : k < A.length := by rw [HA3.out.1]; exact hlt
      have hne : ¬ A = [] := fun h => by rw [h] at hkA; simp at hkA
      have HSU := hide (sameTo_succ A B k hkA)
      obtain ⟨b0, o0, hs0, hr0⟩ := HA3.out.2.2.resolve_left hne
      obtain ⟨rfl, rfl⟩ : ba = b0 ∧ oa = o0 := by cases hs0; exact ⟨rfl, rfl⟩
      have R0 := hide (hr0.later hg)
      obtain ⟨x, hx⟩ : ∃ x, x = A[k] := ⟨_, rfl⟩
      rw [← hx] at HSU
      have HX := hide hx
      obtain ⟨cx, hcx⟩ : ∃ cx : Nat, cx = A.count x := ⟨_, rfl⟩
      obtain ⟨cy, hcy⟩ : ∃ cy : Nat, cy = B.count x := ⟨_, rfl⟩
      have hx1 : cx ≤ 100 := by have := List.count_le_length (a := x) (l := A); rw [HA3.out.1] at this; omega
      have hy1 : cy ≤ 100 := by have := List.count_le_length (a := x) (l := B); rw [HB3.out.1] at this; omega
      have HCX := hide hcx
      have HCY := hide hcy
      have hi1 : (0 : Int) ≤ (k : Int) := by omega
      have hi2 : (k : Int) < (100 : Int) := by omega
      have hx2 : (0 : Int) ≤ (cx : Int) := by omega
      have hx3 : (cx : Int) ≤ 100 := by omega
      have hy2 : (0 : Int) ≤ (cy : Int) := by omega
      have hy3 : (cy : Int) ≤ 100 := by omega
      obtain ⟨p0, p1⟩ := R0.out.at k hkA
      rw [← hx] at p0 p1
      have hwf2 : IntKind.i64.wrap ((cx : Int) - (cy : Int)) = (cx : Int) - (cy : Int) := IntWalk.i64_in _ ⟨by omega, by omega⟩
      have hwf3 : IntKind.i64.wrap ((cx : Int) + (cy : Int)) = (cx : Int) + (cy : Int) := IntWalk.i64_in _ ⟨by omega, by omega⟩
      have C4 := hide (many_is _ _ cap A x (v := (cx : Int)) (by rw [HCX.out]) wr (by omega) (HA3.out.later hg))
      clear hne hr0 hx hcx hcy hg hx1 hy1
      cases q
      all_goals
        go_wp2_with fail
        refine (C4.out).mono ?_
        rintro e w4 ⟨rfl, hb⟩
        have G4 := hide hb
        clear p0 p1 hb
        obtain ⟨p0, p1⟩ := (R0.out.later G4.out).at k hkA
        rw [← HX.out] at p0 p1
        have C5 := hide (many_is _ _ cap' B x (v := (cy : Int)) (by rw [HCY.out]) w4 (by omega) (HB3.out.later (Grow.trans' HG.out G4.out)))
        go_wp2_with fail
        refine (C5.out).mono ?_
        rintro e w5 ⟨rfl, hb⟩
        have G5 := hide (Grow.trans' G4.out hb)
        clear p0 p1 hb
        obtain ⟨p0, p1⟩ := (R0.out.later G5.out).at k hkA
        rw [← HX.out] at p0 p1
        have C6 := hide (many_is sJ nJ cJ (srt (A ++ B)) x (v := (cx : Int) + (cy : Int)) (by rw [srt_count, List.count_append, HCX.out, HCY.out]; omega) w5 (by omega) (HJ3.out.later (Grow.trans' HG.out G5.out)))
        go_wp2_with fail
        refine (C6.out).mono ?_
        rintro e w6 ⟨rfl, hb⟩
        have G6 := hide (Grow.trans' G5.out hb)
        clear p0 p1 hb
        obtain ⟨p0, p1⟩ := (R0.out.later G6.out).at k hkA
        rw [← HX.out] at p0 p1
        have C7 := hide (many_is sM nM cM (mns A B) x (v := maxI 0 ((cx : Int) - (cy : Int))) (by rw [mns_count, ← HCX.out, ← HCY.out]; unfold maxI; split <;> omega) w6 (by omega) (HM3.out.later (Grow.trans' HG.out G6.out)))
        go_wp2_with fail
        refine (C7.out).mono ?_
        rintro e w7 ⟨rfl, hb⟩
        have G7 := hide (Grow.trans' HG.out (Grow.trans' G6.out hb))
        clear p0 p1 hb
        go_wp2_with fail
        go_roundw
        case rel =>
          refine ⟨k + 1, _, by omega, rfl, by go_num, G7.out, ?_⟩
          rw [HSU.out, ← HQ.out, ← HCX.out, ← HCY.out]
          simp <;> omega
        case measure => simp [intOf]; omega
    · have hkn : k = 100 := by omega
      have HP := hide (HQ.out.trans (sameTo_all A B k (by rw [HA3.out.1]; omega)))
      have hlen : (nJ : Int) = (100 : Int) + (100 : Int) := by have := HNJ.out; omega
      have C4 := hide (same_at (some ⟨ba, oa, none⟩) (some ⟨bb, ob, none⟩) 100 100 cap cap' A B q HP.out wr (by omega) (HA3.out.later hg) (HB3.out.later hg))
      clear hg
      cases q
      all_goals
        go_wp2_with fail
        refine (C4.out).mono ?_
        rintro e w4 ⟨rfl, hb⟩
        have G4 := hide (Grow.trans' G3.out (Grow.trans' HG.out hb))
        clear hb
        go_wp2_with fail
        go_ret
        exact ⟨rfl, G4.out⟩

theorem cut_row {w : World} {s : Option Addr} {n cap : Nat} {d : List Rc} (h : IsRcs w s n cap d) (hn : 100 < n) : ∃ b o, s = some ⟨b, o, none⟩ ∧ IsRcs w (some ⟨b, o, none⟩) 100 cap (d.take 100) := by
  have hne : ¬ d = [] := fun e => by rw [e] at h; have := h.1; simp at this; omega
  have h2 := h.take' 100 (by omega)
  obtain ⟨b, o, rfl, _⟩ := h.2.2.resolve_left hne
  exact ⟨b, o, rfl, h2⟩
theorem BagCounts_any (s s' : Option Addr) (n m cap cap' : Nat) (d e : List Rc) (w : World) (hd : IsRcs w s n cap d ∧ ∀ r ∈ d, RcWf r) (he : IsRcs w s' m cap' e ∧ ∀ r ∈ e, RcWf r) :
    Calls Try.prog 6 #[.slice s n cap, .slice s' m cap'] w fun e w' => e = .returned (.bool true) ∧ Grow w w' := by
  have c1 := hd.1.2.1
  have c2 := he.1.2.1
  by_cases h1 : 100 < n
  · obtain ⟨ba, oa, rfl, hA⟩ := cut_row hd.1 h1
    by_cases h2 : 100 < m
    · obtain ⟨bb, ob, rfl, hB⟩ := cut_row he.1 h2
      exact BagCounts_hh ba oa bb ob n m cap cap' _ _ w (by omega) (by omega) (by omega) (by omega) hA hB (fun r hr => hd.2 r (List.mem_of_mem_take hr)) (fun r hr => he.2 r (List.mem_of_mem_take hr))
    · exact BagCounts_hl ba oa s' n m cap cap' _ _ w (by omega) (by omega) (by omega) (by omega) hA he.1 (fun r hr => hd.2 r (List.mem_of_mem_take hr)) he.2
  · by_cases h2 : 100 < m
    · obtain ⟨bb, ob, rfl, hB⟩ := cut_row he.1 h2
      exact BagCounts_lh s bb ob n m cap cap' _ _ w (by omega) (by omega) (by omega) (by omega) hd.1 hB hd.2 (fun r hr => he.2 r (List.mem_of_mem_take hr))
    · exact BagCounts_ll s s' n m cap cap' _ _ w (by omega) (by omega) (by omega) (by omega) hd.1 he.1 hd.2 he.2

set_option maxRecDepth 100000 in
theorem BagCounts_lifted (os : Os) (started : os.Started) (H : Type) (enc : TypeId × Value → H) :
    ReturnsInHanded {} Try.checked os 6 .any (Rows.bagCountsSpec.pre6 enc Try.prog Try.f6 Rows.bagCountsRow.domain false) (Rows.bagCountsSpec.post enc Try.prog Try.f6 false true false false) := by
  refine returnsInHanded_of_change (C := Try.checked) own started (by kernel_rfl) Try.func6
    (ChangeSpec.witness6 (enc := enc) (C := Try.checked) false ⟨#[], #[.slice none 0 0, .slice none 0 0], []⟩ 8 (by kernel_rfl) (by kernel_rfl) (by kernel_rfl) (by kernel_rfl)) ?_
  intro W base args ds gs before hval0 hW hcnd _
  have hval : ∀ (j : Nat) t v, Try.f6.params[j]? = some t → args[j]? = some v → Value.okWide Try.prog W .any base t v := hval0
  have hW' := hW
  obtain ⟨p, q, hA0, hV, rfl, hfz, hnd⟩ := hW
  have hA : DataW.TrodAll enc Try.prog W 0 (fun _ => true) true Try.f6.params.toList args.toList ds p := hA0
  rw [Try.params6] at hA hval
  obtain ⟨v0, vs0, d0, ds0, p0, q0, hargs, rfl, rfl, h0, r0⟩ := trodAll_cons hA
  obtain ⟨v1, vs1, d1, ds1, p1, q1, rfl, rfl, rfl, h1, r1⟩ := trodAll_cons r0
  obtain ⟨rfl, rfl, rfl⟩ := trodAll_nil r1
  obtain rfl : args = #[v0, v1] := by cases args; simp_all
  obtain ⟨rfl, rfl⟩ := trodVars_none hV
  have k0 := h0
  have lt0 : ∀ x ∈ p0, x.block < W.heap.size := by obtain ⟨m, hm⟩ := k0; exact DataW.trod_lt m _ _ _ hm
  obtain ⟨s0, len0, cap0, rfl⟩ := okWide_slice Try.underlying22 (hval 0 22 v0 rfl rfl)
  obtain ⟨z0, w0⟩ := rows_rcs h0
  have k1 := h1
  have lt1 : ∀ x ∈ p1, x.block < W.heap.size := by obtain ⟨m, hm⟩ := k1; exact DataW.trod_lt m _ _ _ hm
  obtain ⟨s1, len1, cap1, rfl⟩ := okWide_slice Try.underlying22 (hval 1 22 v1 rfl rfl)
  obtain ⟨z1, w1⟩ := rows_rcs h1
  clear hA0 hval0
  refine (BagCounts_any s0 s1 len0 len1 cap0 cap1 z0 z1 W w0 w1).mono fun e W' ⟨he, bel⟩ => ?_
  subst he
  exact ⟨_, rfl, _, _, _, [], _, [], hW', trodAll_mk1 (shut_bool Try.underlying4 _), (trodAll_cons_mk (Below.trod laidOut (by kernel_rfl) (of_decide_eq_true (by kernel_rfl)) k0 bel lt0) (trodAll_cons_mk (Below.trod laidOut (by kernel_rfl) (of_decide_eq_true (by kernel_rfl)) k1 bel lt1) trodAll_mk0)), rfl, bel.frame _, fun h => by cases h⟩

/-- The given statement. -/
theorem BagCounts_holds : Rows.BagCountsSaid :=
  OpenClaim.holds_of_wide 6 Try.f6 rfl rfl rfl rfl rfl rfl rfl ⟨rfl, rfl, rfl, rfl, rfl⟩ rfl rfl rfl rfl rfl (by kernel_rfl) Try.func6 (by kernel_rfl)
    (of_decide_eq_true (by kernel_rfl)) (by unfold Func.isWrapper; first | (rw [if_pos (by decide +kernel)]; kernel_rfl) | (rw [if_neg (by decide +kernel)]; exact ⟨rfl, rfl⟩))
    (fun os started H enc _ => BagCounts_lifted os started H enc)


end Go.Proofs.Ytkmgbhehhdjmlaa
