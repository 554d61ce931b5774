/-
  What the law TsSorted does: for every row of times it returns true, and what was there stays as it was.
-/
import Derived.Test.YtbohgfcndclbjabRowt
import Derived.Test.YtbohgfcndclbjabShown
import Derived.Test.YtbohgfcndclbjabMy
import Derived.Test.YtbohgfcndclbjabLess
import Derived.Lib.QuietBelow
import Derived.Deep.RegionWith
namespace Go.Proofs.Ytbohgfcndclbjab
open Go.RowKit Go.Sort
attribute [local go_sem ↓] eqTm
set_option linter.unusedVariables false

theorem RowT.at {w : World} {b o : Nat} {d : List Tm} (h : RowT w b o d) (j : Nat) (hj : j < d.length) :
    w.cell? ⟨b, o + j * 5, none⟩ = some (.int .i64 d[j].e) ∧ w.cell? ⟨b, o + j * 5 + 1, none⟩ = some (.int .i64 d[j].d) ∧ w.cell? ⟨b, o + j * 5 + 2, none⟩ = some (.int .i64 d[j].x) ∧ w.cell? ⟨b, o + j * 5 + 3, none⟩ = some (.int .i64 d[j].y) ∧ w.cell? ⟨b, o + j * 5 + 4, none⟩ = some (.int .i64 d[j].z) := by
  have k (i : Nat) (hi : i < 5) (v : Value) (hv : (encT d[j])[i]? = some v) : w.cell? ⟨b, o + (j * 5 + i), none⟩ = some v := h _ v (by rw [flatT_get d j i hj hi]; exact hv)
  exact ⟨k 0 (by omega) _ rfl, k 1 (by omega) _ rfl, k 2 (by omega) _ rfl, k 3 (by omega) _ rfl, k 4 (by omega) _ rfl⟩
theorem RowT.take' {w : World} {b o : Nat} {d : List Tm} (h : RowT w b o d) (k : Nat) : RowT w b o (d.take k) := by
  intro j v hj
  rw [← flatT_take] at hj
  refine h j v ?_
  rw [List.getElem?_take] at hj
  split at hj
  · exact hj
  · cases hj

/-- How often a time stands among the first k. -/
def cntT (X : List Tm) (k : Nat) (t : Tm) : Int := ((X.take k).countP fun y => eqB y t : Nat)
theorem cnt_zero (X : List Tm) (t : Tm) : cntT X 0 t = 0 := by simp [cntT]
theorem cnt_succ (X : List Tm) (k : Nat) (t : Tm) (h : k < X.length) : cntT X (k + 1) t = cntT X k t + if eqB X[k] t = true then 1 else 0 := by
  unfold cntT
  rw [List.take_succ_eq_append_getElem h, List.countP_append]
  by_cases hh : eqB X[k] t = true <;> simp [hh]
theorem cnt_le (X : List Tm) (k : Nat) (t : Tm) : 0 ≤ cntT X k t ∧ cntT X k t ≤ X.length := by
  unfold cntT
  have h1 := List.countP_le_length (p := fun y => eqB y t) (l := X.take k)
  have h2 : (X.take k).length ≤ X.length := by simp; omega
  omega
theorem cnt_perm {X Y : List Tm} (h : X.Perm Y) (n : Nat) (hn : Y.length = n) (t : Tm) : cntT X n t = cntT Y n t := by
  unfold cntT
  rw [List.take_of_length_le (by rw [h.length_eq]; omega), List.take_of_length_le (by omega), h.countP_eq]

theorem sorted_at {S : List Tm} (h : SortedT S) (i k : Nat) (hik : i < k) (hk : k < S.length) : orderI (S[i]'(by omega)) S[k] ≤ 0 ∧ (mayB (S[i]'(by omega)) = true → mayB S[k] = true → lessB S[k] (S[i]'(by omega)) = false) := by
  unfold SortedT at h
  rw [List.pairwise_iff_getElem] at h
  have h1 := h i k (by omega) hk hik
  rw [← order_lt] at h1
  have h2 := order_anti (S[i]'(by omega)) S[k]
  refine ⟨by omega, fun ma mb => ?_⟩
  cases hl : lessB S[k] (S[i]'(by omega))
  · rfl
  · have := less_ahead mb ma hl
    omega

theorem lessF (a b : Tm) (h : lessB a b = false) (w : World) : Calls Try.prog 11 #[.agg #[.int .i64 a.e, .int .i64 a.d, .int .i64 a.x, .int .i64 a.y, .int .i64 a.z], .agg #[.int .i64 b.e, .int .i64 b.d, .int .i64 b.x, .int .i64 b.y, .int .i64 b.z]] w fun e w' => e = .returned (.bool false) ∧ Below w.heap.size w w' := by
  rw [← h]; exact less_any a b w
theorem mayC (a : Tm) (p : Bool) (h : mayB a = p) (w : World) : Calls Try.prog 6 #[.agg #[.int .i64 a.e, .int .i64 a.d, .int .i64 a.x, .int .i64 a.y, .int .i64 a.z]] w fun e w' => e = .returned (.bool p) ∧ Below w.heap.size w w' := by
  rw [← h]; exact may_any a w

theorem int_eq {a b : Int} (h : a = b) : Value.int .i64 a = .int .i64 b := by rw [h]

set_option maxRecDepth 100000 in
set_option maxHeartbeats 8000000 in
theorem TsSorted_walk [Inhabited Tm] (s : Option Addr) (n cap : Nat) (L : List Tm) (w : World) (hn : L.length = n) (h150 : n ≤ 150) (hrow : L = [] ∨ ∃ b o, s = some ⟨b, o, none⟩ ∧ RowT w b o L) :
    Calls Try.prog 4 #[.slice s n cap] w fun e w' => e = .returned (.bool true) ∧ Below w.heap.size w w' := by
  have HROW := hide hrow
  have HN := hide hn
  have h3 : ¬ (150 : Int) < (n : Int) := by omega
  clear hrow hn
  go_enter Try.func4, Try.ntmps4
  go_wp2_with fail
  refine (shown_any _).mono ?_
  rintro e w1 ⟨rfl, hb1⟩
  have g1 := hide hb1
  clear hb1
  have KS : Hid (Calls Try.prog 9 #[.slice s n cap] w1 fun e w' => e = .returned (.slice (some ⟨w1.heap.size, 0, none⟩) n n) ∧ Grow w1 w' ∧ ∃ d' : List Tm, d'.Perm L ∧ SortedT d' ∧ RowT w' w1.heap.size 0 d') := hide (by
    rcases HROW.out with h | ⟨b, o, rfl, hr⟩
    · subst h
      have h0 : n = 0 := HN.out.symm
      subst h0
      exact sort_none s cap w1
    · have h := sort_some b o cap L.toArray w1 (by simp; rw [HN.out]; omega) (by simpa using hr.later g1.out)
      have e : L.toArray.size = n := by simpa using HN.out
      rw [e] at h
      simpa using h)
  go_wp2_with fail
  refine (KS.out).mono ?_
  rintro e w2 ⟨rfl, hg2, S, hp, hso, hr2⟩
  have G2 := hide (Grow.trans' g1.out hg2)
  have HSL : Hid (S.length = n) := hide (by rw [hp.length_eq]; exact HN.out)
  have HP := hide hp
  have HSO := hide hso
  have HR2 := hide hr2
  clear hg2 hp hso hr2 KS
  go_wp2
  go_loopw [5] (fun u wr => ∃ i : Nat, i ≤ n ∧ u = .int .i64 i ∧ Grow w2 wr) (fun u _ => n - (intOf u).toNat)
  case atStart => exact ⟨0, Nat.zero_le _, rfl, Grow.rfl' _⟩
  case round =>
    obtain ⟨i, hi, rfl, hg⟩ := hrel
    by_cases hin : i < n
    · have his : i < S.length := by rw [HSL.out]; exact hin
      obtain ⟨x, hx⟩ : ∃ x, x = S[i] := ⟨_, rfl⟩
      have HX := hide hx
      clear hx
      go_wp2
      go_loopw [6, 7] (fun u v wr => ∃ k : Nat, k ≤ n ∧ v = .int .i64 k ∧ u = .int .i64 (cntT S k x - cntT L k x) ∧ Grow w2 wr) (fun _ v _ => n - (intOf v).toNat)
      case atStart => exact ⟨0, Nat.zero_le _, rfl, by simp [cnt_zero], hg⟩
      case round =>
        clear hg
        obtain ⟨k, hk, rfl, rfl, hg⟩ := hrel
        by_cases hkn : k < n
        · have hks : k < S.length := by rw [HSL.out]; exact hkn
          have hkl : k < L.length := by rw [HN.out]; exact hkn
          obtain ⟨b, o, rfl, hrl⟩ := HROW.out.resolve_left (fun h => by rw [h] at hkl; simp at hkl)
          obtain ⟨y, hy⟩ : ∃ y, y = S[k] := ⟨_, rfl⟩
          obtain ⟨z, hz⟩ : ∃ z, z = L[k] := ⟨_, rfl⟩
          have hRx := fun (wv : World) (hv : Grow w2 wv) => (HR2.out.later hv).at i his
          have hRy := fun (wv : World) (hv : Grow w2 wv) => (HR2.out.later hv).at k hks
          have hRz := fun (wv : World) (hv : Grow w2 wv) => ((hrl.later G2.out).later hv).at k hkl
          simp only [Nat.zero_add] at hRx hRy
          rw [← HX.out] at hRx
          rw [← hy] at hRy
          rw [← hz] at hRz
          have cS := cnt_succ S k x hks
          have cL := cnt_succ L k x hkl
          rw [← hy] at cS
          rw [← hz] at cL
          have bS := cnt_le S k x
          have bL := cnt_le L k x
          rw [HSL.out] at bS
          rw [HN.out] at bL
          obtain ⟨p, hpe⟩ : ∃ p, p = cntT S k x := ⟨_, rfl⟩
          obtain ⟨q, hqe⟩ : ∃ q, q = cntT L k x := ⟨_, rfl⟩
          rw [← hpe] at bS cS
          rw [← hqe] at bL cL
          rw [← hpe, ← hqe]
          have HRx := hide hRx
          have HRy := hide hRy
          have HRz := hide hRz
          have CS := hide cS
          have CL := hide cL
          have HY := hide hy
          have HPE := hide hpe
          have HQE := hide hqe
          obtain ⟨x0, x1, x2, x3, x4⟩ := hRx _ hg
          obtain ⟨y0, y1, y2, y3, y4⟩ := hRy _ hg
          obtain ⟨z0, z1, z2, z3, z4⟩ := hRz _ hg
          have hi1 : (0 : Int) ≤ (k : Int) := by omega
          have hi2 : (k : Int) < (n : Int) := by omega
          have hi3 : (0 : Int) ≤ (i : Int) := by omega
          have hi4 : (i : Int) < (n : Int) := by omega
          clear hRx hRy hRz cS cL hy hz hpe hqe hrl
          cases e1 : eqB y x <;> cases e2 : eqB z x
          all_goals
            go_wp2
            go_quiet (fail)
            have ga := Grow.trans' hg (below_drewN (Below.refl _ _) nq)
            clear x0 x1 x2 x3 x4 y0 y1 y2 y3 y4 z0 z1 z2 z3 z4 hg
            generalize wr.drewN nq = wa at *
            obtain ⟨x0, x1, x2, x3, x4⟩ := HRx.out _ ga
            obtain ⟨y0, y1, y2, y3, y4⟩ := HRy.out _ ga
            obtain ⟨z0, z1, z2, z3, z4⟩ := HRz.out _ ga
            go_wp2
            go_quiet (fail)
            have gb := Grow.trans' ga (below_drewN (Below.refl _ _) nq)
            clear x0 x1 x2 x3 x4 y0 y1 y2 y3 y4 z0 z1 z2 z3 z4 ga
            generalize wa.drewN nq = wb at *
            obtain ⟨x0, x1, x2, x3, x4⟩ := HRx.out _ gb
            obtain ⟨y0, y1, y2, y3, y4⟩ := HRy.out _ gb
            obtain ⟨z0, z1, z2, z3, z4⟩ := HRz.out _ gb
            by_cases hik : i < k
            · have hk1 : decide ((i : Int) < (k : Int)) = true := by simp; omega
              have hso := sorted_at HSO.out i k hik hks
              rw [← HX.out, ← HY.out] at hso
              obtain ⟨hr0, hlf⟩ := hso
              obtain ⟨r, hre⟩ : ∃ r, orderI x y = r := ⟨_, rfl⟩
              have cO := fun dd os => Calls.regrown_of (order_any x y (grow (redrawn wb dd) os))
              rw [hre] at hr0 cO
              have CO := hide cO
              have HLF := hide hlf
              clear cO hre hlf
              have hr1 : decide (0 < r) = false := by simp; omega
              have sx0 := cell_regrown x0; have sx1 := cell_regrown x1; have sx2 := cell_regrown x2; have sx3 := cell_regrown x3; have sx4 := cell_regrown x4
              have sy0 := cell_regrown y0; have sy1 := cell_regrown y1; have sy2 := cell_regrown y2; have sy3 := cell_regrown y3; have sy4 := cell_regrown y4
              cases mx : mayB x
              · have CX := hide (fun dd os => Calls.regrown_of (mayC x false mx (grow (redrawn wb dd) os)))
                have CY := CX
                have CL4 := CX
                go_wp2
                refine wp_region_quiet_below (by kernel_rfl) (by kernel_rfl) ?_
                repeat (go_big_quiet_step (first | (go_at_call 10; exact CO.out _ _) | (go_at_call 11; exact CL4.out _ _) | (go_at_call_of 6 (Value.int IntKind.i64 x.e); exact CX.out _ _) | (go_at_call_of 6 (Value.int IntKind.i64 y.e); exact CY.out _ _)))
                refine wpQuiet_nil ?_
                intro _ hw'
                obtain ⟨⟨dq, osq⟩, hw''⟩ := hw'
                subst hw''
                have GB := hide (Grow.trans' gb (below_regrown wb dq osq))
                clear sx0 sx1 sx2 sx3 sx4 sy0 sy1 sy2 sy3 sy4 x0 x1 x2 x3 x4 y0 y1 y2 y3 y4 z0 z1 z2 z3 z4 gb
                generalize grow (redrawn wb dq) osq = wc at *
                go_wp2
                go_roundw
                case rel =>
                  refine ⟨k + 1, by omega, by go_num, int_eq ?_, GB.out⟩
                  have h1 := CS.out
                  have h2 := CL.out
                  rw [e1] at h1
                  rw [e2] at h2
                  simp at h1 h2
                  omega
                case measure => simp [intOf]; omega
              · have CX := hide (fun dd os => Calls.regrown_of (mayC x true mx (grow (redrawn wb dd) os)))
                cases my : mayB y
                · have CY := hide (fun dd os => Calls.regrown_of (mayC y false my (grow (redrawn wb dd) os)))
                  have CL4 := CX
                  go_wp2
                  refine wp_region_quiet_below (by kernel_rfl) (by kernel_rfl) ?_
                  repeat (go_big_quiet_step (first | (go_at_call 10; exact CO.out _ _) | (go_at_call 11; exact CL4.out _ _) | (go_at_call_of 6 (Value.int IntKind.i64 x.e); exact CX.out _ _) | (go_at_call_of 6 (Value.int IntKind.i64 y.e); exact CY.out _ _)))
                  refine wpQuiet_nil ?_
                  intro _ hw'
                  obtain ⟨⟨dq, osq⟩, hw''⟩ := hw'
                  subst hw''
                  have GB := hide (Grow.trans' gb (below_regrown wb dq osq))
                  clear sx0 sx1 sx2 sx3 sx4 sy0 sy1 sy2 sy3 sy4 x0 x1 x2 x3 x4 y0 y1 y2 y3 y4 z0 z1 z2 z3 z4 gb
                  generalize grow (redrawn wb dq) osq = wc at *
                  go_wp2
                  go_roundw
                  case rel =>
                    refine ⟨k + 1, by omega, by go_num, int_eq ?_, GB.out⟩
                    have h1 := CS.out
                    have h2 := CL.out
                    rw [e1] at h1
                    rw [e2] at h2
                    simp at h1 h2
                    omega
                  case measure => simp [intOf]; omega
                · have CY := hide (fun dd os => Calls.regrown_of (mayC y true my (grow (redrawn wb dd) os)))
                  have CL4 := hide (fun dd os => Calls.regrown_of (lessF y x (HLF.out mx my) (grow (redrawn wb dd) os)))
                  go_wp2
                  refine wp_region_quiet_below (by kernel_rfl) (by kernel_rfl) ?_
                  repeat (go_big_quiet_step (first | (go_at_call 10; exact CO.out _ _) | (go_at_call 11; exact CL4.out _ _) | (go_at_call_of 6 (Value.int IntKind.i64 x.e); exact CX.out _ _) | (go_at_call_of 6 (Value.int IntKind.i64 y.e); exact CY.out _ _)))
                  refine wpQuiet_nil ?_
                  intro _ hw'
                  obtain ⟨⟨dq, osq⟩, hw''⟩ := hw'
                  subst hw''
                  have GB := hide (Grow.trans' gb (below_regrown wb dq osq))
                  clear sx0 sx1 sx2 sx3 sx4 sy0 sy1 sy2 sy3 sy4 x0 x1 x2 x3 x4 y0 y1 y2 y3 y4 z0 z1 z2 z3 z4 gb
                  generalize grow (redrawn wb dq) osq = wc at *
                  go_wp2
                  go_roundw
                  case rel =>
                    refine ⟨k + 1, by omega, by go_num, int_eq ?_, GB.out⟩
                    have h1 := CS.out
                    have h2 := CL.out
                    rw [e1] at h1
                    rw [e2] at h2
                    simp at h1 h2
                    omega
                  case measure => simp [intOf]; omega
            · have hk1 : decide ((i : Int) < (k : Int)) = false := by simp; omega
              go_wp2
              go_quiet (fail)
              have GB := hide (Grow.trans' gb (below_drewN (Below.refl _ _) nq))
              clear x0 x1 x2 x3 x4 y0 y1 y2 y3 y4 z0 z1 z2 z3 z4 gb
              generalize wb.drewN nq = wc at *
              go_wp2
              go_roundw
              case rel =>
                refine ⟨k + 1, by omega, by go_num, int_eq ?_, GB.out⟩
                have h1 := CS.out
                have h2 := CL.out
                rw [e1] at h1
                rw [e2] at h2
                simp at h1 h2
                omega
              case measure => simp [intOf]; omega
        · have hke : k = n := by omega
          subst hke
          have h0 : cntT S k x - cntT L k x = 0 := by
            have := cnt_perm HP.out _ HN.out x
            omega
          rw [h0]
          clear h0
          go_wp2
          go_roundw
          case rel => exact ⟨i + 1, by omega, by go_num, hg⟩
          case measure => simp [intOf]; omega
    · go_wp2
      go_ret
      exact ⟨rfl, Grow.trans' G2.out hg⟩

set_option maxRecDepth 100000 in
set_option maxHeartbeats 8000000 in
theorem TsSorted_many [Inhabited Tm] (b o N cap : Nat) (D : List Tm) (w : World) (hN : D.length = N) (hle : N ≤ cap) (h150 : 150 < N) (hr : RowT w b o D) :
    Calls Try.prog 4 #[.slice (some ⟨b, o, none⟩) N cap] w fun e w' => e = .returned (.bool true) ∧ Below w.heap.size w w' := by
  obtain ⟨L, hL⟩ : ∃ L, L = D.take 150 := ⟨_, rfl⟩
  have HN : Hid (L.length = 150) := hide (by rw [hL]; simp; omega)
  have HRL : Hid (RowT w b o L) := hide (by rw [hL]; exact hr.take' 150)
  have h3 : (150 : Int) < (N : Int) := by omega
  have h4 : (150 : Int) ≤ (cap : Int) := by omega
  clear hr hL hN
  go_enter Try.func4, Try.ntmps4
  go_wp2_with fail
  refine (shown_any _).mono ?_
  rintro e w1 ⟨rfl, hb1⟩
  have g1 := hide hb1
  clear hb1
  have KS : Hid (Calls Try.prog 9 #[.slice (some ⟨b, o, none⟩) 150 cap] w1 fun e w' => e = .returned (.slice (some ⟨w1.heap.size, 0, none⟩) 150 150) ∧ Grow w1 w' ∧ ∃ d' : List Tm, d'.Perm L ∧ SortedT d' ∧ RowT w' w1.heap.size 0 d') := hide (by
    have h := sort_some b o cap L.toArray w1 (by simp; rw [HN.out]; omega) (by simpa using HRL.out.later g1.out)
    have e : L.toArray.size = 150 := by simpa using HN.out
    rw [e] at h
    simpa using h)
  go_wp2_with fail
  refine (KS.out).mono ?_
  rintro e w2 ⟨rfl, hg2, S, hp, hso, hr2⟩
  have G2 := hide (Grow.trans' g1.out hg2)
  have HSL : Hid (S.length = 150) := hide (by rw [hp.length_eq]; exact HN.out)
  have HP := hide hp
  have HSO := hide hso
  have HR2 := hide hr2
  clear hg2 hp hso hr2 KS
  go_wp2
  go_loopw [5] (fun u wr => ∃ i : Nat, i ≤ 150 ∧ u = .int .i64 i ∧ Grow w2 wr) (fun u _ => 150 - (intOf u).toNat)
  case atStart => exact ⟨0, Nat.zero_le _, rfl, Grow.rfl' _⟩
  case round =>
    obtain ⟨i, hi, rfl, hg⟩ := hrel
    by_cases hin : i < 150
    · have his : i < S.length := by rw [HSL.out]; exact hin
      obtain ⟨x, hx⟩ : ∃ x, x = S[i] := ⟨_, rfl⟩
      have HX := hide hx
      clear hx
      go_wp2
      go_loopw [6, 7] (fun u v wr => ∃ k : Nat, k ≤ 150 ∧ v = .int .i64 k ∧ u = .int .i64 (cntT S k x - cntT L k x) ∧ Grow w2 wr) (fun _ v _ => 150 - (intOf v).toNat)
      case atStart => exact ⟨0, Nat.zero_le _, rfl, by simp [cnt_zero], hg⟩
      case round =>
        clear hg
        obtain ⟨k, hk, rfl, rfl, hg⟩ := hrel
        by_cases hkn : k < 150
        · have hks : k < S.length := by rw [HSL.out]; exact hkn
          have hkl : k < L.length := by rw [HN.out]; exact hkn
          have hrl := HRL.out
          obtain ⟨y, hy⟩ : ∃ y, y = S[k] := ⟨_, rfl⟩
          obtain ⟨z, hz⟩ : ∃ z, z = L[k] := ⟨_, rfl⟩
          have hRx := fun (wv : World) (hv : Grow w2 wv) => (HR2.out.later hv).at i his
          have hRy := fun (wv : World) (hv : Grow w2 wv) => (HR2.out.later hv).at k hks
          have hRz := fun (wv : World) (hv : Grow w2 wv) => ((hrl.later G2.out).later hv).at k hkl
          simp only [Nat.zero_add] at hRx hRy
          rw [← HX.out] at hRx
          rw [← hy] at hRy
          rw [← hz] at hRz
          have cS := cnt_succ S k x hks
          have cL := cnt_succ L k x hkl
          rw [← hy] at cS
          rw [← hz] at cL
          have bS := cnt_le S k x
          have bL := cnt_le L k x
          rw [HSL.out] at bS
          rw [HN.out] at bL
          obtain ⟨p, hpe⟩ : ∃ p, p = cntT S k x := ⟨_, rfl⟩
          obtain ⟨q, hqe⟩ : ∃ q, q = cntT L k x := ⟨_, rfl⟩
          rw [← hpe] at bS cS
          rw [← hqe] at bL cL
          rw [← hpe, ← hqe]
          have HRx := hide hRx
          have HRy := hide hRy
          have HRz := hide hRz
          have CS := hide cS
          have CL := hide cL
          have HY := hide hy
          have HPE := hide hpe
          have HQE := hide hqe
          obtain ⟨x0, x1, x2, x3, x4⟩ := hRx _ hg
          obtain ⟨y0, y1, y2, y3, y4⟩ := hRy _ hg
          obtain ⟨z0, z1, z2, z3, z4⟩ := hRz _ hg
          have hi1 : (0 : Int) ≤ (k : Int) := by omega
          have hi2 : (k : Int) < (150 : Int) := by omega
          have hi3 : (0 : Int) ≤ (i : Int) := by omega
          have hi4 : (i : Int) < (150 : Int) := by omega
          clear hRx hRy hRz cS cL hy hz hpe hqe hrl
          cases e1 : eqB y x <;> cases e2 : eqB z x
          all_goals
            go_wp2
            go_quiet (fail)
            have ga := Grow.trans' hg (below_drewN (Below.refl _ _) nq)
            clear x0 x1 x2 x3 x4 y0 y1 y2 y3 y4 z0 z1 z2 z3 z4 hg
            generalize wr.drewN nq = wa at *
            obtain ⟨x0, x1, x2, x3, x4⟩ := HRx.out _ ga
            obtain ⟨y0, y1, y2, y3, y4⟩ := HRy.out _ ga
            obtain ⟨z0, z1, z2, z3, z4⟩ := HRz.out _ ga
            go_wp2
            go_quiet (fail)
            have gb := Grow.trans' ga (below_drewN (Below.refl _ _) nq)
            clear x0 x1 x2 x3 x4 y0 y1 y2 y3 y4 z0 z1 z2 z3 z4 ga
            generalize wa.drewN nq = wb at *
            obtain ⟨x0, x1, x2, x3, x4⟩ := HRx.out _ gb
            obtain ⟨y0, y1, y2, y3, y4⟩ := HRy.out _ gb
            obtain ⟨z0, z1, z2, z3, z4⟩ := HRz.out _ gb
            by_cases hik : i < k
            · have hk1 : decide ((i : Int) < (k : Int)) = true := by simp; omega
              have hso := sorted_at HSO.out i k hik hks
              rw [← HX.out, ← HY.out] at hso
              obtain ⟨hr0, hlf⟩ := hso
              obtain ⟨r, hre⟩ : ∃ r, orderI x y = r := ⟨_, rfl⟩
              have cO := fun dd os => Calls.regrown_of (order_any x y (grow (redrawn wb dd) os))
              rw [hre] at hr0 cO
              have CO := hide cO
              have HLF := hide hlf
              clear cO hre hlf
              have hr1 : decide (0 < r) = false := by simp; omega
              have sx0 := cell_regrown x0; have sx1 := cell_regrown x1; have sx2 := cell_regrown x2; have sx3 := cell_regrown x3; have sx4 := cell_regrown x4
              have sy0 := cell_regrown y0; have sy1 := cell_regrown y1; have sy2 := cell_regrown y2; have sy3 := cell_regrown y3; have sy4 := cell_regrown y4
              cases mx : mayB x
              · have CX := hide (fun dd os => Calls.regrown_of (mayC x false mx (grow (redrawn wb dd) os)))
                have CY := CX
                have CL4 := CX
                go_wp2
                refine wp_region_quiet_below (by kernel_rfl) (by kernel_rfl) ?_
                repeat (go_big_quiet_step (first | (go_at_call 10; exact CO.out _ _) | (go_at_call 11; exact CL4.out _ _) | (go_at_call_of 6 (Value.int IntKind.i64 x.e); exact CX.out _ _) | (go_at_call_of 6 (Value.int IntKind.i64 y.e); exact CY.out _ _)))
                refine wpQuiet_nil ?_
                intro _ hw'
                obtain ⟨⟨dq, osq⟩, hw''⟩ := hw'
                subst hw''
                have GB := hide (Grow.trans' gb (below_regrown wb dq osq))
                clear sx0 sx1 sx2 sx3 sx4 sy0 sy1 sy2 sy3 sy4 x0 x1 x2 x3 x4 y0 y1 y2 y3 y4 z0 z1 z2 z3 z4 gb
                generalize grow (redrawn wb dq) osq = wc at *
                go_wp2
                go_roundw
                case rel =>
                  refine ⟨k + 1, by omega, by go_num, int_eq ?_, GB.out⟩
                  have h1 := CS.out
                  have h2 := CL.out
                  rw [e1] at h1
                  rw [e2] at h2
                  simp at h1 h2
                  omega
                case measure => simp [intOf]; omega
              · have CX := hide (fun dd os => Calls.regrown_of (mayC x true mx (grow (redrawn wb dd) os)))
                cases my : mayB y
                · have CY := hide (fun dd os => Calls.regrown_of (mayC y false my (grow (redrawn wb dd) os)))
                  have CL4 := CX
                  go_wp2
                  refine wp_region_quiet_below (by kernel_rfl) (by kernel_rfl) ?_
                  repeat (go_big_quiet_step (first | (go_at_call 10; exact CO.out _ _) | (go_at_call 11; exact CL4.out _ _) | (go_at_call_of 6 (Value.int IntKind.i64 x.e); exact CX.out _ _) | (go_at_call_of 6 (Value.int IntKind.i64 y.e); exact CY.out _ _)))
                  refine wpQuiet_nil ?_
                  intro _ hw'
                  obtain ⟨⟨dq, osq⟩, hw''⟩ := hw'
                  subst hw''
                  have GB := hide (Grow.trans' gb (below_regrown wb dq osq))
                  clear sx0 sx1 sx2 sx3 sx4 sy0 sy1 sy2 sy3 sy4 x0 x1 x2 x3 x4 y0 y1 y2 y3 y4 z0 z1 z2 z3 z4 gb
                  generalize grow (redrawn wb dq) osq = wc at *
                  go_wp2
                  go_roundw
                  case rel =>
                    refine ⟨k + 1, by omega, by go_num, int_eq ?_, GB.out⟩
                    have h1 := CS.out
                    have h2 := CL.out
                    rw [e1] at h1
                    rw [e2] at h2
                    simp at h1 h2
                    omega
                  case measure => simp [intOf]; omega
                · have CY := hide (fun dd os => Calls.regrown_of (mayC y true my (grow (redrawn wb dd) os)))
                  have CL4 := hide (fun dd os => Calls.regrown_of (lessF y x (HLF.out mx my) (grow (redrawn wb dd) os)))
                  go_wp2
                  refine wp_region_quiet_below (by kernel_rfl) (by kernel_rfl) ?_
                  repeat (go_big_quiet_step (first | (go_at_call 10; exact CO.out _ _) | (go_at_call 11; exact CL4.out _ _) | (go_at_call_of 6 (Value.int IntKind.i64 x.e); exact CX.out _ _) | (go_at_call_of 6 (Value.int IntKind.i64 y.e); exact CY.out _ _)))
                  refine wpQuiet_nil ?_
                  intro _ hw'
                  obtain ⟨⟨dq, osq⟩, hw''⟩ := hw'
                  subst hw''
                  have GB := hide (Grow.trans' gb (below_regrown wb dq osq))
                  clear sx0 sx1 sx2 sx3 sx4 sy0 sy1 sy2 sy3 sy4 x0 x1 x2 x3 x4 y0 y1 y2 y3 y4 z0 z1 z2 z3 z4 gb
                  generalize grow (redrawn wb dq) osq = wc at *
                  go_wp2
                  go_roundw
                  case rel =>
                    refine ⟨k + 1, by omega, by go_num, int_eq ?_, GB.out⟩
                    have h1 := CS.out
                    have h2 := CL.out
                    rw [e1] at h1
                    rw [e2] at h2
                    simp at h1 h2
                    omega
                  case measure => simp [intOf]; omega
            · have hk1 : decide ((i : Int) < (k : Int)) = false := by simp; omega
              go_wp2
              go_quiet (fail)
              have GB := hide (Grow.trans' gb (below_drewN (Below.refl _ _) nq))
              clear x0 x1 x2 x3 x4 y0 y1 y2 y3 y4 z0 z1 z2 z3 z4 gb
              generalize wb.drewN nq = wc at *
              go_wp2
              go_roundw
              case rel =>
                refine ⟨k + 1, by omega, by go_num, int_eq ?_, GB.out⟩
                have h1 := CS.out
                have h2 := CL.out
                rw [e1] at h1
                rw [e2] at h2
                simp at h1 h2
                omega
              case measure => simp [intOf]; omega
        · have hke : k = 150 := by omega
          subst hke
          have h0 : cntT S 150 x - cntT L 150 x = 0 := by
            have := cnt_perm HP.out _ HN.out x
            omega
          rw [h0]
          clear h0
          go_wp2
          go_roundw
          case rel => exact ⟨i + 1, by omega, by go_num, hg⟩
          case measure => simp [intOf]; omega
    · go_wp2
      go_ret
      exact ⟨rfl, Grow.trans' G2.out hg⟩

theorem TsSorted_any (s : Option Addr) (n cap : Nat) (d : List Tm) (w : World) (h : IsTms w s n cap d) :
    Calls Try.prog 4 #[.slice s n cap] w fun e w' => e = .returned (.bool true) ∧ Below w.heap.size w w' := by
  have : Inhabited Tm := ⟨⟨0, 0, 0, 0, 0⟩⟩
  obtain ⟨hn, hle, hd⟩ := h
  by_cases h2 : n ≤ 150
  · exact TsSorted_walk s n cap d w hn h2 hd
  · have h0 : d ≠ [] := fun h => by rw [h] at hn; simp at hn; omega
    obtain ⟨b, o, rfl, hr⟩ := hd.resolve_left h0
    exact TsSorted_many b o n cap d w hn hle (by omega) hr

end Go.Proofs.Ytbohgfcndclbjab
