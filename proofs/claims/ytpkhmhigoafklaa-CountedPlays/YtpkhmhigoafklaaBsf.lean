/-
  What the library's search by halves does to the world: in a row of times that rises it says whether a time is one of them; what was there stays as it was.
-/
import Derived.Test.YtpkhmhigoafklaaCnt
import Derived.Test.YtpkhmhigoafklaaRowA
import Derived.Test.YtpkhmhigoafklaaInvS
import Derived.Test.YtpkhmhigoafklaaOd
namespace Go.Proofs.Ytpkhmhigoafklaa
set_option maxRecDepth 100000
open Go.RowKit Go.Sort
set_option linter.unusedVariables false
set_option linter.unusedSimpArgs false

theorem order_at (x y : Tm) {r : Int} (h : kinT.ord x y = r) (w : World) : Calls Try.prog 39 #[.agg #[.int .i64 x.e, .int .i64 x.d, .int .i64 x.x, .int .i64 x.y, .int .i64 x.z], .agg #[.int .i64 y.e, .int .i64 y.d, .int .i64 y.x, .int .i64 y.y, .int .i64 y.z]] w fun e w' => e = .returned (.int .i64 r) ∧ Grow w w' := by
  rw [← h]; exact order_any x y w

set_option maxHeartbeats 2000000 in
theorem bsf_any (s : Option Addr) (n cap : Nat) (d : List Tm) (t : Tm) (w : World) (hbig : n ≤ 1000000) (hd : IsTms w s n cap d) (hrise : Rises kinT d) :
    Calls Try.prog 38 #[.slice s n cap, .agg #[.int .i64 t.e, .int .i64 t.d, .int .i64 t.x, .int .i64 t.y, .int .i64 t.z], .func (.func 39) #[] #[]] w fun e w' => ∃ i, e = .returned (.tuple #[.int .i64 i, .bool (d.any fun y => eqB t y)]) ∧ Grow w w' := by
  have G0 : Hid (Grow w (w.alloc (.cells #[.int .i64 t.e, .int .i64 t.d, .int .i64 t.x, .int .i64 t.y, .int .i64 t.z] 25))) := hide (Grow.alloc' _ _)
  have KX : Hid (Box (w.alloc (.cells #[.int .i64 t.e, .int .i64 t.d, .int .i64 t.x, .int .i64 t.y, .int .i64 t.z] 25)) w.heap.size t) := hide (Box.new _ _)
  have HD := hide (hd.later G0.out)
  have HN := hide hd.1
  clear hd
  go_enter Try.func38, Try.ntmps38
  go_wp2_with fail
  generalize w.alloc (.cells #[.int .i64 t.e, .int .i64 t.d, .int .i64 t.x, .int .i64 t.y, .int .i64 t.z] 25) = w0 at *
  go_loopw [9, 10] (fun vi vj wr => ∃ i j : Nat, i ≤ j ∧ j ≤ n ∧ vi = .int .i64 i ∧ vj = .int .i64 j ∧ Grow w0 wr ∧ (∀ k (h : k < d.length), k < i → kinT.ord d[k] t < 0) ∧ ∀ k (h : k < d.length), j ≤ k → 0 ≤ kinT.ord d[k] t) (fun vi vj _ => (intOf vj).toNat - (intOf vi).toNat)
  case atStart => exact ⟨0, n, Nat.zero_le _, Nat.le_refl _, rfl, rfl, Grow.rfl' _, fun k h hk => by omega, fun k h hk => by rw [HN.out] at h; omega⟩
  case round =>
    obtain ⟨i, j, hij, hjn, rfl, rfl, hg, hlo, hhi⟩ := hrel
    have HG := hide hg
    have HLO := hide hlo
    have HHI := hide hhi
    clear hg hlo hhi
    by_cases hlt : i < j
    · obtain ⟨h, hh⟩ : ∃ h : Nat, ((i : Int) + (j : Int)) / 2 = (h : Int) := ⟨(i + j) / 2, by omega⟩
      have hih : i ≤ h := by omega
      have hhj : h < j := by omega
      have hkd : h < d.length := by rw [HN.out]; omega
      have hne : ¬ d = [] := fun e => by rw [e] at hkd; simp at hkd
      obtain ⟨b, o, rfl, hr1⟩ := HD.out.2.2.resolve_left hne
      obtain ⟨p0, p1, p2, p3, p4⟩ := (hr1.later HG.out).at h hkd
      obtain ⟨x0, x1, x2, x3, x4⟩ := KX.out.later HG.out
      obtain ⟨y, hy⟩ : ∃ y, y = d[h] := ⟨_, rfl⟩
      rw [← hy] at p0 p1 p2 p3 p4
      have hi1 : (0 : Int) ≤ (h : Int) := by omega
      have hi2 : (h : Int) < (n : Int) := by omega
      have HY := hide hy
      clear hne hr1 hy
      obtain ⟨r, hr, hcase⟩ : ∃ r, kinT.ord y t = r ∧ (r = -1 ∨ r = 0 ∨ r = 1) := by
        rcases orderI_cases y t with ⟨k, _⟩ | ⟨k, _⟩ | ⟨k, _⟩
        · exact ⟨-1, k, .inl rfl⟩
        · exact ⟨0, k, .inr (.inl rfl)⟩
        · exact ⟨1, k, .inr (.inr rfl)⟩
      go_wp2_with fail
      clear hh
      rcases hcase with rfl | rfl | rfl
      all_goals
        have CC := hide (fun dd os => Calls.regrown_of (order_at y t hr (grow (redrawn wr dd) os)))
        have HQ := hide hr
        clear hr
        have sx0 := cell_regrown x0; have sp0 := cell_regrown p0; have sx1 := cell_regrown x1; have sp1 := cell_regrown p1; have sx2 := cell_regrown x2; have sp2 := cell_regrown p2; have sx3 := cell_regrown x3; have sp3 := cell_regrown p3; have sx4 := cell_regrown x4; have sp4 := cell_regrown p4
        refine wp_region_quiet_below (by kernel_rfl) (by kernel_rfl) ?_
        repeat (go_big_quiet_step (exact CC.out _ _))
        refine wpQuiet_nil ?_
        intro _ hw'
        obtain ⟨⟨dq, osq⟩, hw''⟩ := hw'
        subst hw''
        have GB := hide (Grow.trans' HG.out (below_regrown wr dq osq))
        clear CC sx0 sx1 sx2 sx3 sx4 sp0 sp1 sp2 sp3 sp4 x0 x1 x2 x3 x4 p0 p1 p2 p3 p4
        generalize grow (redrawn wr dq) osq = wc at *
        go_wp2
        go_roundw
      case rel =>
        refine ⟨h + 1, j, by omega, hjn, by go_num, rfl, GB.out, fun k hk hlt' => ?_, HHI.out⟩
        by_cases e : k = h
        · subst e; rw [← HY.out, HQ.out]; omega
        · refine kinT.otrans _ _ _ (List.pairwise_iff_getElem.1 hrise k h hk hkd (by omega)) ?_
          rw [← HY.out, HQ.out]; omega
      case measure => simp [intOf]; omega
      case rel =>
        refine ⟨i, h, hih, by omega, rfl, rfl, GB.out, HLO.out, fun k hk hle => ?_⟩
        by_cases e' : k = h
        · subst e'; rw [← HY.out, HQ.out]; omega
        · refine Int.not_lt.1 fun e => ?_
          have := kinT.otrans _ _ _ (List.pairwise_iff_getElem.1 hrise h k hkd hk (by omega)) e
          rw [← HY.out, HQ.out] at this; omega
      case measure => simp [intOf]; omega
      case rel =>
        refine ⟨i, h, hih, by omega, rfl, rfl, GB.out, HLO.out, fun k hk hle => ?_⟩
        by_cases e' : k = h
        · subst e'; rw [← HY.out, HQ.out]; omega
        · refine Int.not_lt.1 fun e => ?_
          have := kinT.otrans _ _ _ (List.pairwise_iff_getElem.1 hrise h k hkd hk (by omega)) e
          rw [← HY.out, HQ.out] at this; omega
      case measure => simp [intOf]; omega
    · have hji : j = i := by omega
      have HHI2 := hide (hji ▸ HHI.out)
      clear HHI
      subst hji
      by_cases hin : j < n
      · have hkd : j < d.length := by rw [HN.out]; omega
        have hne : ¬ d = [] := fun e => by rw [e] at hkd; simp at hkd
        obtain ⟨b, o, rfl, hr1⟩ := HD.out.2.2.resolve_left hne
        obtain ⟨p0, p1, p2, p3, p4⟩ := (hr1.later HG.out).at j hkd
        obtain ⟨x0, x1, x2, x3, x4⟩ := KX.out.later HG.out
        obtain ⟨y, hy⟩ : ∃ y, y = d[j] := ⟨_, rfl⟩
        rw [← hy] at p0 p1 p2 p3 p4
        have hi1 : (0 : Int) ≤ (j : Int) := by omega
        have hi2 : (j : Int) < (n : Int) := by omega
        have hi3 : decide ((j : Int) < (n : Int)) = true := by simpa using hin
        have HY := hide hy
        clear hne hr1 hy
        obtain ⟨r, hr, hcase⟩ : ∃ r, kinT.ord y t = r ∧ (r = -1 ∨ r = 0 ∨ r = 1) := by
          rcases orderI_cases y t with ⟨k, _⟩ | ⟨k, _⟩ | ⟨k, _⟩
          · exact ⟨-1, k, .inl rfl⟩
          · exact ⟨0, k, .inr (.inl rfl)⟩
          · exact ⟨1, k, .inr (.inr rfl)⟩
        have hfound : (d.any fun y => eqB t y) = decide (r = 0) := by
          rw [Bool.eq_iff_iff, anyB_iff, decide_eq_true_iff]
          constructor
          · intro hm
            obtain ⟨k, hk, e⟩ := List.getElem_of_mem hm
            have h1 : kinT.ord d[k] t = 0 := by rw [e]; exact Kin.oself kinT t
            by_cases hkj : k = j
            · subst hkj; rw [← hr, HY.out]; exact h1
            · exfalso
              by_cases hl : k < j
              · have := HLO.out k hk hl; omega
              · have := List.pairwise_iff_getElem.1 hrise j k hkd hk (by omega)
                rw [e] at this
                have := HHI2.out j hkd (Nat.le_refl _)
                omega
          · intro e
            rw [e] at hr
            have := kinT.ozero y t hr
            rw [← this, HY.out]; exact List.getElem_mem _
        go_wp2_with fail
        rcases hcase with rfl | rfl | rfl
        all_goals
          have CC := hide (fun dd os => Calls.regrown_of (order_at y t hr (grow (redrawn wr dd) os)))
          have HF := hide hfound
          clear hr hfound
          have sx0 := cell_regrown x0; have sp0 := cell_regrown p0; have sx1 := cell_regrown x1; have sp1 := cell_regrown p1; have sx2 := cell_regrown x2; have sp2 := cell_regrown p2; have sx3 := cell_regrown x3; have sp3 := cell_regrown p3; have sx4 := cell_regrown x4; have sp4 := cell_regrown p4
          refine wp_region_quiet_below (by kernel_rfl) (by kernel_rfl) ?_
          repeat (go_big_quiet_step (exact CC.out _ _))
          refine wpQuiet_nil ?_
          intro _ hw'
          obtain ⟨⟨dq, osq⟩, hw''⟩ := hw'
          subst hw''
          have GB := hide (Grow.trans' G0.out (Grow.trans' HG.out (below_regrown wr dq osq)))
          clear CC sx0 sx1 sx2 sx3 sx4 sp0 sp1 sp2 sp3 sp4 x0 x1 x2 x3 x4 p0 p1 p2 p3 p4
          generalize grow (redrawn wr dq) osq = wc at *
          go_wp2
          go_ret2
          first | exact ⟨⟨j, by rw [HF.out]; rfl⟩, GB.out⟩ | exact ⟨j, by rw [HF.out]; rfl, GB.out⟩
      · have hi2 : ¬ (j : Int) < (n : Int) := by omega
        have hi3 : decide ((j : Int) < (n : Int)) = false := by simpa using hin
        have hfound : (d.any fun y => eqB t y) = false := by
          rw [Bool.eq_false_iff, Ne, anyB_iff]
          intro hm
          obtain ⟨k, hk, e⟩ := List.getElem_of_mem hm
          have h1 : kinT.ord d[k] t = 0 := by rw [e]; exact Kin.oself kinT t
          have := HLO.out k hk (by rw [HN.out] at hk; omega)
          omega
        have HF := hide hfound
        clear hfound
        go_wp2_with fail
        refine wp_region_quiet_below (by kernel_rfl) (by kernel_rfl) ?_
        repeat (go_big_quiet_step (fail))
        refine wpQuiet_nil ?_
        intro _ hw'
        obtain ⟨⟨dq, osq⟩, hw''⟩ := hw'
        subst hw''
        have GB := hide (Grow.trans' G0.out (Grow.trans' HG.out (below_regrown wr dq osq)))
        generalize grow (redrawn wr dq) osq = wc at *
        go_wp2
        go_ret2
        first | exact ⟨⟨j, by rw [HF.out]; rfl⟩, GB.out⟩ | exact ⟨j, by rw [HF.out]; rfl, GB.out⟩

end Go.Proofs.Ytpkhmhigoafklaa
