/-
  What the law ChainSumLow does: for every row of summaries it returns true, and what was there stays as it was.
-/
import Derived.Test.YtkpecibbpogedabHd
import Derived.Test.YtkpecibbpogedabRAt
namespace Go.Proofs.Ytkpecibbpogedab
set_option maxRecDepth 100000
open Go.RowKit Go.Sort
set_option linter.unusedVariables false

set_option maxHeartbeats 4000000 in
theorem ChainSumLow_any (s : Option Addr) (n cap : Nat) (d : List Sm) (w : World) (hd : IsSms w s n cap d) :
    Calls Try.prog 3 #[.slice s n cap] w fun e w' => e = .returned (.bool true) ∧ Grow w w' := by
  have HD := hide hd
  clear hd
  go_enter Try.func3, Try.ntmps3
  go_wp2_with fail
  refine (shown_any _).mono ?_
  rintro e w1 ⟨rfl, hb⟩
  have G1 := hide hb
  have C1 := hide (fewM_any s n cap d w1 (HD.out.later hb))
  clear hb
  go_wp2_with fail
  refine (C1.out).mono ?_
  rintro e w2 ⟨v, rfl, hb, s1, n1, c1, rfl, hI⟩
  obtain ⟨D, hD⟩ : ∃ D, D = d.take 60 := ⟨_, rfl⟩
  rw [← hD] at hI
  have hn1 : n1 ≤ 60 := by rw [← hI.1, hD, List.length_take]; omega
  have G2 := hide (Grow.trans' G1.out hb)
  have HI := hide hI
  have C2 := hide (chainM_any s1 n1 c1 D w2 (by omega) hI)
  clear hb hI hD C1 HD G1
  go_wp2_with fail
  refine (C2.out).mono ?_
  rintro e w3 ⟨v, rfl, hb, s2, n2, c2, rfl, hI⟩
  have hn2 : n2 ≤ 60 := by
    have h1 := hI.1
    have h2 := chainO_len kinS D
    have h3 := HI.out.1
    omega
  have G3 := hide (Grow.trans' G2.out hb)
  have HI3 := hide (HI.out.later hb)
  have HC3 := hide hI
  clear hb hI C2 HI G2
  go_wp2_with fail
  go_loopw [5] (fun v wr => ∃ i : Nat, i ≤ n2 ∧ v = .int .i64 i ∧ Grow w3 wr) (fun v _ => n2 - (intOf v).toNat)
  case atStart => exact ⟨0, Nat.zero_le _, rfl, Grow.rfl' _⟩
  case round =>
    obtain ⟨i, hi, rfl, hg⟩ := hrel
    have HG := hide hg
    clear hg
    by_cases hlt : i < n2
    · have hi1 : (i : Int) < (n2 : Int) := by omega
      have hi0 : (0 : Int) ≤ (i : Int) := by omega
      have hid : i < (chainO kinS D).length := by rw [HC3.out.1]; exact hlt
      have hne : ¬ chainO kinS D = [] := fun h => by rw [h] at hid; simp at hid
      obtain ⟨b, o, rfl, hr1⟩ := HC3.out.2.2.resolve_left hne
      have HR := hide hr1
      clear hne hr1
      go_wp2_with fail
      go_loopw [6] (fun v wr => ∃ k : Nat, k ≤ n2 ∧ v = .int .i64 k ∧ Grow w3 wr) (fun v _ => n2 - (intOf v).toNat)
      case atStart => exact ⟨0, Nat.zero_le _, rfl, HG.out⟩
      case round =>
        obtain ⟨k, hk, rfl, hg2⟩ := hrel
        by_cases hlt2 : k < n2
        · have hk1 : (k : Int) < (n2 : Int) := by omega
          have hk0 : (0 : Int) ≤ (k : Int) := by omega
          have hkd : k < (chainO kinS D).length := by rw [HC3.out.1]; exact hlt2
          obtain ⟨x0, x1, x2, x3, x4, x5, x6⟩ := (HR.out.later hg2).at i hid
          obtain ⟨y0, y1, y2, y3, y4, y5, y6⟩ := (HR.out.later hg2).at k hkd
          have HA := hide (chainO_apart kinS D i k hid hkd)
          have HB := hide (chainO_rises kinS D i k hid hkd)
          obtain ⟨x, hx⟩ : ∃ x, x = (chainO kinS D)[i] := ⟨_, rfl⟩
          obtain ⟨y, hy⟩ : ∃ y, y = (chainO kinS D)[k] := ⟨_, rfl⟩
          rw [← hx] at x0 x1 x2 x3 x4 x5 x6 HA HB
          rw [← hy] at y0 y1 y2 y3 y4 y5 y6 HA HB
          have HG2 := hide hg2
          clear hx hy hg2
          have X0 := hide (And.intro x0 (And.intro x1 (And.intro x2 (And.intro x3 (And.intro x4 (And.intro x5 x6))))))
          have Y0 := hide (And.intro y0 (And.intro y1 (And.intro y2 (And.intro y3 (And.intro y4 (And.intro y5 y6))))))
          obtain ⟨q, hq⟩ : ∃ q, kinS.le x y = q := ⟨_, rfl⟩
          have CL := hide (fun dd os => Calls.regrown_of (refLeM_at x y hq (grow (redrawn wr dd) os)))
          have HQ := hide hq
          clear hq
          have sx0 := cell_regrown x0; have sx1 := cell_regrown x1; have sx2 := cell_regrown x2; have sx3 := cell_regrown x3; have sx4 := cell_regrown x4; have sx5 := cell_regrown x5; have sx6 := cell_regrown x6; have sy0 := cell_regrown y0; have sy1 := cell_regrown y1; have sy2 := cell_regrown y2; have sy3 := cell_regrown y3; have sy4 := cell_regrown y4; have sy5 := cell_regrown y5; have sy6 := cell_regrown y6
          go_wp2
          refine wp_region_quiet_below (by kernel_rfl) (by kernel_rfl) ?_
          repeat (go_big_quiet_step (exact CL.out _ _))
          refine wpQuiet_nil ?_
          intro _ hw'
          obtain ⟨⟨dq, osq⟩, hw''⟩ := hw'
          subst hw''
          have GB := hide (below_regrown wr dq osq)
          clear sx0 sx1 sx2 sx3 sx4 sx5 sx6 sy0 sy1 sy2 sy3 sy4 sy5 sy6 x0 x1 x2 x3 x4 x5 x6 y0 y1 y2 y3 y4 y5 y6
          clear CL
          generalize grow (redrawn wr dq) osq = wc at *
          obtain ⟨x0, x1, x2, x3, x4, x5, x6⟩ := X0.out
          obtain ⟨y0, y1, y2, y3, y4, y5, y6⟩ := Y0.out
          have x0 := cell_later GB.out x0; have x1 := cell_later GB.out x1; have x2 := cell_later GB.out x2; have x3 := cell_later GB.out x3; have x4 := cell_later GB.out x4; have x5 := cell_later GB.out x5; have x6 := cell_later GB.out x6
          have y0 := cell_later GB.out y0; have y1 := cell_later GB.out y1; have y2 := cell_later GB.out y2; have y3 := cell_later GB.out y3; have y4 := cell_later GB.out y4; have y5 := cell_later GB.out y5; have y6 := cell_later GB.out y6
          have sx0 := cell_regrown x0; have sx1 := cell_regrown x1; have sx2 := cell_regrown x2; have sx3 := cell_regrown x3; have sx4 := cell_regrown x4; have sx5 := cell_regrown x5; have sx6 := cell_regrown x6; have sy0 := cell_regrown y0; have sy1 := cell_regrown y1; have sy2 := cell_regrown y2; have sy3 := cell_regrown y3; have sy4 := cell_regrown y4; have sy5 := cell_regrown y5; have sy6 := cell_regrown y6
          rcases Nat.lt_trichotomy i k with hik | hik | hik
          · have a1 : ((i : Int) != (k : Int)) = true := by simp; omega
            have a2 : decide ((i : Int) < (k : Int)) = true := by simp; omega
            have a3 : q = false := HQ.out.symm.trans (HA.out (by omega))
            subst a3
            have CO := hide (fun dd os => Calls.regrown_of (refOrderM_neg x y (HB.out hik) (grow (redrawn wc dd) os)))
            go_wp2
            refine wp_region_quiet_below (by kernel_rfl) (by kernel_rfl) ?_
            repeat (go_big_quiet_step (exact CO.out _ _))
            refine wpQuiet_nil ?_
            intro _ hw'
            obtain ⟨⟨dq, osq⟩, hw''⟩ := hw'
            subst hw''
            have GC := hide (Grow.trans' (Grow.trans' HG2.out GB.out) (below_regrown wc dq osq))
            clear sx0 sx1 sx2 sx3 sx4 sx5 sx6 sy0 sy1 sy2 sy3 sy4 sy5 sy6 x0 x1 x2 x3 x4 x5 x6 y0 y1 y2 y3 y4 y5 y6
            clear CO
            generalize grow (redrawn wc dq) osq = wd at *
            go_wp2
            go_roundw
            case rel => exact ⟨k + 1, by omega, by go_num, GC.out⟩
            case measure => simp [intOf]; omega
          · subst hik
            have a1 : ((i : Int) != (i : Int)) = false := by simp
            have a2 : decide ((i : Int) < (i : Int)) = false := by simp
            go_wp2
            refine wp_region_quiet_below (by kernel_rfl) (by kernel_rfl) ?_
            repeat (go_big_quiet_step (fail))
            refine wpQuiet_nil ?_
            intro _ hw'
            obtain ⟨⟨dq, osq⟩, hw''⟩ := hw'
            subst hw''
            have GC := hide (Grow.trans' (Grow.trans' HG2.out GB.out) (below_regrown wc dq osq))
            clear sx0 sx1 sx2 sx3 sx4 sx5 sx6 sy0 sy1 sy2 sy3 sy4 sy5 sy6 x0 x1 x2 x3 x4 x5 x6 y0 y1 y2 y3 y4 y5 y6
            generalize grow (redrawn wc dq) osq = wd at *
            go_wp2
            go_roundw
            case rel => exact ⟨i + 1, by omega, by go_num, GC.out⟩
            case measure => simp [intOf]; omega
          · have a1 : ((i : Int) != (k : Int)) = true := by simp; omega
            have a2 : decide ((i : Int) < (k : Int)) = false := by simp; omega
            have a4 : decide (i < k) = false := by simp; omega
            have a3 : q = false := HQ.out.symm.trans (HA.out (by omega))
            subst a3
            go_wp2
            refine wp_region_quiet_below (by kernel_rfl) (by kernel_rfl) ?_
            repeat (go_big_quiet_step (fail))
            refine wpQuiet_nil ?_
            intro _ hw'
            obtain ⟨⟨dq, osq⟩, hw''⟩ := hw'
            subst hw''
            have GC := hide (Grow.trans' (Grow.trans' HG2.out GB.out) (below_regrown wc dq osq))
            clear sx0 sx1 sx2 sx3 sx4 sx5 sx6 sy0 sy1 sy2 sy3 sy4 sy5 sy6 x0 x1 x2 x3 x4 x5 x6 y0 y1 y2 y3 y4 y5 y6
            generalize grow (redrawn wc dq) osq = wd at *
            go_wp2
            go_roundw
            case rel => exact ⟨k + 1, by omega, by go_num, GC.out⟩
            case measure => simp [intOf]; omega
        · have hkn : ¬ (k : Int) < (n2 : Int) := by omega
          have HG2 := hide hg2
          clear hg2
          go_wp2
          go_roundw
          case rel => exact ⟨i + 1, by omega, by go_num, HG2.out⟩
          case measure => simp [intOf]; omega
    · have hin : ¬ (i : Int) < (n2 : Int) := by omega
      go_wp2_with fail
      go_loopw [8] (fun v wr => ∃ k : Nat, k ≤ n1 ∧ v = .int .i64 k ∧ Grow w3 wr) (fun v _ => n1 - (intOf v).toNat)
      case atStart => exact ⟨0, Nat.zero_le _, rfl, HG.out⟩
      case round =>
        obtain ⟨k, hk, rfl, hg2⟩ := hrel
        by_cases hlt2 : k < n1
        · have hk1 : (k : Int) < (n1 : Int) := by omega
          have hk0 : (0 : Int) ≤ (k : Int) := by omega
          have hkd : k < D.length := by rw [HI3.out.1]; exact hlt2
          have hne : ¬ D = [] := fun h => by rw [h] at hkd; simp at hkd
          obtain ⟨b, o, rfl, hr1⟩ := HI3.out.2.2.resolve_left hne
          obtain ⟨x0, x1, x2, x3, x4, x5, x6⟩ := (hr1.later hg2).at k hkd
          have HM := hide (chainO_has kinS D k hkd)
          obtain ⟨x, hx⟩ : ∃ x, x = D[k] := ⟨_, rfl⟩
          rw [← hx] at x0 x1 x2 x3 x4 x5 x6 HM
          have X0 := hide (And.intro x0 (And.intro x1 (And.intro x2 (And.intro x3 (And.intro x4 (And.intro x5 x6))))))
          have HG2 := hide hg2
          clear hx hg2 hne hr1
          cases hp : kinS.may x
          · have C4 := hide (refMayM_at x hp wr)
            go_wp2_with fail
            refine (C4.out).mono ?_
            rintro e w4 ⟨rfl, hb⟩
            have G4 := hide (Grow.trans' HG2.out hb)
            clear hb C4 x0 x1 x2 x3 x4 x5 x6
            go_wp2_with fail
            go_roundw
            case rel => exact ⟨k + 1, by omega, by go_num, G4.out⟩
            case measure => simp [intOf]; omega
          · have C4 := hide (refMayM_at x hp wr)
            have HM2 := hide (HM.out hp)
            go_wp2_with fail
            refine (C4.out).mono ?_
            rintro e w4 ⟨rfl, hb⟩
            have G4 := hide (Grow.trans' HG2.out hb)
            have B4 := hide hb
            have C5 := hide (coversM_any s2 n2 c2 (chainO kinS D) x HM2.out w4 (by omega) (HC3.out.later G4.out))
            clear hb C4 x0 x1 x2 x3 x4 x5 x6
            obtain ⟨x0, x1, x2, x3, x4, x5, x6⟩ := X0.out
            have x0 := cell_later B4.out x0; have x1 := cell_later B4.out x1; have x2 := cell_later B4.out x2; have x3 := cell_later B4.out x3; have x4 := cell_later B4.out x4; have x5 := cell_later B4.out x5; have x6 := cell_later B4.out x6
            go_wp2_with fail
            refine (C5.out).mono ?_
            rintro e w5 ⟨rfl, hb⟩
            have G5 := hide (Grow.trans' G4.out hb)
            clear hb C5 x0 x1 x2 x3 x4 x5 x6
            go_wp2_with fail
            go_roundw
            case rel => exact ⟨k + 1, by omega, by go_num, G5.out⟩
            case measure => simp [intOf]; omega
        · have hkn : ¬ (k : Int) < (n1 : Int) := by omega
          have HG2 := hide (Grow.trans' G3.out hg2)
          clear hg2
          go_wp2
          go_ret
          exact ⟨rfl, HG2.out⟩

end Go.Proofs.Ytkpecibbpogedab
