/-
  What the law ChainLow does: for every two rows of times it returns true, and what was there stays as it was.
-/
import Derived.Test.YtkpecibbpogedaaHd
import Derived.Test.YtkpecibbpogedaaEqu
import Derived.Test.YtkpecibbpogedaaRAt
namespace Go.Proofs.Ytkpecibbpogedaa
set_option maxRecDepth 100000
open Go.RowKit Go.Sort
set_option linter.unusedVariables false

set_option maxHeartbeats 4000000 in
theorem ChainLow_any (s : Option Addr) (n cap : Nat) (d : List Tm) (s' : Option Addr) (n' cap' : Nat) (d' : List Tm) (w : World) (hd : IsTms w s n cap d) (hd' : IsTms w s' n' cap' d') :
    Calls Try.prog 5 #[.slice s n cap, .slice s' n' cap'] w fun e w' => e = .returned (.bool true) ∧ Grow w w' := by
  have HD := hide hd
  have HE := hide hd'
  clear hd hd'
  go_enter Try.func5, Try.ntmps5
  go_wp2_with fail
  refine (shown_any _).mono ?_
  rintro e w1 ⟨rfl, hb⟩
  have G1 := hide hb
  have C1 := hide (fewT_any s n cap d w1 (HD.out.later hb))
  clear hb
  go_wp2_with fail
  refine (C1.out).mono ?_
  rintro e w2 ⟨v, rfl, hb, s1, n1, c1, rfl, hI⟩
  obtain ⟨D, hD⟩ : ∃ D, D = d.take 60 := ⟨_, rfl⟩
  rw [← hD] at hI
  have hn1 : n1 ≤ 60 := by rw [← hI.1, hD, List.length_take]; omega
  have G2 := hide (Grow.trans' G1.out hb)
  have HI := hide hI
  have C2 := hide (fewT_any s' n' cap' d' w2 (HE.out.later G2.out))
  clear hb hI hD C1 HD G1 HE
  go_wp2_with fail
  refine (C2.out).mono ?_
  rintro e w3 ⟨v, rfl, hb, s2, n2, c2, rfl, hI⟩
  obtain ⟨E, hE⟩ : ∃ E, E = d'.take 60 := ⟨_, rfl⟩
  rw [← hE] at hI
  have hn2 : n2 ≤ 60 := by rw [← hI.1, hE, List.length_take]; omega
  have G3 := hide (Grow.trans' G2.out hb)
  have HI3 := hide (HI.out.later hb)
  have HJ3 := hide hI
  have C3 := hide (chainT_any s1 n1 c1 D w3 (by omega) (HI.out.later hb))
  clear hb hI hE C2 HI G2
  go_wp2_with fail
  refine (C3.out).mono ?_
  rintro e w4 ⟨v, rfl, hb, s3, n3, c3, rfl, hI⟩
  have hn3 : n3 ≤ 60 := by
    have h1 := hI.1
    have h2 := chainO_len kinT D
    have h3 := HI3.out.1
    omega
  have G4 := hide (Grow.trans' G3.out hb)
  have HI4 := hide (HI3.out.later hb)
  have HJ4 := hide (HJ3.out.later hb)
  have HC4 := hide hI
  have C4 := hide (chainT_any s3 n3 c3 (chainO kinT D) w4 (by omega) hI)
  clear hb hI C3 HI3 HJ3 G3
  go_wp2_with fail
  refine (C4.out).mono ?_
  rintro e w5 ⟨v, rfl, hb, s4, n4, c4, rfl, hI⟩
  rw [chainO_again] at hI
  have hn4 : n4 ≤ 60 := by
    have h1 := hI.1
    have h2 := HC4.out.1
    omega
  have G5 := hide (Grow.trans' G4.out hb)
  have HI5 := hide (HI4.out.later hb)
  have HJ5 := hide (HJ4.out.later hb)
  have HC5 := hide (HC4.out.later hb)
  have C5 := hide (sameT_any s4 s3 c4 c3 n4 n3 (chainO kinT D) (chainO kinT D) true (by simp) w5 (by omega) hI (HC4.out.later hb))
  clear hb hI C4 HI4 HJ4 G4 HC4
  go_wp2_with fail
  refine (C5.out).mono ?_
  rintro e w6 ⟨rfl, hb⟩
  have G6 := hide (Grow.trans' G5.out hb)
  have HI6 := hide (HI5.out.later hb)
  have HJ6 := hide (HJ5.out.later hb)
  have HC6 := hide (HC5.out.later hb)
  clear hb C5 HI5 HJ5 G5 HC5
  go_wp2_with fail
  go_loopw [8] (fun v wr => ∃ i : Nat, i ≤ n3 ∧ v = .int .i64 i ∧ Grow w6 wr) (fun v _ => n3 - (intOf v).toNat)
  case atStart => exact ⟨0, Nat.zero_le _, rfl, Grow.rfl' _⟩
  case round =>
    obtain ⟨i, hi, rfl, hg⟩ := hrel
    have HG := hide hg
    clear hg
    by_cases hlt : i < n3
    · have hi1 : (i : Int) < (n3 : Int) := by omega
      have hi0 : (0 : Int) ≤ (i : Int) := by omega
      have hid : i < (chainO kinT D).length := by rw [HC6.out.1]; exact hlt
      have hne : ¬ chainO kinT D = [] := fun h => by rw [h] at hid; simp at hid
      obtain ⟨b, o, rfl, hr1⟩ := HC6.out.2.2.resolve_left hne
      have HR := hide hr1
      clear hne hr1
      go_wp2_with fail
      go_loopw [9] (fun v wr => ∃ k : Nat, k ≤ n3 ∧ v = .int .i64 k ∧ Grow w6 wr) (fun v _ => n3 - (intOf v).toNat)
      case atStart => exact ⟨0, Nat.zero_le _, rfl, HG.out⟩
      case round =>
        obtain ⟨k, hk, rfl, hg2⟩ := hrel
        by_cases hlt2 : k < n3
        · have hk1 : (k : Int) < (n3 : Int) := by omega
          have hk0 : (0 : Int) ≤ (k : Int) := by omega
          have hkd : k < (chainO kinT D).length := by rw [HC6.out.1]; exact hlt2
          obtain ⟨x0, x1, x2, x3, x4⟩ := (HR.out.later hg2).at i hid
          obtain ⟨y0, y1, y2, y3, y4⟩ := (HR.out.later hg2).at k hkd
          have HA := hide (chainO_apart kinT D i k hid hkd)
          have HB := hide (chainO_rises kinT D i k hid hkd)
          obtain ⟨x, hx⟩ : ∃ x, x = (chainO kinT D)[i] := ⟨_, rfl⟩
          obtain ⟨y, hy⟩ : ∃ y, y = (chainO kinT D)[k] := ⟨_, rfl⟩
          rw [← hx] at x0 x1 x2 x3 x4 HA HB
          rw [← hy] at y0 y1 y2 y3 y4 HA HB
          have HG2 := hide hg2
          clear hx hy hg2
          have X0 := hide (And.intro x0 (And.intro x1 (And.intro x2 (And.intro x3 x4))))
          have Y0 := hide (And.intro y0 (And.intro y1 (And.intro y2 (And.intro y3 y4))))
          obtain ⟨q, hq⟩ : ∃ q, kinT.le x y = q := ⟨_, rfl⟩
          have CL := hide (fun dd os => Calls.regrown_of (refLeT_at x y hq (grow (redrawn wr dd) os)))
          have HQ := hide hq
          clear hq
          have sx0 := cell_regrown x0; have sx1 := cell_regrown x1; have sx2 := cell_regrown x2; have sx3 := cell_regrown x3; have sx4 := cell_regrown x4; have sy0 := cell_regrown y0; have sy1 := cell_regrown y1; have sy2 := cell_regrown y2; have sy3 := cell_regrown y3; have sy4 := cell_regrown y4
          go_wp2
          refine wp_region_quiet_below (by kernel_rfl) (by kernel_rfl) ?_
          repeat (go_big_quiet_step (exact CL.out _ _))
          refine wpQuiet_nil ?_
          intro _ hw'
          obtain ⟨⟨dq, osq⟩, hw''⟩ := hw'
          subst hw''
          have GB := hide (below_regrown wr dq osq)
          clear sx0 sx1 sx2 sx3 sx4 sy0 sy1 sy2 sy3 sy4 x0 x1 x2 x3 x4 y0 y1 y2 y3 y4
          clear CL
          generalize grow (redrawn wr dq) osq = wc at *
          obtain ⟨x0, x1, x2, x3, x4⟩ := X0.out
          obtain ⟨y0, y1, y2, y3, y4⟩ := Y0.out
          have x0 := cell_later GB.out x0; have x1 := cell_later GB.out x1; have x2 := cell_later GB.out x2; have x3 := cell_later GB.out x3; have x4 := cell_later GB.out x4
          have y0 := cell_later GB.out y0; have y1 := cell_later GB.out y1; have y2 := cell_later GB.out y2; have y3 := cell_later GB.out y3; have y4 := cell_later GB.out y4
          have sx0 := cell_regrown x0; have sx1 := cell_regrown x1; have sx2 := cell_regrown x2; have sx3 := cell_regrown x3; have sx4 := cell_regrown x4; have sy0 := cell_regrown y0; have sy1 := cell_regrown y1; have sy2 := cell_regrown y2; have sy3 := cell_regrown y3; have sy4 := cell_regrown y4
          rcases Nat.lt_trichotomy i k with hik | hik | hik
          · have a1 : ((i : Int) != (k : Int)) = true := by simp; omega
            have a2 : decide ((i : Int) < (k : Int)) = true := by simp; omega
            have a3 : q = false := HQ.out.symm.trans (HA.out (by omega))
            subst a3
            have CO := hide (fun dd os => Calls.regrown_of (refOrderT_neg x y (HB.out hik) (grow (redrawn wc dd) os)))
            go_wp2
            refine wp_region_quiet_below (by kernel_rfl) (by kernel_rfl) ?_
            repeat (go_big_quiet_step (exact CO.out _ _))
            refine wpQuiet_nil ?_
            intro _ hw'
            obtain ⟨⟨dq, osq⟩, hw''⟩ := hw'
            subst hw''
            have GC := hide (Grow.trans' (Grow.trans' HG2.out GB.out) (below_regrown wc dq osq))
            clear sx0 sx1 sx2 sx3 sx4 sy0 sy1 sy2 sy3 sy4 x0 x1 x2 x3 x4 y0 y1 y2 y3 y4
            clear CO
            generalize grow (redrawn wc dq) osq = wd at *
            go_wp2
            go_roundw
            case rel => exact ⟨k + 1, by omega, by go_num, GC.out⟩
            case measure => simp [intOf]; omega
          · subst hik
            have a1 : ((i : Int) != (i : Int)) = false := by simp
            have a2 : decide ((i : Int) < (i : Int)) = false := by simp
            go_wp2
            refine wp_region_quiet_below (by kernel_rfl) (by kernel_rfl) ?_
            repeat (go_big_quiet_step (fail))
            refine wpQuiet_nil ?_
            intro _ hw'
            obtain ⟨⟨dq, osq⟩, hw''⟩ := hw'
            subst hw''
            have GC := hide (Grow.trans' (Grow.trans' HG2.out GB.out) (below_regrown wc dq osq))
            clear sx0 sx1 sx2 sx3 sx4 sy0 sy1 sy2 sy3 sy4 x0 x1 x2 x3 x4 y0 y1 y2 y3 y4
            generalize grow (redrawn wc dq) osq = wd at *
            go_wp2
            go_roundw
            case rel => exact ⟨i + 1, by omega, by go_num, GC.out⟩
            case measure => simp [intOf]; omega
          · have a1 : ((i : Int) != (k : Int)) = true := by simp; omega
            have a2 : decide ((i : Int) < (k : Int)) = false := by simp; omega
            have a4 : decide (i < k) = false := by simp; omega
            have a3 : q = false := HQ.out.symm.trans (HA.out (by omega))
            subst a3
            go_wp2
            refine wp_region_quiet_below (by kernel_rfl) (by kernel_rfl) ?_
            repeat (go_big_quiet_step (fail))
            refine wpQuiet_nil ?_
            intro _ hw'
            obtain ⟨⟨dq, osq⟩, hw''⟩ := hw'
            subst hw''
            have GC := hide (Grow.trans' (Grow.trans' HG2.out GB.out) (below_regrown wc dq osq))
            clear sx0 sx1 sx2 sx3 sx4 sy0 sy1 sy2 sy3 sy4 x0 x1 x2 x3 x4 y0 y1 y2 y3 y4
            generalize grow (redrawn wc dq) osq = wd at *
            go_wp2
            go_roundw
            case rel => exact ⟨k + 1, by omega, by go_num, GC.out⟩
            case measure => simp [intOf]; omega
        · have hkn : ¬ (k : Int) < (n3 : Int) := by omega
          have HG2 := hide hg2
          clear hg2
          go_wp2
          go_roundw
          case rel => exact ⟨i + 1, by omega, by go_num, HG2.out⟩
          case measure => simp [intOf]; omega
    · have hin : ¬ (i : Int) < (n3 : Int) := by omega
      obtain ⟨p, hp⟩ : ∃ p : Bool, p = true ↔ D = E := ⟨@decide (D = E) (Classical.propDecidable _), by simp⟩
      have C7 := hide (sameT_any s1 s2 c1 c2 n1 n2 D E p hp wr (by omega) (HI6.out.later HG.out) (HJ6.out.later HG.out))
      have HP := hide hp
      clear hp
      go_wp2_with fail
      refine (C7.out).mono ?_
      rintro e w7 ⟨rfl, hb⟩
      have G7 := hide (Grow.trans' HG.out hb)
      have C8 := hide (chainSame_any s1 s2 c1 c2 n1 n2 D E p HP.out w7 (by omega) (HI6.out.later G7.out) (HJ6.out.later G7.out))
      clear hb C7
      go_wp2_with fail
      refine (C8.out).mono ?_
      rintro e w8 ⟨rfl, hb⟩
      have G8 := hide (Grow.trans' G7.out hb)
      have C9 := hide (chainSame_any s1 s1 c1 c1 n1 n1 D D true (by simp) w8 (by omega) (HI6.out.later G8.out) (HI6.out.later G8.out))
      clear hb C8
      cases p
      all_goals
        go_wp2_with fail
        refine (C9.out).mono ?_
        rintro e w9 ⟨rfl, hb⟩
        have G9 := hide (Grow.trans' G6.out (Grow.trans' G8.out hb))
        clear hb
        go_wp2_with fail
        go_ret
        exact ⟨rfl, G9.out⟩

end Go.Proofs.Ytkpecibbpogedaa
