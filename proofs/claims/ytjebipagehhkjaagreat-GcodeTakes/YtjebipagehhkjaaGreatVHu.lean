/-
  What valid.hasUnfedWay does to the world: of every graph whose edges lead from nodes to nodes it tells whether one of its nodes has a way round without a feedback of its own depth; what was there stays as it was.
-/
import Derived.Test.YtjebipagehhkjaaGreatVLb
import Derived.Deep.Cut
namespace Go.Proofs.YtjebipagehhkjaaGreat
set_option maxRecDepth 100000
open Go.RowKit Go.Sort
set_option linter.unusedVariables false
set_option linter.unusedSimpArgs false

set_option maxHeartbeats 4000000 in
theorem unfed_raw (gs : Option Addr) (gn gc : Nat) (gt : Option Addr) (gm gq : Nat) (N : List Nd) (E : List Ed) (w : World) (hn : gn ≤ 20) (hm : gm ≤ 40) (hin : InN N E) (hg : IsNds w gs gn gc N) (he : IsEds w gt gm gq E) {r : Bool} (hr : (List.range N.length).any (cycB N E) = r) :
    Calls Tryz.prog 64 #[.agg #[.slice gs gn gc, .slice gt gm gq]] w fun e w' => e = .returned (.bool r) ∧ Grow w w' := by
  have HR := hide hr
  have HIN := hide hin
  have HM := hide hm
  have hN : N.length = gn := hg.1
  have GG : Hid (Grow w (w.alloc (.cells #[.slice gs gn gc, .slice gt gm gq] 27))) := hide (Grow.alloc' _ _)
  have KG : Hid (BoxG (w.alloc (.cells #[.slice gs gn gc, .slice gt gm gq] 27)) w.heap.size ⟨gs, gn, gc, gt, gm, gq, [], []⟩) := hide (BoxG.new w ⟨gs, gn, gc, gt, gm, gq, [], []⟩)
  have HN := hide (hg.later GG.out)
  have HE := hide (he.later GG.out)
  clear hin hm hg he hr
  go_enter Tryz.func64, Tryz.ntmps64
  go_wp2_with fail
  generalize (w.alloc (.cells #[.slice gs gn gc, .slice gt gm gq] 27)) = w0 at *
  generalize w.heap.size = P at *
  obtain ⟨k0, k1⟩ := KG.out
  dsimp only at k0 k1
  go_loopw [10] (fun i wr => ∃ k : Nat, k ≤ gn ∧ i = .int .i64 (k : Int) ∧ Grow w0 wr ∧ ∀ j, j < k → cycB N E j = false) (fun i _ => gn - (intOf i).toNat)
  case atStart => exact ⟨0, Nat.zero_le _, rfl, Grow.rfl' _, fun j h => by omega⟩
  case round =>
    obtain ⟨k, hk, rfl, hg, hall⟩ := hrel
    have HA := hide hall
    have HG := hide hg
    clear hall k0 k1
    by_cases hlt : k < gn
    · have hkd : k < N.length := by rw [hN]; exact hlt
      have hne : ¬ N = [] := fun h => by rw [h] at hkd; simp at hkd
      obtain ⟨be, o, rfl, hr1⟩ := HN.out.2.2.resolve_left hne
      obtain ⟨p0, p1, p2, p3⟩ := (hr1.later hg).at k hkd
      rw [← nth_get N k hkd] at p0 p1 p2 p3
      obtain ⟨x, hx⟩ : ∃ x, x = nth N k := ⟨_, rfl⟩
      rw [← hx] at p0 p1 p2 p3
      obtain ⟨z, hz⟩ : ∃ z, lowP x = z := ⟨_, rfl⟩
      have HZ : Hid (lowP (nth N k) = z) := hide (by rw [← hx]; exact hz)
      have HX : Hid ((nth N k).k = x.k) := hide (by rw [← hx])
      obtain ⟨xk, xa, xb, xd⟩ := x
      dsimp only at p0 p1 p2 p3 HX
      have C1 := hide (fun w => low_at xk xa xb xd hz w)
      have hi1 : (0 : Int) ≤ (k : Int) := by omega
      have hi2 : (k : Int) < (gn : Int) := by omega
      have HKD := hide hkd
      clear hne hr1 hx hz hkd hg
      go_wp2_with (refine wpList_putN rfl _ _ rfl wr.heap.size ⟨xk, xa, xb, xd⟩ rfl rfl (BlkN.new wr) wr (Grow.alloc' _ _) (Nat.le_refl _) ?_)
      intro w4 hg4 hb4
      have G4 := hide (Grow.trans' HG.out hg4)
      have KN4 := hide hb4
      obtain ⟨q0, q1, q2, q3⟩ := hb4
      dsimp only at q0 q1 q2 q3
      generalize wr.heap.size = NB at *
      clear p0 p1 p2 p3 hg4 HG
      go_wp2_with fail
      refine (C1.out _).mono ?_
      rintro _ w5 ⟨rfl, hb⟩
      have G6 : Hid (Grow w0 (w5.alloc (.cells #[.int .i64 z] 3))) := hide (Grow.trans' (Grow.trans' G4.out hb) (Grow.alloc' _ _))
      have G56 : Grow w5 (w5.alloc (.cells #[.int .i64 z] 3)) := Grow.alloc' _ _
      have KO : Hid (((w5.alloc (.cells #[.int .i64 z] 3))).cell? ⟨w5.heap.size, 0, none⟩ = some (.int .i64 z)) := hide (by simp [go_sem])
      have KN5 := hide ((KN4.out.later hb).later G56)
      clear hb G56 q0 q1 q2 q3 G4 KN4 C1
      go_upto_region 6 with fail
      generalize (w5.alloc (.cells #[.int .i64 z] 3)) = w6 at *
      generalize w5.heap.size = OB at *
      obtain ⟨q0, q1, q2, q3⟩ := KN5.out
      dsimp only at q0 q1 q2 q3
      obtain ⟨k0, k1⟩ := KG.out.later G6.out
      dsimp only at k0 k1
      by_cases hk10 : xk = 10
      · subst hk10
        have HH : Hid (cycB N E k = false) := hide (by unfold cycB; rw [HX.out]; rfl)
        go_wp2_with fail
        go_roundw
        case rel =>
          refine ⟨k + 1, by omega, by go_num, G6.out, fun j hj => ?_⟩
          by_cases hjk : j < k
          · exact HA.out j hjk
          · have : j = k := by omega
            subst this
            exact HH.out
        case measure => simp [intOf]; omega
      · have HK : Hid (¬ xk = 10) := hide hk10
        have C2 := hide (leads_raw (some ⟨be, o, none⟩) gn gc gt gm gq N E k z P OB w6 hn HM.out HKD.out HIN.out (KG.out.later G6.out) KO.out (HN.out.later G6.out) (HE.out.later G6.out))
        go_wp2_with fail
        refine C2.out.mono ?_
        rintro _ w7 ⟨⟨r', rfl, hr'⟩, hb⟩
        have HC : Hid (cycB N E k = r') := hide (by
          unfold cycB
          rw [HX.out, decide_eq_true HK.out, Bool.true_and, Bool.eq_iff_iff, roundB_iff HIN.out HKD.out, HZ.out]
          exact hr'.symm)
        have G7 := hide (Grow.trans' G6.out hb)
        clear hb hr' q0 q1 q2 q3 k0 k1
        cases r'
        · go_wp2_with fail
          go_roundw
          case rel =>
            refine ⟨k + 1, by omega, by go_num, G7.out, fun j hj => ?_⟩
            by_cases hjk : j < k
            · exact HA.out j hjk
            · have : j = k := by omega
              subst this
              exact HC.out
          case measure => simp [intOf]; omega
        · have HT : Hid (r = true) := hide (by
            rw [← HR.out]
            exact List.any_eq_true.2 ⟨k, List.mem_range.2 HKD.out, HC.out⟩)
          go_wp2_with fail
          go_ret
          exact ⟨ret_bool (by rw [HT.out]), Grow.trans' GG.out G7.out⟩
    · have hi2 : ¬ (k : Int) < (gn : Int) := by omega
      have HT : Hid (r = false) := hide (by
        rw [← HR.out]
        cases h : (List.range N.length).any (cycB N E)
        · rfl
        · obtain ⟨j, hj, h2⟩ := List.any_eq_true.1 h
          have := HA.out j (by have := List.mem_range.1 hj; omega)
          rw [h2] at this
          cases this)
      clear hg
      go_wp2_with fail
      go_ret
      exact ⟨ret_bool (by rw [HT.out]), Grow.trans' GG.out HG.out⟩

end Go.Proofs.YtjebipagehhkjaaGreat
