/-
  GraphDepths: for every graph (its first 20 nodes and 40 edges; nodes whose depths, at input and output, are 0 to 3): a place's depth is that of what its node does to times: of an input where that begins, of an output where it ends; the call returns true and leaves its argument as it was. No conditions.
-/
import Derived.Test.YtjpaclcpebpcjaaHHd
import Derived.Test.YtjpaclcpebpcjaaHInn
import Derived.Lib.QuietBelow
namespace Go.Proofs.Ytjpaclcpebpcjaa
set_option maxRecDepth 100000
open Go.ChangeShapes Go.WideShapes Go.ChangeAt Go.RowKit Go.Deep Go.Sort
set_option linter.unusedVariables false
set_option linter.unusedSimpArgs false

theorem depthB_iff (d : Int) : depthB d = true ↔ 0 ≤ d ∧ d ≤ 3 := by simp [depthB]
theorem innP_ends (n : Nd) (h1 : ¬ insP n.k = 0) (h2 : hasP n.k = true) (d0 : 0 ≤ n.d) (d3 : n.d ≤ 3) (i0 : 0 ≤ inDP n) (i3 : inDP n ≤ 3) : (innP n).f = inDP n ∧ (innP n).t = n.d := by
  obtain ⟨k, a, b, d⟩ := n
  dsimp only at h1 h2 d0 d3 ⊢
  simp only [hasP, Bool.and_eq_true, decide_eq_true_eq] at h2
  have hk : 2 ≤ k := by
    unfold insP at h1
    by_cases h : k = 4
    · omega
    · rw [if_neg h] at h1
      by_cases h' : 2 ≤ k ∧ k ≤ 11
      · exact h'.1
      · rw [if_neg h'] at h1; exact absurd rfl h1
  by_cases h8 : k = 8
  · subst h8
    have e : inDP ⟨8, a, b, d⟩ = d - 1 := by show wrap64 (d - 1) = d - 1; exact IntWalk.wrap64_in _ ⟨by omega, by omega⟩
    rw [e] at i0 i3
    have e2 : innP ⟨8, a, b, d⟩ = enterS (d - 1) := by show enterS (inDP ⟨8, a, b, d⟩) = _; rw [e]
    rw [e2, e]
    unfold enterS
    rw [if_pos ⟨(depthB_iff _).2 ⟨i0, i3⟩, by omega⟩]
    exact ⟨rfl, by simp⟩
  by_cases h9 : k = 9
  · subst h9
    have e : inDP ⟨9, a, b, d⟩ = d + 1 := by show wrap64 (d + 1) = d + 1; exact IntWalk.wrap64_in _ ⟨by omega, by omega⟩
    rw [e] at i0 i3
    have e2 : innP ⟨9, a, b, d⟩ = leaveS (d + 1) := by show leaveS (inDP ⟨9, a, b, d⟩) = _; rw [e]
    rw [e2, e]
    unfold leaveS
    rw [if_pos ⟨(depthB_iff _).2 ⟨i0, i3⟩, by omega⟩]
    exact ⟨rfl, by simp⟩
  have e : inDP ⟨k, a, b, d⟩ = d := by unfold inDP; rw [if_neg h8, if_neg h9]
  rw [e]
  by_cases h10 : k = 10
  · subst h10
    have e2 : innP ⟨10, a, b, d⟩ = feedS d := rfl
    rw [e2]
    unfold feedS
    by_cases hd : d = 0
    · rw [if_neg (by omega)]; exact ⟨hd.symm, hd.symm⟩
    · rw [if_pos ⟨(depthB_iff _).2 ⟨d0, d3⟩, hd⟩]; exact ⟨rfl, rfl⟩
  · have e2 : innP ⟨k, a, b, d⟩ = sameS d := by unfold innP; rw [if_neg h8, if_neg h9, if_neg h10, if_pos (show 2 ≤ k ∧ k ≤ 7 by omega)]
    rw [e2]
    unfold sameS
    rw [if_pos ((depthB_iff _).2 ⟨d0, d3⟩)]
    exact ⟨rfl, rfl⟩
theorem dep_port (N : List Nd) (k : Nat) (h : k < N.length) (j : Nat) (hj : (j : Int) < insP (nth N k).k) : depP N ⟨k, j⟩ = inDP (nth N k) := by
  refine depP_in ?_ (by omega)
  rw [isP_in h]
  unfold portB
  rw [if_neg (by omega)]
  simp [hj]
theorem dep_out (N : List Nd) (k : Nat) (h : k < N.length) (hd : 0 ≤ (nth N k).d) : decide (depP N ⟨k, -1⟩ = (nth N k).d) = hasP (nth N k).k := by
  have hi : isP N ⟨k, -1⟩ = hasP (nth N k).k := by rw [isP_in h]; unfold portB; rw [if_pos rfl]
  cases hh : hasP (nth N k).k
  · rw [depP_out (by rw [hi, hh])]
    simp; omega
  · rw [depP_end (by rw [hi, hh])]
    simp
set_option maxHeartbeats 16000000 in
theorem depths_raw (gs : Option Addr) (gn gc : Nat) (gt : Option Addr) (gm gq : Nat) (N0 : List Nd) (E0 : List Ed) (w : World) (hN : IsNds w gs gn gc N0) (hE : IsEds w gt gm gq E0) :
    Calls Try.prog 6 #[.agg #[.slice gs gn gc, .slice gt gm gq]] w fun r w' => r = .returned (.bool true) ∧ Grow w w' := by
  have HN0 := hide (hN.cut 20)
  have CF := hide (fun w => few_raw gs gn gc gt gm gq w hN.2.1 hE.2.1)
  have hn2' := cutN_le 20 gn
  obtain ⟨n2, hn2⟩ : ∃ n2, cutN 20 gn = n2 := ⟨_, rfl⟩
  obtain ⟨m2, hm2⟩ : ∃ m2, cutN 40 gm = m2 := ⟨_, rfl⟩
  obtain ⟨N, hNN⟩ : ∃ N, N0.take 20 = N := ⟨_, rfl⟩
  rw [hn2] at HN0 CF hn2'
  rw [hm2] at CF
  rw [hNN] at HN0
  clear hN hE hn2 hm2 hNN
  have hn3 : n2 ≤ 20 := by omega
  have GG : Hid (Grow w (w.alloc (.cells #[.slice gs gn gc, .slice gt gm gq] 39))) := hide (Grow.alloc' _ _)
  have KG : Hid (BoxG (w.alloc (.cells #[.slice gs gn gc, .slice gt gm gq] 39)) w.heap.size ⟨gs, gn, gc, gt, gm, gq, [], []⟩) := hide (BoxG.new w ⟨gs, gn, gc, gt, gm, gq, [], []⟩)
  have KB : Hid (BlkG (w.alloc (.cells #[.slice gs gn gc, .slice gt gm gq] 39)) w.heap.size) := hide (BlkG.new w _ _)
  clear hn2'
  go_enter Try.func6, Try.ntmps6
  go_wp2_with fail
  generalize (w.alloc (.cells #[.slice gs gn gc, .slice gt gm gq] 39)) = w0 at *
  refine (shown_any _).mono ?_
  rintro _ w1 ⟨rfl, hb⟩
  have G1 := hide (Grow.trans' GG.out hb)
  have KB1 := hide (KB.out.later hb)
  obtain ⟨g0, g1⟩ := KG.out.later hb
  dsimp only at g0 g1
  clear hb KG KB GG
  go_wp2_with fail
  refine (CF.out _).mono ?_
  rintro _ w2 ⟨rfl, hb⟩
  have G2 := hide (Grow.trans' G1.out hb)
  have KB2 := hide (KB1.out.later hb)
  clear hb KB1 G1 g0 g1 CF
  go_wp2_with (refine wpList_putG rfl _ _ rfl w.heap.size ⟨gs, n2, gc, gt, m2, gq, [], []⟩ rfl rfl KB2.out w G2.out (Nat.le_refl _) ?_)
  intro w3 hg3 hb3 hoth hsame
  have G3 := hide hg3
  have KG3 := hide hb3
  have HN := hide (HN0.out.later hg3)
  obtain ⟨g0, g1⟩ := hb3
  dsimp only at g0 g1
  clear hg3 hoth hsame KB2 G2 HN0
  generalize w.heap.size = P at *
  go_wp2_with fail
  clear g0 g1
  go_loopw [4] (fun i wr => ∃ k : Nat, k ≤ n2 ∧ i = .int .i64 k ∧ Grow w3 wr) (fun i _ => n2 - (intOf i).toNat)
  case atStart => exact ⟨0, Nat.zero_le _, rfl, Grow.rfl' _⟩
  case round =>
    obtain ⟨k, hk, rfl, hg⟩ := hrel
    have HG := hide hg
    obtain ⟨g0, g1⟩ := KG3.out.later hg
    dsimp only at g0 g1
    by_cases hlt : k < n2
    · have hkd : k < N.length := by rw [HN.out.1]; exact hlt
      have hne : ¬ N = [] := fun h => by rw [h] at hkd; simp at hkd
      obtain ⟨b, o, rfl, hr1⟩ := HN.out.2.2.resolve_left hne
      obtain ⟨p0, p1, p2, p3⟩ := (hr1.later hg).at k hkd
      have HE := hide (fun h1 h2 => innP_ends (nth N k) h1 h2)
      have HP := hide (dep_port N k hkd)
      have HO := hide (dep_out N k hkd)
      obtain ⟨x, hx⟩ : ∃ x, x = nth N k := ⟨_, rfl⟩
      rw [← nth_get N k hkd, ← hx] at p0 p1 p2 p3
      rw [← hx] at HE HP HO
      have hi1 : (0 : Int) ≤ (k : Int) := by omega
      have hi2 : (k : Int) < (n2 : Int) := by omega
      clear hne hr1 hx hkd hg
      go_wp2_with (refine wpList_putN rfl _ _ rfl wr.heap.size x rfl rfl (BlkN.new wr) wr (Grow.alloc' _ _) (Nat.le_refl _) ?_)
      intro w4 hg4 hb4
      have G4 := hide (Grow.trans' HG.out hg4)
      have KN4 := hide hb4
      clear p0 p1 p2 p3 g0 g1 hg4 HG
      generalize wr.heap.size = rb at *
      obtain ⟨q0, q1, q2, q3⟩ := hb4
      obtain ⟨i, hi⟩ : ∃ i, inDP x = i := ⟨_, rfl⟩
      obtain ⟨s, hs⟩ : ∃ s, innP x = s := ⟨_, rfl⟩
      obtain ⟨z, hz⟩ : ∃ z, insP x.k = z := ⟨_, rfl⟩
      obtain ⟨q, hq⟩ : ∃ q, hasP x.k = q := ⟨_, rfl⟩
      have hz2 : 0 ≤ z ∧ z ≤ 2 := by have := insP_cases x.k; omega
      have C1 := hide (fun w => ins_at x.k hz w)
      have C2 := hide (fun w => has_at x.k hq w)
      have C3 := hide (fun w => inD_at x.k x.a x.b x.d hi w)
      have C4 := hide (fun w => inn_any x.k x.a x.b x.d w)
      have he : innP ⟨x.k, x.a, x.b, x.d⟩ = s := hs
      rw [he] at C4
      rw [hi, hs, hz, hq] at HE
      rw [hz, hi] at HP
      rw [hq] at HO
      clear hi hs hz hq he
      obtain ⟨xk, xa, xb, xd⟩ := x
      dsimp only at q0 q1 q2 q3 C1 C2 C3 C4 HE HP HO KN4
      go_wp2_with fail
      refine (C3.out _).mono ?_
      rintro _ w5 ⟨rfl, hb⟩
      have G5 := hide (Grow.trans' G4.out hb)
      have KN5 := hide (KN4.out.later hb)
      clear q0 q1 q2 q3 hb G4 KN4 C3
      obtain ⟨q0, q1, q2, q3⟩ := KN5.out
      dsimp only at q0 q1 q2 q3
      have hc : xd < 0 ∨ (¬ xd < 0 ∧ 3 < xd) ∨ (¬ xd < 0 ∧ ¬ 3 < xd ∧ i < 0) ∨ (¬ xd < 0 ∧ ¬ 3 < xd ∧ ¬ i < 0 ∧ 3 < i) ∨ (¬ xd < 0 ∧ ¬ 3 < xd ∧ ¬ i < 0 ∧ ¬ 3 < i) := by omega
      rcases hc with d1 | ⟨d1, d2⟩ | ⟨d1, d2, d3⟩ | ⟨d1, d2, d3, d4⟩ | ⟨d1, d2, d3, d4⟩
      · go_wp2_with fail
        go_roundw
        case rel => exact ⟨k + 1, by omega, by go_num, G5.out⟩
        case measure => simp [intOf]; omega
      · go_wp2_with fail
        go_roundw
        case rel => exact ⟨k + 1, by omega, by go_num, G5.out⟩
        case measure => simp [intOf]; omega
      · go_wp2_with fail
        go_roundw
        case rel => exact ⟨k + 1, by omega, by go_num, G5.out⟩
        case measure => simp [intOf]; omega
      · go_wp2_with fail
        go_roundw
        case rel => exact ⟨k + 1, by omega, by go_num, G5.out⟩
        case measure => simp [intOf]; omega
      · go_wp2_with fail
        refine (C4.out _).mono ?_
        rintro _ w6 ⟨rfl, hb⟩
        have G6 := hide (Grow.trans' G5.out hb)
        have KN6 := hide (KN5.out.later hb)
        clear q0 q1 q2 q3 hb G5 KN5 C4
        go_wp2_with (refine wpList_putS rfl _ _ rfl w6.heap.size s rfl rfl (BlkS.new w6) w6 (Grow.alloc' _ _) (Nat.le_refl _) ?_)
        intro w7 hg7 hb7
        have G7 := hide (Grow.trans' G6.out hg7)
        have KN7 := hide (KN6.out.later hg7)
        clear G6 KN6 hg7
        generalize w6.heap.size = sb at *
        obtain ⟨s0, s1, s2, s3, s4, s5, s6⟩ := hb7
        obtain ⟨q0, q1, q2, q3⟩ := KN7.out
        dsimp only at q0 q1 q2 q3
        have HKG : Hid (∀ wq, Grow w7 wq → BoxG wq P ⟨some ⟨b, o, none⟩, n2, gc, gt, m2, gq, [], []⟩) := hide (fun wq h => KG3.out.later (Grow.trans' G7.out h))
        have HHN : Hid (∀ wq, Grow w7 wq → IsNds wq (some ⟨b, o, none⟩) n2 gc N) := hide (fun wq h => HN.out.later (Grow.trans' G7.out h))
        have HGW : Hid (∀ wq, Grow w7 wq → Grow w3 wq) := hide (fun wq h => Grow.trans' G7.out h)
        have hcz : z = 0 ∨ (0 < z ∧ q = false) ∨ (0 < z ∧ q = true) := by cases q <;> simp <;> omega
        rcases hcz with hz0 | ⟨hz0, hq0⟩ | ⟨hz0, hq0⟩
        · have HZ := hide hz2
          have hz3 : ¬ 0 < z := by omega
          clear hz0
          clear HE
          go_wp2_with fail
          refine (C1.out _).mono ?_
          rintro _ w8 ⟨rfl, rfl⟩
          go_wp2_with fail
          clear s0 s1 s2 s3 s4 s5 s6 q0 q1 q2 q3
          rename World => w8
          go_loopw [8] (fun ip wq => ∃ j : Nat, j ≤ z.toNat ∧ ip = .int .i64 j ∧ Grow w8 wq) (fun ip _ => z.toNat - (intOf ip).toNat)
          case atStart => exact ⟨0, Nat.zero_le _, rfl, Grow.rfl' _⟩
          case round =>
            obtain ⟨j, hj, rfl, hq⟩ := hrel
            have HQ := hide hq
            obtain ⟨q0, q1, q2, q3⟩ := KN7.out.later hq
            obtain ⟨g0, g1⟩ := HKG.out wr hq
            dsimp only at q0 q1 q2 q3 g0 g1
            have hzb := HZ.out
            by_cases hjz : j < z.toNat
            · exact absurd hjz (by omega)
            · have hj2 : ¬ (j : Int) < z := by omega
              clear hq
              go_wp2_with fail
              refine (C1.out _).mono ?_
              rintro _ w9 ⟨rfl, rfl⟩
              go_wp2_with fail
              obtain ⟨y, hy⟩ : ∃ y, depP N ⟨k, -1⟩ = y := ⟨_, rfl⟩
              have hyd := HO.out (by omega)
              rw [hy] at hyd
              have hyd2 : (y == xd) = q := hyd
              have D1 := hide (fun w => (C2.out w).mono fun e w' ⟨h, k⟩ => (⟨h, by rw [k]; exact Grow.rfl' _⟩ : e = _ ∧ Grow w w'))
              have D2 := hide (fun wq h => dep_raw (some ⟨b, o, none⟩) n2 gc gt m2 gq N k (-1) wq hn3 (HHN.out wq (Grow.trans' HQ.out h)))
              rw [hy] at D2
              have sq0 := cell_regrown q0
              have sq1 := cell_regrown q1
              have sq2 := cell_regrown q2
              have sq3 := cell_regrown q3
              have sg0 := cell_regrown g0
              have sg1 := cell_regrown g1
              have Q1 := hide (fun dd os => Calls.regrown_of (D1.out (grow (redrawn w9 dd) os)))
              have Q2 := hide (fun dd os => Calls.regrown_of (D2.out (grow (redrawn w9 dd) os) (below_regrown w9 dd os)))
              clear hy hyd D1 D2
              refine wp_region_quiet_below (by kernel_rfl) (by kernel_rfl) ?_
              repeat (go_big_quiet_step (first | (go_at_call 12; exact Q1.out _ _) | (go_at_call 31; exact Q2.out _ _)))
              refine wpQuiet_nil ?_
              intro _ hw'
              obtain ⟨⟨dq, osq⟩, hw''⟩ := hw'
              subst hw''
              have G9 := hide (HGW.out _ (Grow.trans' HQ.out (below_regrown w9 dq osq)))
              clear sq0 sq1 sq2 sq3 sg0 sg1 q0 q1 q2 q3 g0 g1
              go_wp2_with fail
              go_roundw
              case rel => exact ⟨k + 1, by omega, by go_num, G9.out⟩
              case measure => simp [intOf]; omega
        · have HZ := hide hz2
          subst hq0
          clear HE
          go_wp2_with fail
          refine (C1.out _).mono ?_
          rintro _ w8 ⟨rfl, rfl⟩
          go_wp2_with fail
          refine (C2.out _).mono ?_
          rintro _ w8 ⟨rfl, rfl⟩
          go_wp2_with fail
          clear s0 s1 s2 s3 s4 s5 s6 q0 q1 q2 q3
          rename World => w8
          go_loopw [8] (fun ip wq => ∃ j : Nat, j ≤ z.toNat ∧ ip = .int .i64 j ∧ Grow w8 wq) (fun ip _ => z.toNat - (intOf ip).toNat)
          case atStart => exact ⟨0, Nat.zero_le _, rfl, Grow.rfl' _⟩
          case round =>
            obtain ⟨j, hj, rfl, hq⟩ := hrel
            have HQ := hide hq
            obtain ⟨q0, q1, q2, q3⟩ := KN7.out.later hq
            obtain ⟨g0, g1⟩ := HKG.out wr hq
            dsimp only at q0 q1 q2 q3 g0 g1
            have hzb := HZ.out
            by_cases hjz : j < z.toNat
            · have hj2 : (j : Int) < z := by omega
              have C5 := hide (dep_raw (some ⟨b, o, none⟩) n2 gc gt m2 gq N k j wr hn3 (HHN.out wr hq))
              rw [HP.out j hj2] at C5
              clear hq
              go_wp2_with fail
              refine (C1.out _).mono ?_
              rintro _ w9 ⟨rfl, rfl⟩
              go_wp2_with fail
              refine C5.out.mono ?_
              rintro _ w10 ⟨rfl, hb⟩
              have HQ2 := hide (Grow.trans' HQ.out hb)
              clear hb q0 q1 q2 q3 g0 g1 HQ C5
              go_wp2_with fail
              go_roundw
              case rel => exact ⟨j + 1, by omega, by go_num, HQ2.out⟩
              case measure => simp [intOf]; omega
            · have hj2 : ¬ (j : Int) < z := by omega
              clear hq
              go_wp2_with fail
              refine (C1.out _).mono ?_
              rintro _ w9 ⟨rfl, rfl⟩
              go_wp2_with fail
              obtain ⟨y, hy⟩ : ∃ y, depP N ⟨k, -1⟩ = y := ⟨_, rfl⟩
              have hyd := HO.out (by omega)
              rw [hy] at hyd
              have hyd2 : (y == xd) = false := hyd
              have D1 := hide (fun w => (C2.out w).mono fun e w' ⟨h, k⟩ => (⟨h, by rw [k]; exact Grow.rfl' _⟩ : e = _ ∧ Grow w w'))
              have D2 := hide (fun wq h => dep_raw (some ⟨b, o, none⟩) n2 gc gt m2 gq N k (-1) wq hn3 (HHN.out wq (Grow.trans' HQ.out h)))
              rw [hy] at D2
              have sq0 := cell_regrown q0
              have sq1 := cell_regrown q1
              have sq2 := cell_regrown q2
              have sq3 := cell_regrown q3
              have sg0 := cell_regrown g0
              have sg1 := cell_regrown g1
              have Q1 := hide (fun dd os => Calls.regrown_of (D1.out (grow (redrawn w9 dd) os)))
              have Q2 := hide (fun dd os => Calls.regrown_of (D2.out (grow (redrawn w9 dd) os) (below_regrown w9 dd os)))
              clear hy hyd D1 D2
              refine wp_region_quiet_below (by kernel_rfl) (by kernel_rfl) ?_
              repeat (go_big_quiet_step (first | (go_at_call 12; exact Q1.out _ _) | (go_at_call 31; exact Q2.out _ _)))
              refine wpQuiet_nil ?_
              intro _ hw'
              obtain ⟨⟨dq, osq⟩, hw''⟩ := hw'
              subst hw''
              have G9 := hide (HGW.out _ (Grow.trans' HQ.out (below_regrown w9 dq osq)))
              clear sq0 sq1 sq2 sq3 sg0 sg1 q0 q1 q2 q3 g0 g1
              go_wp2_with fail
              go_roundw
              case rel => exact ⟨k + 1, by omega, by go_num, G9.out⟩
              case measure => simp [intOf]; omega
        · have HZ := hide hz2
          subst hq0
          obtain ⟨e1, e2⟩ := HE.out (by omega) rfl (by omega) (by omega) (by omega) (by omega)
          rw [e1] at s0
          rw [e2] at s1
          clear e1 e2
          clear HE
          go_wp2_with fail
          refine (C1.out _).mono ?_
          rintro _ w8 ⟨rfl, rfl⟩
          go_wp2_with fail
          refine (C2.out _).mono ?_
          rintro _ w8 ⟨rfl, rfl⟩
          go_wp2_with fail
          clear s0 s1 s2 s3 s4 s5 s6 q0 q1 q2 q3
          rename World => w8
          go_loopw [8] (fun ip wq => ∃ j : Nat, j ≤ z.toNat ∧ ip = .int .i64 j ∧ Grow w8 wq) (fun ip _ => z.toNat - (intOf ip).toNat)
          case atStart => exact ⟨0, Nat.zero_le _, rfl, Grow.rfl' _⟩
          case round =>
            obtain ⟨j, hj, rfl, hq⟩ := hrel
            have HQ := hide hq
            obtain ⟨q0, q1, q2, q3⟩ := KN7.out.later hq
            obtain ⟨g0, g1⟩ := HKG.out wr hq
            dsimp only at q0 q1 q2 q3 g0 g1
            have hzb := HZ.out
            by_cases hjz : j < z.toNat
            · have hj2 : (j : Int) < z := by omega
              have C5 := hide (dep_raw (some ⟨b, o, none⟩) n2 gc gt m2 gq N k j wr hn3 (HHN.out wr hq))
              rw [HP.out j hj2] at C5
              clear hq
              go_wp2_with fail
              refine (C1.out _).mono ?_
              rintro _ w9 ⟨rfl, rfl⟩
              go_wp2_with fail
              refine C5.out.mono ?_
              rintro _ w10 ⟨rfl, hb⟩
              have HQ2 := hide (Grow.trans' HQ.out hb)
              clear hb q0 q1 q2 q3 g0 g1 HQ C5
              go_wp2_with fail
              go_roundw
              case rel => exact ⟨j + 1, by omega, by go_num, HQ2.out⟩
              case measure => simp [intOf]; omega
            · have hj2 : ¬ (j : Int) < z := by omega
              clear hq
              go_wp2_with fail
              refine (C1.out _).mono ?_
              rintro _ w9 ⟨rfl, rfl⟩
              go_wp2_with fail
              obtain ⟨y, hy⟩ : ∃ y, depP N ⟨k, -1⟩ = y := ⟨_, rfl⟩
              have hyd := HO.out (by omega)
              rw [hy] at hyd
              have hyd2 : (y == xd) = true := hyd
              have D1 := hide (fun w => (C2.out w).mono fun e w' ⟨h, k⟩ => (⟨h, by rw [k]; exact Grow.rfl' _⟩ : e = _ ∧ Grow w w'))
              have D2 := hide (fun wq h => dep_raw (some ⟨b, o, none⟩) n2 gc gt m2 gq N k (-1) wq hn3 (HHN.out wq (Grow.trans' HQ.out h)))
              rw [hy] at D2
              have sq0 := cell_regrown q0
              have sq1 := cell_regrown q1
              have sq2 := cell_regrown q2
              have sq3 := cell_regrown q3
              have sg0 := cell_regrown g0
              have sg1 := cell_regrown g1
              have Q1 := hide (fun dd os => Calls.regrown_of (D1.out (grow (redrawn w9 dd) os)))
              have Q2 := hide (fun dd os => Calls.regrown_of (D2.out (grow (redrawn w9 dd) os) (below_regrown w9 dd os)))
              clear hy hyd D1 D2
              refine wp_region_quiet_below (by kernel_rfl) (by kernel_rfl) ?_
              repeat (go_big_quiet_step (first | (go_at_call 12; exact Q1.out _ _) | (go_at_call 31; exact Q2.out _ _)))
              refine wpQuiet_nil ?_
              intro _ hw'
              obtain ⟨⟨dq, osq⟩, hw''⟩ := hw'
              subst hw''
              have G9 := hide (HGW.out _ (Grow.trans' HQ.out (below_regrown w9 dq osq)))
              clear sq0 sq1 sq2 sq3 sg0 sg1 q0 q1 q2 q3 g0 g1
              go_wp2_with fail
              go_roundw
              case rel => exact ⟨k + 1, by omega, by go_num, G9.out⟩
              case measure => simp [intOf]; omega
    · have hi2 : ¬ (k : Int) < (n2 : Int) := by omega
      clear hg
      go_wp2_with fail
      go_ret
      exact ⟨rfl, Grow.trans' G3.out HG.out⟩

theorem GraphDepths_any (g : GA) (w : World) (hg : IsG w g) :
    Calls Try.prog 6 #[.agg #[.slice g.s g.n g.c, .slice g.t g.m g.q]] w fun r w' => r = .returned (.bool true) ∧ Grow w w' :=
  depths_raw g.s g.n g.c g.t g.m g.q g.N g.E w hg.nodes hg.edges

set_option maxRecDepth 100000 in
theorem GraphDepths_lifted (os : Os) (started : os.Started) (H : Type) (enc : TypeId × Value → H) :
    ReturnsInHanded {} Try.checked os 6 .any (Rows.graphDepthsSpec.pre6 enc Try.prog Try.f6 Rows.graphDepthsRow.domain false) (Rows.graphDepthsSpec.post enc Try.prog Try.f6 false true false false) := by
  refine returnsInHanded_of_change (C := Try.checked) own started (by kernel_rfl) Try.func6
    (ChangeSpec.witness6 (enc := enc) (C := Try.checked) false ⟨#[], #[.agg #[.slice none 0 0, .slice none 0 0]], []⟩ 8 (by kernel_rfl) (by kernel_rfl) (by kernel_rfl) (by kernel_rfl)) ?_
  intro W base args ds gs before hval0 hW hcnd _
  have hval : ∀ (j : Nat) t v, Try.f6.params[j]? = some t → args[j]? = some v → Value.okWide Try.prog W .any base t v := hval0
  have hW' := hW
  obtain ⟨p, q, hA0, hV, rfl, hfz, hnd⟩ := hW
  have hA : DataW.TrodAll enc Try.prog W 0 (fun _ => true) true Try.f6.params.toList args.toList ds p := hA0
  rw [Try.params6] at hA hval
  obtain ⟨v0, vs0, d0, ds0, p0, q0, hargs, rfl, rfl, h0, r0⟩ := trodAll_cons hA
  obtain ⟨rfl, rfl, rfl⟩ := trodAll_nil r0
  obtain rfl : args = #[v0] := by cases args; simp_all
  obtain ⟨rfl, rfl⟩ := trodVars_none hV
  have k0 := h0
  have lt0 : ∀ x ∈ p0, x.block < W.heap.size := by obtain ⟨m, hm⟩ := k0; exact DataW.trod_lt m _ _ _ hm
  obtain ⟨t0, rfl, w0⟩ := open_gr (hval 0 39 v0 rfl rfl) h0
  clear hA0 hval0
  refine (GraphDepths_any t0 W w0).mono fun e W' ⟨he, bel⟩ => ?_
  subst he
  exact ⟨_, rfl, _, _, _, [], _, [], hW', trodAll_mk1 (shut_bool Try.underlying4 _), (trodAll_cons_mk (Below.trod laidOut (by kernel_rfl) (of_decide_eq_true (by kernel_rfl)) k0 bel lt0) trodAll_mk0), rfl, bel.frame _, fun h => by cases h⟩

/-- The given statement. -/
theorem GraphDepths_holds : Rows.GraphDepthsSaid :=
  OpenClaim.holds_of_wide 6 Try.f6 rfl rfl rfl rfl rfl rfl rfl ⟨rfl, rfl, rfl, rfl, rfl⟩ rfl rfl rfl rfl rfl (by kernel_rfl) Try.func6 (by kernel_rfl)
    (of_decide_eq_true (by kernel_rfl)) (by unfold Func.isWrapper; first | (rw [if_pos (by decide +kernel)]; kernel_rfl) | (rw [if_neg (by decide +kernel)]; exact ⟨rfl, rfl⟩))
    (fun os started H enc _ => GraphDepths_lifted os started H enc)


end Go.Proofs.Ytjpaclcpebpcjaa
