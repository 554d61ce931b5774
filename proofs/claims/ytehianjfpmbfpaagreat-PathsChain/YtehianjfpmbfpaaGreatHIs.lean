/-
  What graph.Is, graph.Depth, and the document's own, do to the world: of every graph and every place each returns its plain answer; what was there stays as it was.
-/
import Derived.Test.YtehianjfpmbfpaaGreatHLoc
namespace Go.Proofs.YtehianjfpmbfpaaGreat
set_option maxRecDepth 100000
open Go.RowKit
set_option linter.unusedVariables false
set_option linter.unusedSimpArgs false
attribute [local go_sem ↓] eqLc

theorem isP_out {N : List Nd} {n p : Int} (h : n < 0 ∨ (N.length : Int) ≤ n) : isP N ⟨n, p⟩ = false := by
  unfold isP
  rcases h with h | h
  · have : ¬ (0 : Int) ≤ n := by omega
    simp [this]
  · have : ¬ n < (N.length : Int) := by omega
    simp [this]
theorem isP_in {N : List Nd} {k : Nat} {p : Int} (h : k < N.length) : isP N ⟨k, p⟩ = portB (nth N k).k p := by
  unfold isP
  have h1 : (0 : Int) ≤ (k : Int) := by omega
  have h2 : (k : Int) < (N.length : Int) := by omega
  simp [h1, h]
set_option maxHeartbeats 4000000 in
theorem is_raw (gs : Option Addr) (gn gc : Nat) (gt : Option Addr) (gm gq : Nat) (N : List Nd) (n p : Int) (w : World) (hn : gn ≤ 1000000) (hg : IsNds w gs gn gc N) :
    Calls Tryz.prog 61 #[.agg #[.slice gs gn gc, .slice gt gm gq], .agg #[.int .i64 n, .int .i64 p]] w fun e w' => e = .returned (.bool (isP N ⟨n, p⟩)) ∧ Grow w w' := by
  have GG : Hid (Grow w ((w.alloc (.cells #[.slice gs gn gc, .slice gt gm gq] 25)).alloc (.cells #[.int .i64 n, .int .i64 p] 27))) := hide (Grow.trans' (Grow.alloc' _ _) (Grow.alloc' _ _))
  have hz1 : (w.alloc (.cells #[.slice gs gn gc, .slice gt gm gq] 25)).heap.size = w.heap.size + 1 := by simp
  have KL : Hid (BoxL ((w.alloc (.cells #[.slice gs gn gc, .slice gt gm gq] 25)).alloc (.cells #[.int .i64 n, .int .i64 p] 27)) (w.heap.size + 1) ⟨n, p⟩) := hide (by rw [← hz1]; exact BoxL.new _ ⟨n, p⟩)
  clear hz1
  have HI := hide hg
  clear hg
  have hc : n < 0 ∨ (¬ n < 0 ∧ (gn : Int) ≤ n) ∨ (0 ≤ n ∧ n < (gn : Int)) := by omega
  rcases hc with h1 | ⟨h1, h2⟩ | ⟨h1, h2⟩
  · have HE := hide (isP_out (N := N) (p := p) (.inl h1))
    go_enter Tryz.func61, Tryz.ntmps61
    go_wp2_with fail
    go_ret
    exact ⟨ret_bool (by rw [HE.out]), GG.out⟩
  · have HE := hide (isP_out (N := N) (p := p) (.inr (by rw [HI.out.1]; exact h2)))
    go_enter Tryz.func61, Tryz.ntmps61
    go_wp2_with fail
    go_ret
    exact ⟨ret_bool (by rw [HE.out]), GG.out⟩
  · obtain ⟨k, rfl⟩ : ∃ k : Nat, n = k := ⟨n.toNat, by omega⟩
    have hkd : k < N.length := by rw [HI.out.1]; omega
    have hne : ¬ N = [] := fun h => by rw [h] at hkd; simp at hkd
    obtain ⟨b, o, rfl, hr1⟩ := HI.out.2.2.resolve_left hne
    obtain ⟨p0, p1, p2, p3⟩ := (hr1.later GG.out).at k hkd
    have HE := hide (isP_in (p := p) hkd)
    obtain ⟨x, hx⟩ : ∃ x, x = nth N k := ⟨_, rfl⟩
    rw [← nth_get N k hkd, ← hx] at p0 p1 p2 p3
    rw [← hx] at HE
    have hi0 : ¬ (k : Int) < 0 := by omega
    have hi1 : (0 : Int) ≤ (k : Int) := by omega
    have hi3 : ¬ (gn : Int) ≤ (k : Int) := by omega
    have hb0 : ¬ b = w.heap.size := by have := World.block_lt_of_cell? _ _ ((hr1.at k hkd).1); simp at this; omega
    clear hne hr1 hx hkd p1 p2 p3 h1
    obtain ⟨q, hq⟩ : ∃ q, hasP x.k = q := ⟨_, rfl⟩
    obtain ⟨z, hz⟩ : ∃ z, insP x.k = z := ⟨_, rfl⟩
    have C1 := hide (fun w => has_at x.k hq w)
    have C2 := hide (fun w => ins_at x.k hz w)
    have hc : p = -1 ∨ (¬ p = -1 ∧ ¬ 0 ≤ p) ∨ (¬ p = -1 ∧ 0 ≤ p) := by omega
    rcases hc with rfl | ⟨d1, d2⟩ | ⟨d1, d2⟩
    · have HP := hide (show portB x.k (-1) = q by unfold portB; rw [if_pos rfl, hq])
      clear hq hz
      go_enter Tryz.func61, Tryz.ntmps61
      go_wp2_with fail
      refine (C1.out _).mono ?_
      rintro e w1 ⟨rfl, rfl⟩
      go_wp2_with fail
      go_ret
      exact ⟨ret_bool (by rw [HE.out, HP.out]), GG.out⟩
    · have HP := hide (show portB x.k p = false by unfold portB; rw [if_neg d1]; simp [d2])
      clear hq hz
      go_enter Tryz.func61, Tryz.ntmps61
      go_wp2_with fail
      obtain ⟨l0, l1⟩ := KL.out
      dsimp only at l0 l1
      generalize (w.alloc (.cells #[.slice (some ⟨b, o, none⟩) gn gc, .slice gt gm gq] 25)).alloc (.cells #[.int .i64 (k : Int), .int .i64 p] 27) = w0 at *
      generalize w.heap.size = P at *
      clear l0 p0
      have d3 : decide (0 ≤ p) = false := by simpa using d2
      have d4 : p < 0 := by omega
      clear d2
      go_quiet (fail)
      go_wp2_with fail
      go_ret
      exact ⟨ret_bool (by rw [HE.out, HP.out]), Grow.trans' GG.out (below_drewN (Below.refl _ _) nq)⟩
    · have HP := hide (show portB x.k p = decide (p < z) by unfold portB; rw [if_neg d1, hz]; simp [d2])
      clear hq hz
      go_enter Tryz.func61, Tryz.ntmps61
      go_wp2_with fail
      obtain ⟨l0, l1⟩ := KL.out
      dsimp only at l0 l1
      generalize (w.alloc (.cells #[.slice (some ⟨b, o, none⟩) gn gc, .slice gt gm gq] 25)).alloc (.cells #[.int .i64 (k : Int), .int .i64 p] 27) = w0 at *
      generalize w.heap.size = P at *
      clear l0 p0
      go_quiet ((go_at_call 79; refine (C2.out _).mono ?_; rintro e w' ⟨rfl, rfl⟩; exact ⟨rfl, _, rfl⟩))
      go_wp2_with fail
      go_ret
      exact ⟨ret_bool (by rw [HE.out, HP.out]), Grow.trans' GG.out (below_drewN (Below.refl _ _) nq)⟩
set_option maxHeartbeats 4000000 in
theorem ris_raw (gs : Option Addr) (gn gc : Nat) (gt : Option Addr) (gm gq : Nat) (N : List Nd) (n p : Int) (w : World) (hn : gn ≤ 20) (hg : IsNds w gs gn gc N) :
    Calls Tryz.prog 21 #[.agg #[.slice gs gn gc, .slice gt gm gq], .agg #[.int .i64 n, .int .i64 p]] w fun e w' => e = .returned (.bool (isP N ⟨n, p⟩)) ∧ Grow w w' := by
  have GG : Hid (Grow w ((w.alloc (.cells #[.slice gs gn gc, .slice gt gm gq] 25)).alloc (.cells #[.int .i64 n, .int .i64 p] 27))) := hide (Grow.trans' (Grow.alloc' _ _) (Grow.alloc' _ _))
  have KG : Hid (BoxG ((w.alloc (.cells #[.slice gs gn gc, .slice gt gm gq] 25)).alloc (.cells #[.int .i64 n, .int .i64 p] 27)) w.heap.size ⟨gs, gn, gc, gt, gm, gq, [], []⟩) := hide ((BoxG.new w ⟨gs, gn, gc, gt, gm, gq, [], []⟩).later (Grow.alloc' _ _))
  have hz1 : (w.alloc (.cells #[.slice gs gn gc, .slice gt gm gq] 25)).heap.size = w.heap.size + 1 := by simp
  have KL : Hid (BoxL ((w.alloc (.cells #[.slice gs gn gc, .slice gt gm gq] 25)).alloc (.cells #[.int .i64 n, .int .i64 p] 27)) (w.heap.size + 1) ⟨n, p⟩) := hide (by rw [← hz1]; exact BoxL.new _ ⟨n, p⟩)
  have HI := hide (hg.later GG.out)
  have C1 := hide (rlocs_raw gs gn gc gt gm gq N ((w.alloc (.cells #[.slice gs gn gc, .slice gt gm gq] 25)).alloc (.cells #[.int .i64 n, .int .i64 p] 27)) hn HI.out)
  have HN : Hid (N.length ≤ 20) := hide (by rw [HI.out.1]; exact hn)
  have HM := hide (mem_locs N)
  have HL3 : Hid ((locs N).length ≤ 3 * N.length) := hide (locsTo_len N N.length)
  obtain ⟨D, hD⟩ : ∃ D, D = locs N := ⟨_, rfl⟩
  rw [← hD] at C1 HM HL3
  clear hD
  clear hg hz1 HI
  go_enter Tryz.func21, Tryz.ntmps21
  go_wp2_with fail
  refine (C1.out).mono ?_
  rintro _ w1 ⟨s, m, c, rfl, hb, hO⟩
  have G1 := hide (Grow.trans' GG.out hb)
  have K1 := hide (KL.out.later hb)
  have I1 := hide hO.is
  have hm : m ≤ 60 := by
    have h2 := HL3.out
    rw [← hO.1]
    have h4 := HN.out
    omega
  clear hb hO C1 KG KL GG
  go_wp2_with fail
  go_loopw [6] (fun i wr => ∃ k : Nat, k ≤ m ∧ i = .int .i64 k ∧ Grow w1 wr ∧ ∀ j (h : j < D.length), j < k → D[j] ≠ ⟨n, p⟩) (fun i _ => m - (intOf i).toNat)
  case atStart => exact ⟨0, Nat.zero_le _, rfl, Grow.rfl' _, fun j _ h => by omega⟩
  case round =>
    obtain ⟨k, hk, rfl, hg, hall⟩ := hrel
    have HG := hide hg
    have HA := hide hall
    clear hall
    by_cases hlt : k < m
    · have hkd : k < D.length := by rw [I1.out.1]; exact hlt
      have hne : ¬ D = [] := fun h => by rw [h] at hkd; simp at hkd
      obtain ⟨b, o, rfl, hr1⟩ := I1.out.2.2.resolve_left hne
      obtain ⟨p0, p1⟩ := (hr1.later hg).at k hkd
      obtain ⟨l0, l1⟩ := K1.out.later hg
      obtain ⟨x, hx⟩ : ∃ x, x = D[k] := ⟨_, rfl⟩
      have HY := hide hx
      rw [← hx] at p0 p1
      have HX : Hid (k < D.length) := hide hkd
      dsimp only at l0 l1
      have hi1 : (0 : Int) ≤ (k : Int) := by omega
      have hi2 : (k : Int) < (m : Int) := by omega
      clear hne hr1 hx hg
      obtain ⟨xn, xp⟩ := x
      dsimp only at p0 p1
      cases es : eqL ⟨xn, xp⟩ ⟨n, p⟩
      · have hxy : (⟨xn, xp⟩ : Lc) ≠ ⟨n, p⟩ := fun h => by rw [(eqL_iff _ _).2 h] at es; cases es
        have HXY := hide hxy
        clear hxy
        go_wp2_with fail
        go_quiet (fail)
        have HQ2 := hide (Grow.trans' HG.out (below_drewN (Below.refl _ _) nq))
        clear p0 p1 l0 l1 HG
        generalize wr.drewN nq = wz at *
        go_wp2_with fail
        go_roundw
        case rel =>
          refine ⟨k + 1, by omega, by go_num, HQ2.out, fun q hq h => ?_⟩
          by_cases e : q < k
          · exact HA.out q hq e
          · have : q = k := by omega
            subst this
            rw [← HY.out]; exact HXY.out
        case measure => simp [intOf]; omega
      · have hxy := (eqL_iff _ _).1 es
        have HT : Hid (isP N ⟨n, p⟩ = true) := hide ((HM.out _).1 (by rw [← hxy, HY.out]; exact List.getElem_mem HX.out))
        clear hxy
        go_wp2_with fail
        go_quiet (fail)
        have HQ2 := hide (Grow.trans' G1.out (Grow.trans' HG.out (below_drewN (Below.refl _ _) nq)))
        clear p0 p1 l0 l1 HG
        generalize wr.drewN nq = wz at *
        go_wp2_with fail
        go_ret
        exact ⟨ret_bool (by rw [HT.out]), HQ2.out⟩
    · have hi2 : ¬ (k : Int) < (m : Int) := by omega
      have HT : Hid (isP N ⟨n, p⟩ = false) := hide (by
        cases h : isP N ⟨n, p⟩
        · rfl
        · obtain ⟨j, hj, e⟩ := List.getElem_of_mem ((HM.out _).2 h)
          exact absurd e (HA.out j hj (by rw [I1.out.1] at hj; omega)))
      go_wp2_with fail
      go_ret
      exact ⟨ret_bool (by rw [HT.out]), Grow.trans' G1.out HG.out⟩

theorem depP_out {N : List Nd} {n p : Int} (h : isP N ⟨n, p⟩ = false) : depP N ⟨n, p⟩ = -1 := by unfold depP; rw [h]; rfl
theorem depP_end {N : List Nd} {k : Nat} (h : isP N ⟨k, -1⟩ = true) : depP N ⟨k, -1⟩ = (nth N k).d := by unfold depP; rw [if_pos h, if_pos rfl]; rfl
theorem depP_in {N : List Nd} {k : Nat} {p : Int} (h : isP N ⟨k, p⟩ = true) (hp : ¬ p = -1) : depP N ⟨k, p⟩ = inDP (nth N k) := by unfold depP; rw [if_pos h, if_neg hp]; rfl
theorem isP_node {N : List Nd} {n p : Int} (h : isP N ⟨n, p⟩ = true) : 0 ≤ n ∧ n < N.length := by
  unfold isP at h
  simp at h
  omega
set_option maxHeartbeats 4000000 in
theorem dep_raw (gs : Option Addr) (gn gc : Nat) (gt : Option Addr) (gm gq : Nat) (N : List Nd) (n p : Int) (w : World) (hn : gn ≤ 20) (hg : IsNds w gs gn gc N) :
    Calls Tryz.prog 34 #[.agg #[.slice gs gn gc, .slice gt gm gq], .agg #[.int .i64 n, .int .i64 p]] w fun e w' => e = .returned (.int .i64 (depP N ⟨n, p⟩)) ∧ Grow w w' := by
  have GG : Hid (Grow w ((w.alloc (.cells #[.slice gs gn gc, .slice gt gm gq] 25)).alloc (.cells #[.int .i64 n, .int .i64 p] 27))) := hide (Grow.trans' (Grow.alloc' _ _) (Grow.alloc' _ _))
  have KG : Hid (BoxG ((w.alloc (.cells #[.slice gs gn gc, .slice gt gm gq] 25)).alloc (.cells #[.int .i64 n, .int .i64 p] 27)) w.heap.size ⟨gs, gn, gc, gt, gm, gq, [], []⟩) := hide ((BoxG.new w ⟨gs, gn, gc, gt, gm, gq, [], []⟩).later (Grow.alloc' _ _))
  have hz1 : (w.alloc (.cells #[.slice gs gn gc, .slice gt gm gq] 25)).heap.size = w.heap.size + 1 := by simp
  have KL : Hid (BoxL ((w.alloc (.cells #[.slice gs gn gc, .slice gt gm gq] 25)).alloc (.cells #[.int .i64 n, .int .i64 p] 27)) (w.heap.size + 1) ⟨n, p⟩) := hide (by rw [← hz1]; exact BoxL.new _ ⟨n, p⟩)
  have HI := hide (hg.later GG.out)
  obtain ⟨r, hr⟩ : ∃ r, isP N ⟨n, p⟩ = r := ⟨_, rfl⟩
  have C1 := hide (is_raw gs gn gc gt gm gq N n p ((w.alloc (.cells #[.slice gs gn gc, .slice gt gm gq] 25)).alloc (.cells #[.int .i64 n, .int .i64 p] 27)) (by omega) HI.out)
  rw [hr] at C1
  clear hg hz1
  cases r
  · have HE := hide (depP_out hr)
    clear hr
    go_enter Tryz.func34, Tryz.ntmps34
    go_wp2_with fail
    refine (C1.out).mono ?_
    rintro _ w1 ⟨rfl, hb⟩
    have G1 := hide (Grow.trans' GG.out hb)
    clear hb
    go_wp2_with fail
    go_ret
    exact ⟨ret_int HE.out.symm, G1.out⟩
  · obtain ⟨h0, hlt⟩ := isP_node hr
    obtain ⟨k, rfl⟩ : ∃ k : Nat, n = k := ⟨n.toNat, by omega⟩
    have hkd : k < N.length := by omega
    have hne : ¬ N = [] := fun h => by rw [h] at hkd; simp at hkd
    obtain ⟨b, o, rfl, hr1⟩ := HI.out.2.2.resolve_left hne
    have hi1 : (0 : Int) ≤ (k : Int) := by omega
    have hi2 : (k : Int) < (gn : Int) := by rw [HI.out.1] at hkd; omega
    have HR := hide hr
    clear hr h0 hlt
    by_cases hp : p = -1
    · subst hp
      have HE := hide (depP_end HR.out)
      rw [HE.out]
      obtain ⟨x, hx⟩ : ∃ x, x = nth N k := ⟨_, rfl⟩
      have HX := hide hx
      rw [← hx]
      clear hx
      go_enter Tryz.func34, Tryz.ntmps34
      go_wp2_with fail
      refine (C1.out).mono ?_
      rintro _ w1 ⟨rfl, hb⟩
      have G1 := hide (Grow.trans' GG.out hb)
      obtain ⟨g0, g1⟩ := KG.out.later hb
      obtain ⟨l0, l1⟩ := KL.out.later hb
      obtain ⟨p0, p1, p2, p3⟩ := (hr1.later hb).at k hkd
      rw [← nth_get N k hkd, ← HX.out] at p0 p1 p2 p3
      dsimp only at g0 g1 l0 l1
      have KL1 := hide (KL.out.later hb)
      generalize (w.alloc (.cells #[.slice (some ⟨b, o, none⟩) gn gc, .slice gt gm gq] 25)).alloc (.cells #[.int .i64 (k : Int), .int .i64 (-1)] 27) = w0 at *
      generalize w.heap.size = P at *
      clear hb C1 KG KL hr1 hkd hne
      go_wp2_with (refine wpList_putN rfl _ _ rfl w1.heap.size x rfl rfl (BlkN.new w1) w1 (Grow.alloc' _ _) (Nat.le_refl _) ?_)
      intro w2 hg2 hb2
      have G2 := hide (Grow.trans' G1.out hg2)
      obtain ⟨l0', l1'⟩ := KL1.out.later hg2
      obtain ⟨q0, q1, q2, q3⟩ := hb2
      dsimp only at l0' l1'
      clear l0 l1 g0 g1 p0 p1 p2 p3 hg2
      go_wp2_with fail
      go_ret
      exact ⟨rfl, G2.out⟩
    · have HE := hide (depP_in HR.out hp)
      rw [HE.out]
      obtain ⟨x, hx⟩ : ∃ x, x = nth N k := ⟨_, rfl⟩
      have HX := hide hx
      rw [← hx]
      clear hx
      obtain ⟨xk, xa, xb, xd⟩ := x
      obtain ⟨z, hz⟩ : ∃ z, inDP ⟨xk, xa, xb, xd⟩ = z := ⟨_, rfl⟩
      have C2 := hide (fun w => inD_at xk xa xb xd hz w)
      rw [hz]
      clear hz
      go_enter Tryz.func34, Tryz.ntmps34
      go_wp2_with fail
      refine (C1.out).mono ?_
      rintro _ w1 ⟨rfl, hb⟩
      have G1 := hide (Grow.trans' GG.out hb)
      obtain ⟨g0, g1⟩ := KG.out.later hb
      obtain ⟨l0, l1⟩ := KL.out.later hb
      obtain ⟨p0, p1, p2, p3⟩ := (hr1.later hb).at k hkd
      rw [← nth_get N k hkd, ← HX.out] at p0 p1 p2 p3
      dsimp only at g0 g1 l0 l1 p0 p1 p2 p3
      have KL1 := hide (KL.out.later hb)
      generalize (w.alloc (.cells #[.slice (some ⟨b, o, none⟩) gn gc, .slice gt gm gq] 25)).alloc (.cells #[.int .i64 (k : Int), .int .i64 p] 27) = w0 at *
      generalize w.heap.size = P at *
      clear hb C1 KG KL hr1 hkd hne
      go_wp2_with (refine wpList_putN rfl _ _ rfl w1.heap.size ⟨xk, xa, xb, xd⟩ rfl rfl (BlkN.new w1) w1 (Grow.alloc' _ _) (Nat.le_refl _) ?_)
      intro w2 hg2 hb2
      have G2 := hide (Grow.trans' G1.out hg2)
      obtain ⟨l0', l1'⟩ := KL1.out.later hg2
      obtain ⟨q0, q1, q2, q3⟩ := hb2
      dsimp only at l0' l1' q0 q1 q2 q3
      clear l0 l1 g0 g1 p0 p1 p2 p3 hg2
      go_wp2_with fail
      refine (C2.out _).mono ?_
      rintro _ w3 ⟨rfl, hb3⟩
      have G3 := hide (Grow.trans' G2.out hb3)
      clear hb3
      go_wp2_with fail
      go_ret
      exact ⟨rfl, G3.out⟩
set_option maxHeartbeats 4000000 in
theorem rdep_raw (gs : Option Addr) (gn gc : Nat) (gt : Option Addr) (gm gq : Nat) (N : List Nd) (n p : Int) (w : World) (hn : gn ≤ 20) (hg : IsNds w gs gn gc N) :
    Calls Tryz.prog 23 #[.agg #[.slice gs gn gc, .slice gt gm gq], .agg #[.int .i64 n, .int .i64 p]] w fun e w' => e = .returned (.int .i64 (depP N ⟨n, p⟩)) ∧ Grow w w' := by
  have GG : Hid (Grow w ((w.alloc (.cells #[.slice gs gn gc, .slice gt gm gq] 25)).alloc (.cells #[.int .i64 n, .int .i64 p] 27))) := hide (Grow.trans' (Grow.alloc' _ _) (Grow.alloc' _ _))
  have KG : Hid (BoxG ((w.alloc (.cells #[.slice gs gn gc, .slice gt gm gq] 25)).alloc (.cells #[.int .i64 n, .int .i64 p] 27)) w.heap.size ⟨gs, gn, gc, gt, gm, gq, [], []⟩) := hide ((BoxG.new w ⟨gs, gn, gc, gt, gm, gq, [], []⟩).later (Grow.alloc' _ _))
  have hz1 : (w.alloc (.cells #[.slice gs gn gc, .slice gt gm gq] 25)).heap.size = w.heap.size + 1 := by simp
  have KL : Hid (BoxL ((w.alloc (.cells #[.slice gs gn gc, .slice gt gm gq] 25)).alloc (.cells #[.int .i64 n, .int .i64 p] 27)) (w.heap.size + 1) ⟨n, p⟩) := hide (by rw [← hz1]; exact BoxL.new _ ⟨n, p⟩)
  have HI := hide (hg.later GG.out)
  obtain ⟨r, hr⟩ : ∃ r, isP N ⟨n, p⟩ = r := ⟨_, rfl⟩
  have C1 := hide (ris_raw gs gn gc gt gm gq N n p ((w.alloc (.cells #[.slice gs gn gc, .slice gt gm gq] 25)).alloc (.cells #[.int .i64 n, .int .i64 p] 27)) (by omega) HI.out)
  rw [hr] at C1
  clear hg hz1
  cases r
  · have HE := hide (depP_out hr)
    clear hr
    go_enter Tryz.func23, Tryz.ntmps23
    go_wp2_with fail
    refine (C1.out).mono ?_
    rintro _ w1 ⟨rfl, hb⟩
    have G1 := hide (Grow.trans' GG.out hb)
    clear hb
    go_wp2_with fail
    go_ret
    exact ⟨ret_int HE.out.symm, G1.out⟩
  · obtain ⟨h0, hlt⟩ := isP_node hr
    obtain ⟨k, rfl⟩ : ∃ k : Nat, n = k := ⟨n.toNat, by omega⟩
    have hkd : k < N.length := by omega
    have hne : ¬ N = [] := fun h => by rw [h] at hkd; simp at hkd
    obtain ⟨b, o, rfl, hr1⟩ := HI.out.2.2.resolve_left hne
    have hi1 : (0 : Int) ≤ (k : Int) := by omega
    have hi2 : (k : Int) < (gn : Int) := by rw [HI.out.1] at hkd; omega
    have HR := hide hr
    clear hr h0 hlt
    by_cases hp : p = -1
    · subst hp
      have HE := hide (depP_end HR.out)
      rw [HE.out]
      obtain ⟨x, hx⟩ : ∃ x, x = nth N k := ⟨_, rfl⟩
      have HX := hide hx
      rw [← hx]
      clear hx
      go_enter Tryz.func23, Tryz.ntmps23
      go_wp2_with fail
      refine (C1.out).mono ?_
      rintro _ w1 ⟨rfl, hb⟩
      have G1 := hide (Grow.trans' GG.out hb)
      obtain ⟨g0, g1⟩ := KG.out.later hb
      obtain ⟨l0, l1⟩ := KL.out.later hb
      obtain ⟨p0, p1, p2, p3⟩ := (hr1.later hb).at k hkd
      rw [← nth_get N k hkd, ← HX.out] at p0 p1 p2 p3
      dsimp only at g0 g1 l0 l1
      have KL1 := hide (KL.out.later hb)
      generalize (w.alloc (.cells #[.slice (some ⟨b, o, none⟩) gn gc, .slice gt gm gq] 25)).alloc (.cells #[.int .i64 (k : Int), .int .i64 (-1)] 27) = w0 at *
      generalize w.heap.size = P at *
      clear hb C1 KG KL hr1 hkd hne
      clear p0 p1 p2
      go_wp2_with fail
      go_ret
      exact ⟨rfl, G1.out⟩
    · have HE := hide (depP_in HR.out hp)
      rw [HE.out]
      obtain ⟨x, hx⟩ : ∃ x, x = nth N k := ⟨_, rfl⟩
      have HX := hide hx
      rw [← hx]
      clear hx
      obtain ⟨xk, xa, xb, xd⟩ := x
      obtain ⟨z, hz⟩ : ∃ z, inDP ⟨xk, xa, xb, xd⟩ = z := ⟨_, rfl⟩
      have C2 := hide (fun w => rinD_at xk xa xb xd hz w)
      rw [hz]
      clear hz
      go_enter Tryz.func23, Tryz.ntmps23
      go_wp2_with fail
      refine (C1.out).mono ?_
      rintro _ w1 ⟨rfl, hb⟩
      have G1 := hide (Grow.trans' GG.out hb)
      obtain ⟨g0, g1⟩ := KG.out.later hb
      obtain ⟨l0, l1⟩ := KL.out.later hb
      obtain ⟨p0, p1, p2, p3⟩ := (hr1.later hb).at k hkd
      rw [← nth_get N k hkd, ← HX.out] at p0 p1 p2 p3
      dsimp only at g0 g1 l0 l1 p0 p1 p2 p3
      have KL1 := hide (KL.out.later hb)
      generalize (w.alloc (.cells #[.slice (some ⟨b, o, none⟩) gn gc, .slice gt gm gq] 25)).alloc (.cells #[.int .i64 (k : Int), .int .i64 p] 27) = w0 at *
      generalize w.heap.size = P at *
      clear hb C1 KG KL hr1 hkd hne
      have G2 := G1
      go_wp2_with fail
      refine (C2.out _).mono ?_
      rintro _ w3 ⟨rfl, hb3⟩
      have G3 := hide (Grow.trans' G2.out hb3)
      clear hb3
      go_wp2_with fail
      go_ret
      exact ⟨rfl, G3.out⟩

end Go.Proofs.YtehianjfpmbfpaaGreat
