/-
  What the document's own round does to the world: of every graph whose edges lead from nodes to nodes it tells whether there is a way from a node back to it; what was there stays as it was.
-/
import Derived.Test.YtehianjfpmbfpaaGreatVRpZ
import Derived.Test.YtehianjfpmbfpaaGreatVPlZ
import Derived.Test.YtehianjfpmbfpaaGreatHInnZ
namespace Go.Proofs.YtehianjfpmbfpaaGreat
set_option maxRecDepth 100000
open Go.RowKit Go.Sort
set_option linter.unusedVariables false
set_option linter.unusedSimpArgs false

theorem sE_step (N : List Nd) (E : List Ed) (m : Int) (v : Nat) (S : List Bool) (j : Nat) (h : j < E.length) : (E.take (j + 1)).foldl (sE N m v) S = sE N m v ((E.take j).foldl (sE N m v) S) E[j] := by
  rw [← List.take_append_getElem h, List.foldl_append]
  rfl
theorem sE_no {N : List Nd} {m : Int} {v : Nat} {S : List Bool} {e : Ed} (h : okT N m e.t.toNat = false) : sE N m v S e = S := by
  unfold sE
  rw [if_neg (by rw [h]; simp)]
theorem sE_un {N : List Nd} {m : Int} {v : Nat} {S : List Bool} {e : Ed} (h1 : ¬ e.f = v) (h2 : S.getD e.f.toNat false = false) : sE N m v S e = S := by
  unfold sE
  rw [if_neg (by rw [h2]; simp [h1])]
theorem sE_do {N : List Nd} {m : Int} {v : Nat} {S : List Bool} {e : Ed} (h : okT N m e.t.toNat = true) (h2 : e.f = v ∨ S.getD e.f.toNat false = true) : sE N m v S e = S.set e.t.toNat true := by
  unfold sE
  rw [if_pos ⟨h, h2⟩]
theorem ok1 {z m k d : Int} (h : z < m) : (!(decide (z < m) || (decide (k = 10) && decide (d = m)))) = false := by simp [h]
theorem ok2 {z m k d : Int} (h1 : k = 10) (h2 : d = m) : (!(decide (z < m) || (decide (k = 10) && decide (d = m)))) = false := by simp [h1, h2]
theorem ok3 {z m k d : Int} (h : ¬ z < m) (h2 : ¬ d = m) : (!(decide (z < m) || (decide (k = 10) && decide (d = m)))) = true := by simp [h, h2]
theorem ok4 {z m k d : Int} (h : ¬ z < m) (h2 : ¬ k = 10) : (!(decide (z < m) || (decide (k = 10) && decide (d = m)))) = true := by simp [h, h2]
set_option maxHeartbeats 40000000 in
theorem rround_raw (gs : Option Addr) (gn gc : Nat) (gt : Option Addr) (gm gq : Nat) (N : List Nd) (E : List Ed) (v : Nat) (w : World) (hn : gn ≤ 20) (hm : gm ≤ 40) (hv : v < N.length) (hin : InN N E) (hg : IsNds w gs gn gc N) (he : IsEds w gt gm gq E) {r : Bool} (hr : roundB N E v = r) :
    Calls Tryz.prog 54 #[.agg #[.slice gs gn gc, .slice gt gm gq], .int .i64 (v : Int)] w fun e w' => e = .returned (.bool r) ∧ Grow w w' := by
  have HR := hide hr
  have HIN := hide hin
  have HV := hide hv
  have hN : N.length = gn := hg.1
  have GG : Hid (Grow w (w.alloc (.cells #[.slice gs gn gc, .slice gt gm gq] 25))) := hide (Grow.alloc' _ _)
  have KG : Hid (BoxG (w.alloc (.cells #[.slice gs gn gc, .slice gt gm gq] 25)) w.heap.size ⟨gs, gn, gc, gt, gm, gq, [], []⟩) := hide (BoxG.new w ⟨gs, gn, gc, gt, gm, gq, [], []⟩)
  have HN := hide (hg.later GG.out)
  have HE := hide (he.later GG.out)
  have hne : ¬ N = [] := fun h => by rw [h] at hv; simp at hv
  obtain ⟨be, o, rfl, hr1⟩ := hg.2.2.resolve_left hne
  obtain ⟨p0, p1, p2, p3⟩ := (hr1.later GG.out).at v hv
  rw [← nth_get N v hv] at p0 p1 p2 p3
  have HRN := hide (hr1.later GG.out)
  obtain ⟨m, hm0⟩ : ∃ m, lowP (nth N v) = m := ⟨_, rfl⟩
  have HM0 := hide hm0
  obtain ⟨x, hx⟩ : ∃ x, x = nth N v := ⟨_, rfl⟩
  rw [← hx] at p0 p1 p2 p3 hm0
  obtain ⟨xk, xa, xb, xd⟩ := x
  dsimp only at p0 p1 p2 p3
  have C1 := hide (fun w => rlow_at xk xa xb xd hm0 w)
  have hi1 : (0 : Int) ≤ (v : Int) := by omega
  have hi2 : (v : Int) < (gn : Int) := by omega
  have HVB : Hid ((sK N E m v gn).getD v false = r) := hide (by rw [← hr, ← HM0.out, ← hN]; rfl)
  clear hin hv hg he hr hne hr1 hm0 hx
  go_enter Tryz.func54, Tryz.ntmps54
  go_wp2_with fail
  generalize (w.alloc (.cells #[.slice (some ⟨be, o, none⟩) gn gc, .slice gt gm gq] 25)) = w0 at *
  generalize w.heap.size = P at *
  refine (C1.out _).mono ?_
  rintro _ w1 ⟨rfl, hb⟩
  have G1 := hide hb
  obtain ⟨k0, k1⟩ := KG.out.later hb
  dsimp only at k0 k1
  clear hb p0 p1 p2 p3 C1
  go_wp2_with (refine wpList_mkB rfl _ _ rfl gn (by omega) rfl rfl w1.heap.size (Nat.le_refl _) ?_)
  intro w2 hg2 hB2 hz2
  have G2 := hide (Grow.trans' G1.out hg2)
  have OB2 := hide hB2
  have HBB : Hid (w0.heap.size ≤ w1.heap.size) := hide G1.out.size
  generalize w1.heap.size = B at *
  clear hg2 hB2 hz2 k0 k1 G1
  go_wp2_with fail
  go_loopw [7] (fun i wr => ∃ k : Nat, k ≤ gn ∧ i = .int .i64 (k : Int) ∧ Grow w0 wr ∧ OwnB wr B B gn (sK N E m v k)) (fun i _ => gn - (intOf i).toNat)
  case atStart => exact ⟨0, Nat.zero_le _, rfl, G2.out, by have := OB2.out; rw [← hN] at this ⊢; exact this⟩
  case round =>
    obtain ⟨k, hk, rfl, hg, hO⟩ := hrel
    generalize wr = wo at *
    have HG := hide hg
    have OB := hide hO
    obtain ⟨k0, k1⟩ := KG.out.later hg
    dsimp only at k0 k1
    clear hg hO
    by_cases hlt : k < gn
    · have hk2 : (k : Int) < (gn : Int) := by omega
      obtain ⟨S0, hS0⟩ : ∃ S0, S0 = sK N E m v k := ⟨_, rfl⟩
      have HS0 := hide hS0
      rw [← hS0] at OB
      clear hS0
      go_wp2_with fail
      clear k0 k1
      go_loopw [8] (fun i wr => ∃ j : Nat, j ≤ gm ∧ i = .int .i64 (j : Int) ∧ Grow w0 wr ∧ OwnB wr B B gn ((E.take j).foldl (sE N m v) S0)) (fun i _ => gm - (intOf i).toNat)
      case atStart => exact ⟨0, Nat.zero_le _, rfl, HG.out, by simpa using OB.out⟩
      case round =>
        obtain ⟨j, hj, rfl, hg, hO⟩ := hrel
        generalize wr = wi at *
        have HG2 := hide hg
        have OB2 := hide hO
        obtain ⟨k0, k1⟩ := KG.out.later hg
        dsimp only at k0 k1
        clear hO
        by_cases hjt : j < gm
        · have hkd : j < E.length := by rw [HE.out.1]; exact hjt
          have hne : ¬ E = [] := fun h => by rw [h] at hkd; simp at hkd
          obtain ⟨bE, oE, rfl, hr1⟩ := HE.out.2.2.resolve_left hne
          obtain ⟨p0, p1, p2⟩ := (hr1.later hg).at j hkd
          have hin := HIN.out E[j] (List.getElem_mem _)
          have HST := hide (sE_step N E m v S0 j hkd)
          obtain ⟨S, hS⟩ : ∃ S, S = (E.take j).foldl (sE N m v) S0 := ⟨_, rfl⟩
          rw [← hS] at HST OB2
          obtain ⟨x, hx⟩ : ∃ x, x = E[j] := ⟨_, rfl⟩
          rw [← hx] at p0 p1 p2 hin HST
          obtain ⟨xf, xt, xp⟩ := x
          dsimp only at p0 p1 p2 hin
          obtain ⟨i, rfl⟩ : ∃ i : Nat, xf = i := ⟨xf.toNat, by omega⟩
          obtain ⟨t, rfl⟩ : ∃ t : Nat, xt = t := ⟨xt.toNat, by omega⟩
          have hiN : i < N.length := by omega
          have htN : t < N.length := by omega
          obtain ⟨q0, q1, q2, q3⟩ := (HRN.out.later hg).at t htN
          rw [← nth_get N t htN] at q0 q1 q2 q3
          have hok : okT N m (t : Int).toNat = !(decide (lowP (nth N t) < m) || (decide ((nth N t).k = 10) && decide ((nth N t).d = m))) := by rw [show (t : Int).toNat = t by omega]; rfl
          obtain ⟨y, hy⟩ : ∃ y, y = nth N t := ⟨_, rfl⟩
          rw [← hy] at q0 q1 q2 q3 hok
          obtain ⟨z, hz⟩ : ∃ z, lowP y = z := ⟨_, rfl⟩
          rw [hz] at hok
          obtain ⟨yk, ya, yb, yd⟩ := y
          dsimp only at q0 q1 q2 q3 hok
          have C2 := hide (fun w => rlow_at yk ya yb yd hz w)
          have HOK := hide hok
          have hj1 : (0 : Int) ≤ (j : Int) := by omega
          have hj2 : (j : Int) < (gm : Int) := by omega
          have ht1 : (0 : Int) ≤ (t : Int) := by omega
          have ht2 : (t : Int) < (gn : Int) := by omega
          have hi3 : (0 : Int) ≤ (i : Int) := by omega
          have hi4 : (i : Int) < (gn : Int) := by omega
          have hSl : S.length = gn := OB2.out.1
          have Q0 := hide q0
          have Q1 := hide q1
          have Q2 := hide q2
          have Q3 := hide q3
          have K0 := hide (KG.out.later hg)
          have HIT : Hid (i < S.length ∧ t < S.length) := hide ⟨by omega, by omega⟩
          clear hne hr1 hkd hin hS hx hiN htN hok hy hz hg q0 q1 q2 q3 hSl
          go_wp2_with (refine wpList_putE rfl _ _ rfl wi.heap.size ⟨(i : Int), (t : Int), xp⟩ rfl rfl ⟨_, (MapKept.heap_alloc wi _).1, rfl⟩ wi (Grow.alloc' _ _) (Nat.le_refl _) ?_)
          intro w4 hg4 hb4
          have G4 := hide (Grow.trans' HG2.out hg4)
          have G44 := hide hg4
          have KE4 := hide hb4
          obtain ⟨e0, e1, e2⟩ := hb4
          dsimp only at e0 e1 e2
          obtain ⟨h0, h1⟩ := K0.out.later hg4
          dsimp only at h0 h1
          have q0 := cell_later hg4 Q0.out
          have q1 := cell_later hg4 Q1.out
          have q2 := cell_later hg4 Q2.out
          have q3 := cell_later hg4 Q3.out
          generalize wi.heap.size = EB at *
          clear k0 k1 p0 p1 p2 hg4 Q0 Q1 Q2 Q3
          go_wp2_with (refine wpList_putN rfl _ _ rfl w4.heap.size ⟨yk, ya, yb, yd⟩ rfl rfl (BlkN.new w4) w4 (Grow.alloc' _ _) (Nat.le_refl _) ?_)
          intro w5 hg5 hb5
          have G5 := hide (Grow.trans' G4.out hg5)
          have G55 := hide (Grow.trans' G44.out hg5)
          have KN5 := hide hb5
          have KE5 := hide (KE4.out.later hg5)
          obtain ⟨q0, q1, q2, q3⟩ := hb5
          dsimp only at q0 q1 q2 q3
          generalize w4.heap.size = NB at *
          clear hg5 e0 e1 e2 h0 h1 G4 G44 KE4
          go_wp2_with fail
          refine (C2.out _).mono ?_
          rintro _ w6 ⟨rfl, hb⟩
          have G6 := hide (Grow.trans' G5.out hb)
          have OB6 := hide (OB2.out.later (Grow.trans' G55.out hb))
          obtain ⟨q0', q1', q2', q3'⟩ := KN5.out.later hb
          obtain ⟨e0, e1, e2⟩ := KE5.out.later hb
          dsimp only at q0' q1' q2' q3' e0 e1 e2
          clear hb q0 q1 q2 q3 C2 G5 KN5 KE5
          have hc : z < m ∨ (¬ z < m ∧ yk = 10 ∧ yd = m) ∨ (¬ z < m ∧ yk = 10 ∧ ¬ yd = m) ∨ (¬ z < m ∧ ¬ yk = 10) := by omega
          rcases hc with h1 | ⟨h1, h2, h3⟩ | ⟨h1, h2, h3⟩ | ⟨h1, h2⟩
          · have HT : Hid ((E.take (j + 1)).foldl (sE N m v) S0 = S) := hide (by rw [HST.out]; exact sE_no (HOK.out.trans (ok1 h1)))
            clear HOK HST
            go_wp2_with fail
            go_roundw
            case rel => exact ⟨j + 1, by omega, by go_num, G6.out, by rw [HT.out]; exact OB6.out⟩
            case measure => simp [intOf]; omega
          · have HT : Hid ((E.take (j + 1)).foldl (sE N m v) S0 = S) := hide (by rw [HST.out]; exact sE_no (HOK.out.trans (ok2 h2 h3)))
            clear HOK HST
            subst h2
            rw [h3] at q3'
            go_wp2_with fail
            go_roundw
            case rel => exact ⟨j + 1, by omega, by go_num, G6.out, by rw [HT.out]; exact OB6.out⟩
            case measure => simp [intOf]; omega
          · have HOT : Hid (okT N m (t : Int).toNat = true) := hide (HOK.out.trans (ok3 h1 h3))
            clear HOK
            subst h2
            have h3' : (yd == m) = false := by simpa using h3
            by_cases hiv : i = v
            · subst hiv
              have HT : Hid ((E.take (j + 1)).foldl (sE N m i) S0 = S.set t true) := hide (HST.out.trans (sE_do HOT.out (.inl rfl)))
              have c0 := OB6.out.cell t HIT.out.2
              have f0 := OB6.out.free t
              have hst := OB6.out.stored t true
              have OB7 := hide hst.1
              have G7 : Hid (Grow w0 (w6.setCell ⟨B, t, none⟩ (.bool true))) := hide (Below.grown G6.out hst.2 G6.out.size (fun j hj => by cases hj; exact HBB.out))
              clear hst HST
              go_wp2_with fail
              go_roundw
              case rel => exact ⟨j + 1, by omega, by go_num, G7.out, by rw [HT.out]; exact OB7.out⟩
              case measure => simp [intOf]; omega
            · have hiv2 : ¬ (i : Int) = (v : Int) := by omega
              have d0 := OB6.out.cell i HIT.out.1
              cases hsb : S.getD i false
              · rw [hsb] at d0
                have HT : Hid ((E.take (j + 1)).foldl (sE N m v) S0 = S) := hide (HST.out.trans (sE_un hiv2 hsb))
                clear hsb HST
                go_wp2_with fail
                go_roundw
                case rel => exact ⟨j + 1, by omega, by go_num, G6.out, by rw [HT.out]; exact OB6.out⟩
                case measure => simp [intOf]; omega
              · rw [hsb] at d0
                have HT : Hid ((E.take (j + 1)).foldl (sE N m v) S0 = S.set t true) := hide (HST.out.trans (sE_do HOT.out (.inr hsb)))
                have c0 := OB6.out.cell t HIT.out.2
                have f0 := OB6.out.free t
                have hst := OB6.out.stored t true
                have OB7 := hide hst.1
                have G7 : Hid (Grow w0 (w6.setCell ⟨B, t, none⟩ (.bool true))) := hide (Below.grown G6.out hst.2 G6.out.size (fun j hj => by cases hj; exact HBB.out))
                clear hst hsb HST
                go_wp2_with fail
                go_roundw
                case rel => exact ⟨j + 1, by omega, by go_num, G7.out, by rw [HT.out]; exact OB7.out⟩
                case measure => simp [intOf]; omega
          · have HOT : Hid (okT N m (t : Int).toNat = true) := hide (HOK.out.trans (ok4 h1 h2))
            clear HOK
            by_cases hiv : i = v
            · subst hiv
              have HT : Hid ((E.take (j + 1)).foldl (sE N m i) S0 = S.set t true) := hide (HST.out.trans (sE_do HOT.out (.inl rfl)))
              have c0 := OB6.out.cell t HIT.out.2
              have f0 := OB6.out.free t
              have hst := OB6.out.stored t true
              have OB7 := hide hst.1
              have G7 : Hid (Grow w0 (w6.setCell ⟨B, t, none⟩ (.bool true))) := hide (Below.grown G6.out hst.2 G6.out.size (fun j hj => by cases hj; exact HBB.out))
              clear hst HST
              go_wp2_with fail
              go_roundw
              case rel => exact ⟨j + 1, by omega, by go_num, G7.out, by rw [HT.out]; exact OB7.out⟩
              case measure => simp [intOf]; omega
            · have hiv2 : ¬ (i : Int) = (v : Int) := by omega
              have d0 := OB6.out.cell i HIT.out.1
              cases hsb : S.getD i false
              · rw [hsb] at d0
                have HT : Hid ((E.take (j + 1)).foldl (sE N m v) S0 = S) := hide (HST.out.trans (sE_un hiv2 hsb))
                clear hsb HST
                go_wp2_with fail
                go_roundw
                case rel => exact ⟨j + 1, by omega, by go_num, G6.out, by rw [HT.out]; exact OB6.out⟩
                case measure => simp [intOf]; omega
              · rw [hsb] at d0
                have HT : Hid ((E.take (j + 1)).foldl (sE N m v) S0 = S.set t true) := hide (HST.out.trans (sE_do HOT.out (.inr hsb)))
                have c0 := OB6.out.cell t HIT.out.2
                have f0 := OB6.out.free t
                have hst := OB6.out.stored t true
                have OB7 := hide hst.1
                have G7 : Hid (Grow w0 (w6.setCell ⟨B, t, none⟩ (.bool true))) := hide (Below.grown G6.out hst.2 G6.out.size (fun j hj => by cases hj; exact HBB.out))
                clear hst hsb HST
                go_wp2_with fail
                go_roundw
                case rel => exact ⟨j + 1, by omega, by go_num, G7.out, by rw [HT.out]; exact OB7.out⟩
                case measure => simp [intOf]; omega
        · have hj2 : ¬ (j : Int) < (gm : Int) := by omega
          have HT : Hid ((E.take j).foldl (sE N m v) S0 = sK N E m v (k + 1)) := hide (by
            rw [List.take_of_length_le (by rw [HE.out.1]; omega), HS0.out]
            rfl)
          clear hg
          go_wp2_with fail
          go_roundw
          case rel => exact ⟨k + 1, by omega, by go_num, HG2.out, by rw [← HT.out]; exact OB2.out⟩
          case measure => simp [intOf]; omega
    · have hkn : k = gn := by omega
      subst hkn
      have hk2 : ¬ (k : Int) < (k : Int) := by omega
      have d0 := OB.out.cell v (by rw [OB.out.1]; rw [← hN]; exact HV.out)
      rw [HVB.out] at d0
      go_wp2_with fail
      go_ret
      exact ⟨rfl, Grow.trans' GG.out HG.out⟩

end Go.Proofs.YtehianjfpmbfpaaGreat
