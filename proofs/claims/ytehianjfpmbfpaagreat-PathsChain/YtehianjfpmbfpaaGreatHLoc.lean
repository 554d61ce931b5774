/-
  What graph.Locs, and the document's own, do to the world: of every graph the plain row of its places, in a row of the call's own; what was there stays as it was.
-/
import Derived.Test.YtehianjfpmbfpaaGreatHBlk
namespace Go.Proofs.YtehianjfpmbfpaaGreat
set_option maxRecDepth 100000
open Go.RowKit
set_option linter.unusedVariables false
set_option linter.unusedSimpArgs false

theorem locsOf_parts (N : List Nd) (k : Nat) (q : Bool) (hq : hasP (nth N k).k = q) (z : Int) (hz : insP (nth N k).k = z) : locsTo N (k + 1) = (locsTo N k ++ if q = true then [⟨k, -1⟩] else []) ++ insTo k z.toNat := by
  rw [locsTo_step, locsOf, hq, hz, List.append_assoc]
set_option maxHeartbeats 4000000 in
theorem locs_raw (gs : Option Addr) (gn gc : Nat) (gt : Option Addr) (gm gq : Nat) (N : List Nd) (w : World) (hn : gn ≤ 20) (hg : IsNds w gs gn gc N) :
    Calls Tryz.prog 55 #[.agg #[.slice gs gn gc, .slice gt gm gq]] w fun e w' => ∃ s n c, e = .returned (.slice s n c) ∧ Grow w w' ∧ OwnL w' w.heap.size s n c (locs N) := by
  have GG : Hid (Grow w (w.alloc (.cells #[.slice gs gn gc, .slice gt gm gq] 25))) := hide (Grow.alloc' _ _)
  have HI := hide (hg.later GG.out)
  clear hg
  go_enter Tryz.func55, Tryz.ntmps55
  go_wp2_with fail
  generalize hw0 : (w.alloc (.cells #[.slice gs gn gc, .slice gt gm gq] 25)) = w0 at *
  go_loopw [3, 10] (fun v i wr => ∃ (k : Nat) (s : Option Addr) (m c : Nat), k ≤ gn ∧ v = .slice s m c ∧ i = .int .i64 k ∧ Grow w0 wr ∧ OwnL wr w0.heap.size s m c (locsTo N k)) (fun _ i _ => gn - (intOf i).toNat)
  case atStart => exact ⟨0, none, 0, 0, Nat.zero_le _, rfl, rfl, Grow.rfl' _, OwnL.nil _ _⟩
  case round =>
    obtain ⟨k, s, m, c, hk, rfl, rfl, hg, hO⟩ := hrel
    have HG := hide hg
    have HO := hide hO
    have hm : m ≤ 60 := by have := locsTo_len N k; rw [← hO.1]; omega
    have hsz := hg.size
    by_cases hlt : k < gn
    · have hkd : k < N.length := by rw [HI.out.1]; exact hlt
      have hne : ¬ N = [] := fun h => by rw [h] at hkd; simp at hkd
      obtain ⟨b, o, rfl, hr1⟩ := HI.out.2.2.resolve_left hne
      obtain ⟨p0, p1, p2, p3⟩ := (hr1.later hg).at k hkd
      obtain ⟨x, hx⟩ : ∃ x, x = nth N k := ⟨_, rfl⟩
      rw [← nth_get N k hkd, ← hx] at p0 p1 p2 p3
      have hi1 : (0 : Int) ≤ (k : Int) := by omega
      have hi2 : (k : Int) < (gn : Int) := by omega
      obtain ⟨q, hq⟩ : ∃ q, hasP x.k = q := ⟨_, rfl⟩
      obtain ⟨z, hz⟩ : ∃ z, insP x.k = z := ⟨_, rfl⟩
      have C1 := hide (fun w => has_at x.k hq w)
      have C2 := hide (fun w => ins_at x.k hz w)
      have HS := hide (locsOf_parts N k q (by rw [← hx]; exact hq) z (by rw [← hx]; exact hz))
      have hz2 : 0 ≤ z ∧ z ≤ 2 := by have := insP_cases x.k; omega
      clear hne hr1 hx hkd hg hO hq hz
      go_wp2_with (refine wpList_putN rfl _ _ rfl wr.heap.size x rfl rfl (BlkN.new wr) wr (Grow.alloc' _ _) (Nat.le_refl _) ?_)
      intro w2 hg2 hb2
      have G2 := hide (Grow.trans' HG.out hg2)
      have O2 := hide (HO.out.later hg2)
      have HL := hide (fun a ha => (HO.out.lt a ha).1)
      have hB2 := hide hb2
      obtain ⟨q0, q1, q2, q3⟩ := hb2
      have hsz2 := hg2.size
      clear p0 p1 p2 p3 hg2 q1 q2 q3 HO HG
      go_wp2_with fail
      refine (C1.out _).mono ?_
      rintro e w3 ⟨rfl, rfl⟩
      obtain ⟨A, hA⟩ : ∃ A, A = locsTo N k ++ if q = true then [⟨k, -1⟩] else [] := ⟨_, rfl⟩
      rw [← hA] at HS
      generalize hrb : wr.heap.size = rb at *
      clear hrb
      cases q
      · have HA := hide hA
        clear hA
        have G4 := G2
        have O4 : Hid (OwnL w3 w0.heap.size s m c A) := hide (by rw [HA.out]; simpa using O2.out)
        have hm4' : m ≤ 61 := by omega
        clear G2 O2 hsz hsz2 HL hB2 C1 hm
        go_wp2_with fail
        refine (C2.out _).mono ?_
        rintro e w5 ⟨rfl, rfl⟩
        clear C2 q0
        go_wp2_with fail
        go_loopw [3, 26] (fun v i wq => ∃ (j : Nat) (s6 : Option Addr) (m6 c6 : Nat), j ≤ z.toNat ∧ m6 ≤ 61 + j ∧ v = .slice s6 m6 c6 ∧ i = .int .i64 j ∧ Grow w0 wq ∧ OwnL wq w0.heap.size s6 m6 c6 (A ++ insTo k j)) (fun _ i _ => z.toNat - (intOf i).toNat)
        case atStart => exact ⟨0, _, _, _, Nat.zero_le _, by omega, rfl, rfl, G4.out, by simpa [insTo] using O4.out⟩
        case round =>
          obtain ⟨j, s6, m6, c6, hj, hm6, rfl, rfl, hg6, hO6⟩ := hrel
          have G6 := hide hg6
          have O6 := hide hO6
          have hsz6 := hg6.size
          clear hg6 hO6 O4 G4
          by_cases hjz : j < z.toNat
          · have hj2 : (j : Int) < z := by omega
            go_wp2_with (at_builtin; refine wpList_apd_lc rfl _ _ rfl w0.heap.size s6 m6 c6 (A ++ insTo k j) [⟨k, j⟩] rfl (O6.out.later (Grow.alloc' _ _)) (some ⟨wr.heap.size, 0, none⟩) 1 1 rfl (isLcs_one wr ⟨k, j⟩) (by omega) (by simp; omega) ?_)
            intro s7 c7 w7 h7 gb
            have G7 := hide (gb.grow (Grow.trans' G6.out (Grow.alloc' _ _)) (Nat.le_refl _))
            have O7 : Hid (OwnL w7 w0.heap.size s7 (m6 + 1) c7 (A ++ insTo k (j + 1))) := hide (by rw [insTo_step]; exact h7)
            clear h7 gb O6 G6 hsz6
            go_wp2_with fail
            go_roundw
            case rel => exact ⟨j + 1, s7, m6 + 1, c7, by omega, by omega, rfl, by go_num, G7.out, O7.out⟩
            case measure => simp [intOf]; omega
          · have hj2 : ¬ (j : Int) < z := by omega
            have hjz' : j = z.toNat := by omega
            have O7 : Hid (OwnL wr w0.heap.size s6 m6 c6 (locsTo N (k + 1))) := hide (by rw [HS.out, ← hjz']; exact O6.out)
            clear hjz'
            go_wp2_with fail
            go_roundw
            case rel => exact ⟨k + 1, s6, m6, c6, by omega, rfl, by go_num, G6.out, O7.out⟩
            case measure => simp [intOf]; omega
      · have HA := hide hA
        clear hA
        clear q0
        go_wp2_with (at_builtin; refine wpList_apd_lc rfl _ _ rfl w0.heap.size s m c (locsTo N k) [⟨k, -1⟩] rfl (O2.out.later (Grow.alloc' _ _)) (some ⟨w3.heap.size, 0, none⟩) 1 1 rfl (isLcs_one w3 ⟨k, -1⟩) (by omega) (by simp; omega) ?_)
        intro s4 c4 w4 h4 gb
        have G4 := hide (gb.grow (Grow.trans' G2.out (Grow.alloc' _ _)) (Nat.le_refl _))
        obtain ⟨q0, _, _, _⟩ := (hB2.out.later (Grow.alloc' _ _)).but gb HL.out
        have O4 : Hid (OwnL w4 w0.heap.size s4 (m + 1) c4 A) := hide (by rw [HA.out]; exact h4)
        have hm4' : m + 1 ≤ 61 := by omega
        clear h4 gb G2 O2 hsz hsz2 HL hB2 C1
        go_wp2_with fail
        clear hm
        refine (C2.out _).mono ?_
        rintro e w5 ⟨rfl, rfl⟩
        clear C2 q0
        go_wp2_with fail
        go_loopw [3, 26] (fun v i wq => ∃ (j : Nat) (s6 : Option Addr) (m6 c6 : Nat), j ≤ z.toNat ∧ m6 ≤ 61 + j ∧ v = .slice s6 m6 c6 ∧ i = .int .i64 j ∧ Grow w0 wq ∧ OwnL wq w0.heap.size s6 m6 c6 (A ++ insTo k j)) (fun _ i _ => z.toNat - (intOf i).toNat)
        case atStart => exact ⟨0, _, _, _, Nat.zero_le _, by omega, rfl, rfl, G4.out, by simpa [insTo] using O4.out⟩
        case round =>
          obtain ⟨j, s6, m6, c6, hj, hm6, rfl, rfl, hg6, hO6⟩ := hrel
          have G6 := hide hg6
          have O6 := hide hO6
          have hsz6 := hg6.size
          clear hg6 hO6 O4 G4
          by_cases hjz : j < z.toNat
          · have hj2 : (j : Int) < z := by omega
            go_wp2_with (at_builtin; refine wpList_apd_lc rfl _ _ rfl w0.heap.size s6 m6 c6 (A ++ insTo k j) [⟨k, j⟩] rfl (O6.out.later (Grow.alloc' _ _)) (some ⟨wr.heap.size, 0, none⟩) 1 1 rfl (isLcs_one wr ⟨k, j⟩) (by omega) (by simp; omega) ?_)
            intro s7 c7 w7 h7 gb
            have G7 := hide (gb.grow (Grow.trans' G6.out (Grow.alloc' _ _)) (Nat.le_refl _))
            have O7 : Hid (OwnL w7 w0.heap.size s7 (m6 + 1) c7 (A ++ insTo k (j + 1))) := hide (by rw [insTo_step]; exact h7)
            clear h7 gb O6 G6 hsz6
            go_wp2_with fail
            go_roundw
            case rel => exact ⟨j + 1, s7, m6 + 1, c7, by omega, by omega, rfl, by go_num, G7.out, O7.out⟩
            case measure => simp [intOf]; omega
          · have hj2 : ¬ (j : Int) < z := by omega
            have hjz' : j = z.toNat := by omega
            have O7 : Hid (OwnL wr w0.heap.size s6 m6 c6 (locsTo N (k + 1))) := hide (by rw [HS.out, ← hjz']; exact O6.out)
            clear hjz'
            go_wp2_with fail
            go_roundw
            case rel => exact ⟨k + 1, s6, m6, c6, by omega, rfl, by go_num, G6.out, O7.out⟩
            case measure => simp [intOf]; omega
    · have hkn : k = N.length := by rw [HI.out.1]; omega
      have hi2 : ¬ (k : Int) < (gn : Int) := by omega
      have HF : Hid (OwnL wr w0.heap.size s m c (locs N)) := hide (by unfold locs; rw [← hkn]; exact HO.out)
      clear hkn hO hg
      go_wp2_with fail
      go_ret
      exact ⟨s, m, c, rfl, Grow.trans' GG.out HG.out, HF.out.rebase GG.out.size⟩

set_option maxHeartbeats 4000000 in
theorem rlocs_raw (gs : Option Addr) (gn gc : Nat) (gt : Option Addr) (gm gq : Nat) (N : List Nd) (w : World) (hn : gn ≤ 20) (hg : IsNds w gs gn gc N) :
    Calls Tryz.prog 37 #[.agg #[.slice gs gn gc, .slice gt gm gq]] w fun e w' => ∃ s n c, e = .returned (.slice s n c) ∧ Grow w w' ∧ OwnL w' w.heap.size s n c (locs N) := by
  have GG : Hid (Grow w (w.alloc (.cells #[.slice gs gn gc, .slice gt gm gq] 25))) := hide (Grow.alloc' _ _)
  have KG : Hid (BoxG (w.alloc (.cells #[.slice gs gn gc, .slice gt gm gq] 25)) w.heap.size ⟨gs, gn, gc, gt, gm, gq, [], []⟩) := hide (BoxG.new w ⟨gs, gn, gc, gt, gm, gq, [], []⟩)
  have HI := hide (hg.later GG.out)
  clear hg
  have G1 : Hid (Grow (w.alloc (.cells #[.slice gs gn gc, .slice gt gm gq] 25)) ((w.alloc (.cells #[.slice gs gn gc, .slice gt gm gq] 25)).alloc (.cells #[] 27))) := hide (Grow.alloc' _ _)
  have O1 : Hid (OwnL ((w.alloc (.cells #[.slice gs gn gc, .slice gt gm gq] 25)).alloc (.cells #[] 27)) (w.alloc (.cells #[.slice gs gn gc, .slice gt gm gq] 25)).heap.size (some ⟨w.heap.size + 1, 0, none⟩) 0 0 []) := hide (by have := OwnL.lit0 (w.alloc (.cells #[.slice gs gn gc, .slice gt gm gq] 25)) _ (Nat.le_refl _); simpa using this)
  obtain ⟨q0, q1⟩ := KG.out.later G1.out
  dsimp only at q0 q1
  go_enter Tryz.func37, Tryz.ntmps37
  go_wp2_with fail
  generalize (w.alloc (.cells #[.slice gs gn gc, .slice gt gm gq] 25)) = w0 at *
  clear q0 q1
  generalize w.heap.size = P at *
  go_loopw [3, 4] (fun v i wr => ∃ (k : Nat) (s : Option Addr) (m c : Nat), k ≤ gn ∧ v = .slice s m c ∧ i = .int .i64 k ∧ Grow w0 wr ∧ OwnL wr w0.heap.size s m c (locsTo N k)) (fun _ i _ => gn - (intOf i).toNat)
  case atStart => exact ⟨0, _, 0, 0, Nat.zero_le _, rfl, rfl, G1.out, O1.out⟩
  case round =>
    obtain ⟨k, s, m, c, hk, rfl, rfl, hg, hO⟩ := hrel
    have HG := hide hg
    have HO := hide hO
    have hm : m ≤ 60 := by have := locsTo_len N k; rw [← hO.1]; omega
    have hsz := hg.size
    obtain ⟨g0, g1⟩ := KG.out.later hg
    dsimp only at g0 g1
    clear g1
    by_cases hlt : k < gn
    · have hkd : k < N.length := by rw [HI.out.1]; exact hlt
      have hne : ¬ N = [] := fun h => by rw [h] at hkd; simp at hkd
      obtain ⟨b, o, rfl, hr1⟩ := HI.out.2.2.resolve_left hne
      obtain ⟨p0, p1, p2, p3⟩ := (hr1.later hg).at k hkd
      obtain ⟨x, hx⟩ : ∃ x, x = nth N k := ⟨_, rfl⟩
      rw [← nth_get N k hkd, ← hx] at p0 p1 p2 p3
      have HP : Hid (∀ wq, Grow w0 wq → wq.cell? ⟨b, o + k * 4, none⟩ = some (.int .i64 x.k)) := hide (fun wq hq => by
        have := ((hr1.later hq).at k hkd).1
        rwa [← nth_get N k hkd, ← hx] at this)
      have hi1 : (0 : Int) ≤ (k : Int) := by omega
      have hi2 : (k : Int) < (gn : Int) := by omega
      obtain ⟨q, hq⟩ : ∃ q, hasP x.k = q := ⟨_, rfl⟩
      obtain ⟨z, hz⟩ : ∃ z, insP x.k = z := ⟨_, rfl⟩
      have C1 := hide (fun w => rhas_at x.k hq w)
      have C2 := hide (fun w => rins_at x.k hz w)
      have HS := hide (locsOf_parts N k q (by rw [← hx]; exact hq) z (by rw [← hx]; exact hz))
      have hz2 : 0 ≤ z ∧ z ≤ 2 := by have := insP_cases x.k; omega
      clear hne hr1 hx hkd hg hO hq hz p1 p2 p3
      go_wp2_with fail
      refine (C1.out _).mono ?_
      rintro e w3 ⟨rfl, rfl⟩
      obtain ⟨A, hA⟩ : ∃ A, A = locsTo N k ++ if q = true then [⟨k, -1⟩] else [] := ⟨_, rfl⟩
      rw [← hA] at HS
      cases q
      · have HA := hide hA
        clear hA p0 g0
        have G4 := HG
        have O4 : Hid (OwnL w3 w0.heap.size s m c A) := hide (by rw [HA.out]; simpa using HO.out)
        have hm4' : m ≤ 61 := by omega
        clear HG HO hsz C1 hm
        go_wp2_with fail
        go_loopw [3, 6] (fun v i wq => ∃ (j : Nat) (s6 : Option Addr) (m6 c6 : Nat), j ≤ z.toNat ∧ m6 ≤ 61 + j ∧ v = .slice s6 m6 c6 ∧ i = .int .i64 j ∧ Grow w0 wq ∧ OwnL wq w0.heap.size s6 m6 c6 (A ++ insTo k j)) (fun _ i _ => z.toNat - (intOf i).toNat)
        case atStart => exact ⟨0, _, _, _, Nat.zero_le _, by omega, rfl, rfl, G4.out, by simpa [insTo] using O4.out⟩
        case round =>
          obtain ⟨j, s6, m6, c6, hj, hm6, rfl, rfl, hg6, hO6⟩ := hrel
          have G6 := hide hg6
          have O6 := hide hO6
          have hsz6 := hg6.size
          obtain ⟨g0, g1⟩ := KG.out.later hg6
          dsimp only at g0 g1
          have p0 := HP.out wr hg6
          clear hg6 hO6 O4 G4 g1
          by_cases hjz : j < z.toNat
          · have hj2 : (j : Int) < z := by omega
            go_wp2_with fail
            refine (C2.out _).mono ?_
            rintro e w5 ⟨rfl, rfl⟩
            clear p0 g0
            go_wp2_with (at_builtin; refine wpList_apd_lc rfl _ _ rfl w0.heap.size s6 m6 c6 (A ++ insTo k j) [⟨k, j⟩] rfl (O6.out.later (Grow.alloc' _ _)) (some ⟨w5.heap.size, 0, none⟩) 1 1 rfl (isLcs_one w5 ⟨k, j⟩) (by omega) (by simp; omega) ?_)
            intro s7 c7 w7 h7 gb
            have G7 := hide (gb.grow (Grow.trans' G6.out (Grow.alloc' _ _)) (Nat.le_refl _))
            have O7 : Hid (OwnL w7 w0.heap.size s7 (m6 + 1) c7 (A ++ insTo k (j + 1))) := hide (by rw [insTo_step]; exact h7)
            clear h7 gb O6 G6 hsz6
            go_wp2_with fail
            go_roundw
            case rel => exact ⟨j + 1, s7, m6 + 1, c7, by omega, by omega, rfl, by go_num, G7.out, O7.out⟩
            case measure => simp [intOf]; omega
          · have hj2 : ¬ (j : Int) < z := by omega
            have hjz' : j = z.toNat := by omega
            have O7 : Hid (OwnL wr w0.heap.size s6 m6 c6 (locsTo N (k + 1))) := hide (by rw [HS.out, ← hjz']; exact O6.out)
            clear hjz'
            go_wp2_with fail
            refine (C2.out _).mono ?_
            rintro e w5 ⟨rfl, rfl⟩
            clear p0 g0
            go_wp2_with fail
            go_roundw
            case rel => exact ⟨k + 1, s6, m6, c6, by omega, rfl, by go_num, G6.out, O7.out⟩
            case measure => simp [intOf]; omega
      · have HA := hide hA
        clear hA p0 g0
        go_wp2_with (at_builtin; refine wpList_apd_lc rfl _ _ rfl w0.heap.size s m c (locsTo N k) [⟨k, -1⟩] rfl (HO.out.later (Grow.alloc' _ _)) (some ⟨w3.heap.size, 0, none⟩) 1 1 rfl (isLcs_one w3 ⟨k, -1⟩) (by omega) (by simp; omega) ?_)
        intro s4 c4 w4 h4 gb
        have G4 := hide (gb.grow (Grow.trans' HG.out (Grow.alloc' _ _)) (Nat.le_refl _))
        have O4 : Hid (OwnL w4 w0.heap.size s4 (m + 1) c4 A) := hide (by rw [HA.out]; exact h4)
        have hm4' : m + 1 ≤ 61 := by omega
        clear h4 gb HG HO hsz C1
        go_wp2_with fail
        clear hm
        go_loopw [3, 6] (fun v i wq => ∃ (j : Nat) (s6 : Option Addr) (m6 c6 : Nat), j ≤ z.toNat ∧ m6 ≤ 61 + j ∧ v = .slice s6 m6 c6 ∧ i = .int .i64 j ∧ Grow w0 wq ∧ OwnL wq w0.heap.size s6 m6 c6 (A ++ insTo k j)) (fun _ i _ => z.toNat - (intOf i).toNat)
        case atStart => exact ⟨0, _, _, _, Nat.zero_le _, by omega, rfl, rfl, G4.out, by simpa [insTo] using O4.out⟩
        case round =>
          obtain ⟨j, s6, m6, c6, hj, hm6, rfl, rfl, hg6, hO6⟩ := hrel
          have G6 := hide hg6
          have O6 := hide hO6
          have hsz6 := hg6.size
          obtain ⟨g0, g1⟩ := KG.out.later hg6
          dsimp only at g0 g1
          have p0 := HP.out wr hg6
          clear hg6 hO6 O4 G4 g1
          by_cases hjz : j < z.toNat
          · have hj2 : (j : Int) < z := by omega
            go_wp2_with fail
            refine (C2.out _).mono ?_
            rintro e w5 ⟨rfl, rfl⟩
            clear p0 g0
            go_wp2_with (at_builtin; refine wpList_apd_lc rfl _ _ rfl w0.heap.size s6 m6 c6 (A ++ insTo k j) [⟨k, j⟩] rfl (O6.out.later (Grow.alloc' _ _)) (some ⟨w5.heap.size, 0, none⟩) 1 1 rfl (isLcs_one w5 ⟨k, j⟩) (by omega) (by simp; omega) ?_)
            intro s7 c7 w7 h7 gb
            have G7 := hide (gb.grow (Grow.trans' G6.out (Grow.alloc' _ _)) (Nat.le_refl _))
            have O7 : Hid (OwnL w7 w0.heap.size s7 (m6 + 1) c7 (A ++ insTo k (j + 1))) := hide (by rw [insTo_step]; exact h7)
            clear h7 gb O6 G6 hsz6
            go_wp2_with fail
            go_roundw
            case rel => exact ⟨j + 1, s7, m6 + 1, c7, by omega, by omega, rfl, by go_num, G7.out, O7.out⟩
            case measure => simp [intOf]; omega
          · have hj2 : ¬ (j : Int) < z := by omega
            have hjz' : j = z.toNat := by omega
            have O7 : Hid (OwnL wr w0.heap.size s6 m6 c6 (locsTo N (k + 1))) := hide (by rw [HS.out, ← hjz']; exact O6.out)
            clear hjz'
            go_wp2_with fail
            refine (C2.out _).mono ?_
            rintro e w5 ⟨rfl, rfl⟩
            clear p0 g0
            go_wp2_with fail
            go_roundw
            case rel => exact ⟨k + 1, s6, m6, c6, by omega, rfl, by go_num, G6.out, O7.out⟩
            case measure => simp [intOf]; omega
    · have hkn : k = N.length := by rw [HI.out.1]; omega
      have hi2 : ¬ (k : Int) < (gn : Int) := by omega
      have HF : Hid (OwnL wr w0.heap.size s m c (locs N)) := hide (by unfold locs; rw [← hkn]; exact HO.out)
      clear hkn hO hg
      go_wp2_with fail
      go_ret
      exact ⟨s, m, c, rfl, Grow.trans' GG.out HG.out, HF.out.rebase (by have := GG.out.size; omega)⟩

end Go.Proofs.YtehianjfpmbfpaaGreat
