import Derived.Test.YtehianjfpmbfpaaGreatHBlkZ
import Derived.Lib.QuietBelow
section
/-
  What graph.Next and graph.Prev, with their closures and the generic function that both go through the edges by, do to the world: each tells the plain row, in a row of the call's own; what was there stays as it was.
-/
namespace Go.Proofs.YtehianjfpmbfpaaGreat
set_option maxRecDepth 100000
open Go.RowKit Go.Sort
set_option linter.unusedVariables false
set_option linter.unusedSimpArgs false
attribute [local go_sem ↓] eqLc

theorem end_any (x : Ed) (w : World) :
    Calls Tryz.prog 98 #[.agg #[.int .i64 x.f, .int .i64 x.t, .int .i64 x.p]] w fun e w' => e = .returned (.agg #[.int .i64 x.t, .int .i64 x.p]) ∧ Grow w w' := by
  have G0 : Hid (Grow w ((w.alloc (.cells #[.int .i64 x.f, .int .i64 x.t, .int .i64 x.p] 61)).alloc (.cells #[.int .i64 0, .int .i64 0] 27))) := hide (Grow.trans' (Grow.alloc' _ _) (Grow.alloc' _ _))
  have hz : (w.alloc (.cells #[.int .i64 x.f, .int .i64 x.t, .int .i64 x.p] 61)).heap.size = w.heap.size + 1 := by simp
  have KR : Hid (BlkL ((w.alloc (.cells #[.int .i64 x.f, .int .i64 x.t, .int .i64 x.p] 61)).alloc (.cells #[.int .i64 0, .int .i64 0] 27)) (w.heap.size + 1)) := hide (by rw [← hz]; exact BlkL.new _)
  clear hz
  go_enter Tryz.func98, Tryz.ntmps98
  go_wp2_with (refine wpList_storeL rfl _ _ rfl (w.heap.size + 1) ⟨x.t, x.p⟩ rfl rfl KR.out ?_)
  exact bodyPost_ret (resultsL (fn := Tryz.f98) (i := 2) rfl _ _ (b := w.heap.size + 1) (t := ⟨x.t, x.p⟩) rfl (KR.out.box ⟨x.t, x.p⟩)) rfl ⟨rfl, grow_setRow G0.out (Nat.le_succ _) _⟩
theorem nextC_any (x : Ed) (i : Int) (b : Nat) {r : Bool} (hr : decide (x.f = i) = r) (w : World) (hb : w.cell? ⟨b, 0, none⟩ = some (.int .i64 i)) :
    Calls Tryz.prog 97 #[.agg #[.int .i64 x.f, .int .i64 x.t, .int .i64 x.p], .pointer (some ⟨b, 0, none⟩)] w fun e w' => e = .returned (.bool r) ∧ Grow w w' := by
  subst hr
  have hl : b < w.heap.size := World.block_lt_of_cell? _ _ hb
  go_enter Tryz.func97, Tryz.ntmps97
  go_wp2_with fail
  go_ret
  exact ⟨ret_bool (by simp), Grow.alloc' _ _⟩
set_option maxHeartbeats 4000000 in
theorem ofNext_raw (gs : Option Addr) (gn gc : Nat) (gt : Option Addr) (gm gq : Nat) (E : List Ed) (i : Int) (b : Nat) (w : World) (hm : gm ≤ 40) (hg : IsEds w gt gm gq E) (hb : w.cell? ⟨b, 0, none⟩ = some (.int .i64 i)) :
    Calls Tryz.prog 96 #[.agg #[.slice gs gn gc, .slice gt gm gq], .func (.func 97) #[] #[.pointer (some ⟨b, 0, none⟩)], .func (.func 98) #[] #[]] w fun e w' => ∃ s n c, e = .returned (.slice s n c) ∧ Grow w w' ∧ OwnL w' w.heap.size s n c (nextP E i) := by
  have GG : Hid (Grow w (w.alloc (.cells #[.slice gs gn gc, .slice gt gm gq] 25))) := hide (Grow.alloc' _ _)
  have HI := hide (hg.later GG.out)
  have HB := hide (cell_later GG.out hb)
  clear hg hb
  go_enter Tryz.func96, Tryz.ntmps96
  go_wp2_with fail
  generalize (w.alloc (.cells #[.slice gs gn gc, .slice gt gm gq] 25)) = w0 at *
  go_loopw [7, 13] (fun v ix wr => ∃ (k : Nat) (s : Option Addr) (m c : Nat), k ≤ gm ∧ m ≤ k ∧ v = .slice s m c ∧ ix = .int .i64 k ∧ Grow w0 wr ∧ OwnL wr w0.heap.size s m c (nextP (E.take k) i)) (fun _ ix _ => gm - (intOf ix).toNat)
  case atStart => exact ⟨0, none, 0, 0, Nat.zero_le _, Nat.le_refl _, rfl, rfl, Grow.rfl' _, by simpa [nextP] using OwnL.nil w0 w0.heap.size⟩
  case round =>
    obtain ⟨k, s, m, c, hk, hmk, rfl, rfl, hg, hO⟩ := hrel
    have HG := hide hg
    have HO := hide hO
    have hsz := hg.size
    by_cases hlt : k < gm
    · have hkd : k < E.length := by rw [HI.out.1]; exact hlt
      have hne : ¬ E = [] := fun h => by rw [h] at hkd; simp at hkd
      obtain ⟨be, o, rfl, hr1⟩ := HI.out.2.2.resolve_left hne
      obtain ⟨p0, p1, p2⟩ := (hr1.later hg).at k hkd
      have HS := hide (nextP_step E i k hkd)
      obtain ⟨x, hx⟩ : ∃ x, x = E[k] := ⟨_, rfl⟩
      rw [← hx] at p0 p1 p2 HS
      have hi1 : (0 : Int) ≤ (k : Int) := by omega
      have hi2 : (k : Int) < (gm : Int) := by omega
      clear hne hr1 hx hkd hg hO
      go_wp2_with (refine wpList_putE rfl _ _ rfl wr.heap.size x rfl rfl ⟨_, (MapKept.heap_alloc wr _).1, rfl⟩ wr (Grow.alloc' _ _) (Nat.le_refl _) ?_)
      intro w2 hg2 hb2
      have G2 := hide (Grow.trans' HG.out hg2)
      have O2 := hide (HO.out.later hg2)
      have KE := hide hb2
      obtain ⟨q0, q1, q2⟩ := hb2
      have hsz2 := hg2.size
      clear p0 p1 p2 hg2 HO HG
      go_wp2_with fail
      by_cases hc : x.f = i
      · have HT := hide (show nextP (E.take (k + 1)) i = nextP (E.take k) i ++ [⟨x.t, x.p⟩] by rw [HS.out, if_pos hc])
        refine (nextC_any x i b (r := true) (by simpa using hc) _ (cell_later G2.out HB.out)).mono ?_
        rintro _ w3 ⟨rfl, hb3⟩
        have G3 := hide (Grow.trans' G2.out hb3)
        have O3 := hide (O2.out.later hb3)
        obtain ⟨r0, r1, r2⟩ := KE.out.later hb3
        have hsz3 := hb3.size
        clear q0 q1 q2 hb3 G2 O2 HS KE hc
        go_wp2_with fail
        refine (end_any x _).mono ?_
        rintro _ w4 ⟨rfl, hb4⟩
        have G4 := hide (Grow.trans' G3.out hb4)
        have O4 := hide (O3.out.later hb4)
        have hsz4 := hb4.size
        clear r0 r1 r2 hb4 G3 O3
        go_wp2_with (at_builtin; refine wpList_apd_lc rfl _ _ rfl w0.heap.size s m c (nextP (E.take k) i) [⟨x.t, x.p⟩] rfl (O4.out.later (Grow.alloc' _ _)) (some ⟨w4.heap.size, 0, none⟩) 1 1 rfl (isLcs_one w4 ⟨x.t, x.p⟩) (by omega) (by simp; omega) ?_)
        intro s5 c5 w5 h5 gb
        have G5 := hide (gb.grow (Grow.trans' G4.out (Grow.alloc' _ _)) (Nat.le_refl _))
        have O5 : Hid (OwnL w5 w0.heap.size s5 (m + 1) c5 (nextP (E.take (k + 1)) i)) := hide (by rw [HT.out]; exact h5)
        clear h5 gb G4 O4 HT hsz hsz2 hsz3 hsz4
        go_wp2_with fail
        go_roundw
        case rel => exact ⟨k + 1, s5, m + 1, c5, by omega, by omega, rfl, by go_num, G5.out, O5.out⟩
        case measure => simp [intOf]; omega
      · have HT := hide (show nextP (E.take (k + 1)) i = nextP (E.take k) i by rw [HS.out, if_neg hc, List.append_nil])
        refine (nextC_any x i b (r := false) (by simpa using hc) _ (cell_later G2.out HB.out)).mono ?_
        rintro _ w3 ⟨rfl, hb3⟩
        have G3 := hide (Grow.trans' G2.out hb3)
        have O3 : Hid (OwnL w3 w0.heap.size s m c (nextP (E.take (k + 1)) i)) := hide (by rw [HT.out]; exact O2.out.later hb3)
        clear q0 q1 q2 hb3 G2 O2 HS KE hc HT
        go_wp2_with fail
        go_roundw
        case rel => exact ⟨k + 1, s, m, c, by omega, by omega, rfl, by go_num, G3.out, O3.out⟩
        case measure => simp [intOf]; omega
    · have hkn : E.take k = E := List.take_of_length_le (by rw [HI.out.1]; omega)
      have hi2 : ¬ (k : Int) < (gm : Int) := by omega
      rw [hkn] at HO
      clear hkn hO hg
      go_wp2_with fail
      go_ret
      exact ⟨s, m, c, rfl, Grow.trans' GG.out HG.out, HO.out.rebase GG.out.size⟩
set_option maxHeartbeats 1000000 in
theorem next_raw (gs : Option Addr) (gn gc : Nat) (gt : Option Addr) (gm gq : Nat) (E : List Ed) (i : Int) (w : World) (hm : gm ≤ 40) (hg : IsEds w gt gm gq E) :
    Calls Tryz.prog 80 #[.agg #[.slice gs gn gc, .slice gt gm gq], .int .i64 i] w fun e w' => ∃ s n c, e = .returned (.slice s n c) ∧ Grow w w' ∧ OwnL w' w.heap.size s n c (nextP E i) := by
  have GG : Hid (Grow w ((w.alloc (.cells #[.slice gs gn gc, .slice gt gm gq] 25)).alloc (.cells #[.int .i64 i] 3))) := hide (Grow.trans' (Grow.alloc' _ _) (Grow.alloc' _ _))
  have C := hide (ofNext_raw gs gn gc gt gm gq E i (w.heap.size + 1) ((w.alloc (.cells #[.slice gs gn gc, .slice gt gm gq] 25)).alloc (.cells #[.int .i64 i] 3)) hm (hg.later GG.out) (by simp [go_sem]))
  clear hg
  go_enter Tryz.func80, Tryz.ntmps80
  go_wp2_with fail
  refine C.out.mono ?_
  rintro _ w1 ⟨s, n, c, rfl, hb, hO⟩
  have HG := hide (Grow.trans' GG.out hb)
  have HO := hide (hO.rebase GG.out.size)
  clear hb hO
  go_wp2_with fail
  go_ret
  exact ⟨s, n, c, rfl, HG.out, HO.out⟩

end Go.Proofs.YtehianjfpmbfpaaGreat
end

section
/-
  What graph.Locs, and the document's own, do to the world: of every graph the plain row of its places, in a row of the call's own; what was there stays as it was.
-/
namespace Go.Proofs.YtehianjfpmbfpaaGreat
set_option maxRecDepth 100000
open Go.RowKit
set_option linter.unusedVariables false
set_option linter.unusedSimpArgs false

theorem locsOf_parts (N : List Nd) (k : Nat) (q : Bool) (hq : hasP (nth N k).k = q) (z : Int) (hz : insP (nth N k).k = z) : locsTo N (k + 1) = (locsTo N k ++ if q = true then [⟨k, -1⟩] else []) ++ insTo k z.toNat := by
  rw [locsTo_step, locsOf, hq, hz, List.append_assoc]
set_option maxHeartbeats 4000000 in
theorem locs_raw (gs : Option Addr) (gn gc : Nat) (gt : Option Addr) (gm gq : Nat) (N : List Nd) (w : World) (hn : gn ≤ 20) (hg : IsNds w gs gn gc N) :
    Calls Tryz.prog 55 #[.agg #[.slice gs gn gc, .slice gt gm gq]] w fun e w' => ∃ s n c, e = .returned (.slice s n c) ∧ Grow w w' ∧ OwnL w' w.heap.size s n c (locs N) := by
  have GG : Hid (Grow w (w.alloc (.cells #[.slice gs gn gc, .slice gt gm gq] 25))) := hide (Grow.alloc' _ _)
  have HI := hide (hg.later GG.out)
  clear hg
  go_enter Tryz.func55, Tryz.ntmps55
  go_wp2_with fail
  generalize hw0 : (w.alloc (.cells #[.slice gs gn gc, .slice gt gm gq] 25)) = w0 at *
  go_loopw [3, 10] (fun v i wr => ∃ (k : Nat) (s : Option Addr) (m c : Nat), k ≤ gn ∧ v = .slice s m c ∧ i = .int .i64 k ∧ Grow w0 wr ∧ OwnL wr w0.heap.size s m c (locsTo N k)) (fun _ i _ => gn - (intOf i).toNat)
  case atStart => exact ⟨0, none, 0, 0, Nat.zero_le _, rfl, rfl, Grow.rfl' _, OwnL.nil _ _⟩
  case round =>
    obtain ⟨k, s, m, c, hk, rfl, rfl, hg, hO⟩ := hrel
    have HG := hide hg
    have HO := hide hO
    have hm : m ≤ 60 := by have := locsTo_len N k; rw [← hO.1]; omega
    have hsz := hg.size
    by_cases hlt : k < gn
    · have hkd : k < N.length := by rw [HI.out.1]; exact hlt
      have hne : ¬ N = [] := fun h => by rw [h] at hkd; simp at hkd
      obtain ⟨b, o, rfl, hr1⟩ := HI.out.2.2.resolve_left hne
      obtain ⟨p0, p1, p2, p3⟩ := (hr1.later hg).at k hkd
      obtain ⟨x, hx⟩ : ∃ x, x = nth N k := ⟨_, rfl⟩
      rw [← nth_get N k hkd, ← hx] at p0 p1 p2 p3
      have hi1 : (0 : Int) ≤ (k : Int) := by omega
      have hi2 : (k : Int) < (gn : Int) := by omega
      obtain ⟨q, hq⟩ : ∃ q, hasP x.k = q := ⟨_, rfl⟩
      obtain ⟨z, hz⟩ : ∃ z, insP x.k = z := ⟨_, rfl⟩
      have C1 := hide (fun w => has_at x.k hq w)
      have C2 := hide (fun w => ins_at x.k hz w)
      have HS := hide (locsOf_parts N k q (by rw [← hx]; exact hq) z (by rw [← hx]; exact hz))
      have hz2 : 0 ≤ z ∧ z ≤ 2 := by have := insP_cases x.k; omega
      clear hne hr1 hx hkd hg hO hq hz
      go_wp2_with (refine wpList_putN rfl _ _ rfl wr.heap.size x rfl rfl (BlkN.new wr) wr (Grow.alloc' _ _) (Nat.le_refl _) ?_)
      intro w2 hg2 hb2
      have G2 := hide (Grow.trans' HG.out hg2)
      have O2 := hide (HO.out.later hg2)
      have HL := hide (fun a ha => (HO.out.lt a ha).1)
      have hB2 := hide hb2
      obtain ⟨q0, q1, q2, q3⟩ := hb2
      have hsz2 := hg2.size
      clear p0 p1 p2 p3 hg2 q1 q2 q3 HO HG
      go_wp2_with fail
      refine (C1.out _).mono ?_
      rintro e w3 ⟨rfl, rfl⟩
      obtain ⟨A, hA⟩ : ∃ A, A = locsTo N k ++ if q = true then [⟨k, -1⟩] else [] := ⟨_, rfl⟩
      rw [← hA] at HS
      generalize hrb : wr.heap.size = rb at *
      clear hrb
      cases q
      · have HA := hide hA
        clear hA
        have G4 := G2
        have O4 : Hid (OwnL w3 w0.heap.size s m c A) := hide (by rw [HA.out]; simpa using O2.out)
        have hm4' : m ≤ 61 := by omega
        clear G2 O2 hsz hsz2 HL hB2 C1 hm
        go_wp2_with fail
        refine (C2.out _).mono ?_
        rintro e w5 ⟨rfl, rfl⟩
        clear C2 q0
        go_wp2_with fail
        go_loopw [3, 26] (fun v i wq => ∃ (j : Nat) (s6 : Option Addr) (m6 c6 : Nat), j ≤ z.toNat ∧ m6 ≤ 61 + j ∧ v = .slice s6 m6 c6 ∧ i = .int .i64 j ∧ Grow w0 wq ∧ OwnL wq w0.heap.size s6 m6 c6 (A ++ insTo k j)) (fun _ i _ => z.toNat - (intOf i).toNat)
        case atStart => exact ⟨0, _, _, _, Nat.zero_le _, by omega, rfl, rfl, G4.out, by simpa [insTo] using O4.out⟩
        case round =>
          obtain ⟨j, s6, m6, c6, hj, hm6, rfl, rfl, hg6, hO6⟩ := hrel
          have G6 := hide hg6
          have O6 := hide hO6
          have hsz6 := hg6.size
          clear hg6 hO6 O4 G4
          by_cases hjz : j < z.toNat
          · have hj2 : (j : Int) < z := by omega
            go_wp2_with (at_builtin; refine wpList_apd_lc rfl _ _ rfl w0.heap.size s6 m6 c6 (A ++ insTo k j) [⟨k, j⟩] rfl (O6.out.later (Grow.alloc' _ _)) (some ⟨wr.heap.size, 0, none⟩) 1 1 rfl (isLcs_one wr ⟨k, j⟩) (by omega) (by simp; omega) ?_)
            intro s7 c7 w7 h7 gb
            have G7 := hide (gb.grow (Grow.trans' G6.out (Grow.alloc' _ _)) (Nat.le_refl _))
            have O7 : Hid (OwnL w7 w0.heap.size s7 (m6 + 1) c7 (A ++ insTo k (j + 1))) := hide (by rw [insTo_step]; exact h7)
            clear h7 gb O6 G6 hsz6
            go_wp2_with fail
            go_roundw
            case rel => exact ⟨j + 1, s7, m6 + 1, c7, by omega, by omega, rfl, by go_num, G7.out, O7.out⟩
            case measure => simp [intOf]; omega
          · have hj2 : ¬ (j : Int) < z := by omega
            have hjz' : j = z.toNat := by omega
            have O7 : Hid (OwnL wr w0.heap.size s6 m6 c6 (locsTo N (k + 1))) := hide (by rw [HS.out, ← hjz']; exact O6.out)
            clear hjz'
            go_wp2_with fail
            go_roundw
            case rel => exact ⟨k + 1, s6, m6, c6, by omega, rfl, by go_num, G6.out, O7.out⟩
            case measure => simp [intOf]; omega
      · have HA := hide hA
        clear hA
        clear q0
        go_wp2_with (at_builtin; refine wpList_apd_lc rfl _ _ rfl w0.heap.size s m c (locsTo N k) [⟨k, -1⟩] rfl (O2.out.later (Grow.alloc' _ _)) (some ⟨w3.heap.size, 0, none⟩) 1 1 rfl (isLcs_one w3 ⟨k, -1⟩) (by omega) (by simp; omega) ?_)
        intro s4 c4 w4 h4 gb
        have G4 := hide (gb.grow (Grow.trans' G2.out (Grow.alloc' _ _)) (Nat.le_refl _))
        obtain ⟨q0, _, _, _⟩ := (hB2.out.later (Grow.alloc' _ _)).but gb HL.out
        have O4 : Hid (OwnL w4 w0.heap.size s4 (m + 1) c4 A) := hide (by rw [HA.out]; exact h4)
        have hm4' : m + 1 ≤ 61 := by omega
        clear h4 gb G2 O2 hsz hsz2 HL hB2 C1
        go_wp2_with fail
        clear hm
        refine (C2.out _).mono ?_
        rintro e w5 ⟨rfl, rfl⟩
        clear C2 q0
        go_wp2_with fail
        go_loopw [3, 26] (fun v i wq => ∃ (j : Nat) (s6 : Option Addr) (m6 c6 : Nat), j ≤ z.toNat ∧ m6 ≤ 61 + j ∧ v = .slice s6 m6 c6 ∧ i = .int .i64 j ∧ Grow w0 wq ∧ OwnL wq w0.heap.size s6 m6 c6 (A ++ insTo k j)) (fun _ i _ => z.toNat - (intOf i).toNat)
        case atStart => exact ⟨0, _, _, _, Nat.zero_le _, by omega, rfl, rfl, G4.out, by simpa [insTo] using O4.out⟩
        case round =>
          obtain ⟨j, s6, m6, c6, hj, hm6, rfl, rfl, hg6, hO6⟩ := hrel
          have G6 := hide hg6
          have O6 := hide hO6
          have hsz6 := hg6.size
          clear hg6 hO6 O4 G4
          by_cases hjz : j < z.toNat
          · have hj2 : (j : Int) < z := by omega
            go_wp2_with (at_builtin; refine wpList_apd_lc rfl _ _ rfl w0.heap.size s6 m6 c6 (A ++ insTo k j) [⟨k, j⟩] rfl (O6.out.later (Grow.alloc' _ _)) (some ⟨wr.heap.size, 0, none⟩) 1 1 rfl (isLcs_one wr ⟨k, j⟩) (by omega) (by simp; omega) ?_)
            intro s7 c7 w7 h7 gb
            have G7 := hide (gb.grow (Grow.trans' G6.out (Grow.alloc' _ _)) (Nat.le_refl _))
            have O7 : Hid (OwnL w7 w0.heap.size s7 (m6 + 1) c7 (A ++ insTo k (j + 1))) := hide (by rw [insTo_step]; exact h7)
            clear h7 gb O6 G6 hsz6
            go_wp2_with fail
            go_roundw
            case rel => exact ⟨j + 1, s7, m6 + 1, c7, by omega, by omega, rfl, by go_num, G7.out, O7.out⟩
            case measure => simp [intOf]; omega
          · have hj2 : ¬ (j : Int) < z := by omega
            have hjz' : j = z.toNat := by omega
            have O7 : Hid (OwnL wr w0.heap.size s6 m6 c6 (locsTo N (k + 1))) := hide (by rw [HS.out, ← hjz']; exact O6.out)
            clear hjz'
            go_wp2_with fail
            go_roundw
            case rel => exact ⟨k + 1, s6, m6, c6, by omega, rfl, by go_num, G6.out, O7.out⟩
            case measure => simp [intOf]; omega
    · have hkn : k = N.length := by rw [HI.out.1]; omega
      have hi2 : ¬ (k : Int) < (gn : Int) := by omega
      have HF : Hid (OwnL wr w0.heap.size s m c (locs N)) := hide (by unfold locs; rw [← hkn]; exact HO.out)
      clear hkn hO hg
      go_wp2_with fail
      go_ret
      exact ⟨s, m, c, rfl, Grow.trans' GG.out HG.out, HF.out.rebase GG.out.size⟩

set_option maxHeartbeats 4000000 in
theorem rlocs_raw (gs : Option Addr) (gn gc : Nat) (gt : Option Addr) (gm gq : Nat) (N : List Nd) (w : World) (hn : gn ≤ 20) (hg : IsNds w gs gn gc N) :
    Calls Tryz.prog 37 #[.agg #[.slice gs gn gc, .slice gt gm gq]] w fun e w' => ∃ s n c, e = .returned (.slice s n c) ∧ Grow w w' ∧ OwnL w' w.heap.size s n c (locs N) := by
  have GG : Hid (Grow w (w.alloc (.cells #[.slice gs gn gc, .slice gt gm gq] 25))) := hide (Grow.alloc' _ _)
  have KG : Hid (BoxG (w.alloc (.cells #[.slice gs gn gc, .slice gt gm gq] 25)) w.heap.size ⟨gs, gn, gc, gt, gm, gq, [], []⟩) := hide (BoxG.new w ⟨gs, gn, gc, gt, gm, gq, [], []⟩)
  have HI := hide (hg.later GG.out)
  clear hg
  have G1 : Hid (Grow (w.alloc (.cells #[.slice gs gn gc, .slice gt gm gq] 25)) ((w.alloc (.cells #[.slice gs gn gc, .slice gt gm gq] 25)).alloc (.cells #[] 27))) := hide (Grow.alloc' _ _)
  have O1 : Hid (OwnL ((w.alloc (.cells #[.slice gs gn gc, .slice gt gm gq] 25)).alloc (.cells #[] 27)) (w.alloc (.cells #[.slice gs gn gc, .slice gt gm gq] 25)).heap.size (some ⟨w.heap.size + 1, 0, none⟩) 0 0 []) := hide (by have := OwnL.lit0 (w.alloc (.cells #[.slice gs gn gc, .slice gt gm gq] 25)) _ (Nat.le_refl _); simpa using this)
  obtain ⟨q0, q1⟩ := KG.out.later G1.out
  dsimp only at q0 q1
  go_enter Tryz.func37, Tryz.ntmps37
  go_wp2_with fail
  generalize (w.alloc (.cells #[.slice gs gn gc, .slice gt gm gq] 25)) = w0 at *
  clear q0 q1
  generalize w.heap.size = P at *
  go_loopw [3, 4] (fun v i wr => ∃ (k : Nat) (s : Option Addr) (m c : Nat), k ≤ gn ∧ v = .slice s m c ∧ i = .int .i64 k ∧ Grow w0 wr ∧ OwnL wr w0.heap.size s m c (locsTo N k)) (fun _ i _ => gn - (intOf i).toNat)
  case atStart => exact ⟨0, _, 0, 0, Nat.zero_le _, rfl, rfl, G1.out, O1.out⟩
  case round =>
    obtain ⟨k, s, m, c, hk, rfl, rfl, hg, hO⟩ := hrel
    have HG := hide hg
    have HO := hide hO
    have hm : m ≤ 60 := by have := locsTo_len N k; rw [← hO.1]; omega
    have hsz := hg.size
    obtain ⟨g0, g1⟩ := KG.out.later hg
    dsimp only at g0 g1
    clear g1
    by_cases hlt : k < gn
    · have hkd : k < N.length := by rw [HI.out.1]; exact hlt
      have hne : ¬ N = [] := fun h => by rw [h] at hkd; simp at hkd
      obtain ⟨b, o, rfl, hr1⟩ := HI.out.2.2.resolve_left hne
      obtain ⟨p0, p1, p2, p3⟩ := (hr1.later hg).at k hkd
      obtain ⟨x, hx⟩ : ∃ x, x = nth N k := ⟨_, rfl⟩
      rw [← nth_get N k hkd, ← hx] at p0 p1 p2 p3
      have HP : Hid (∀ wq, Grow w0 wq → wq.cell? ⟨b, o + k * 4, none⟩ = some (.int .i64 x.k)) := hide (fun wq hq => by
        have := ((hr1.later hq).at k hkd).1
        rwa [← nth_get N k hkd, ← hx] at this)
      have hi1 : (0 : Int) ≤ (k : Int) := by omega
      have hi2 : (k : Int) < (gn : Int) := by omega
      obtain ⟨q, hq⟩ : ∃ q, hasP x.k = q := ⟨_, rfl⟩
      obtain ⟨z, hz⟩ : ∃ z, insP x.k = z := ⟨_, rfl⟩
      have C1 := hide (fun w => rhas_at x.k hq w)
      have C2 := hide (fun w => rins_at x.k hz w)
      have HS := hide (locsOf_parts N k q (by rw [← hx]; exact hq) z (by rw [← hx]; exact hz))
      have hz2 : 0 ≤ z ∧ z ≤ 2 := by have := insP_cases x.k; omega
      clear hne hr1 hx hkd hg hO hq hz p1 p2 p3
      go_wp2_with fail
      refine (C1.out _).mono ?_
      rintro e w3 ⟨rfl, rfl⟩
      obtain ⟨A, hA⟩ : ∃ A, A = locsTo N k ++ if q = true then [⟨k, -1⟩] else [] := ⟨_, rfl⟩
      rw [← hA] at HS
      cases q
      · have HA := hide hA
        clear hA p0 g0
        have G4 := HG
        have O4 : Hid (OwnL w3 w0.heap.size s m c A) := hide (by rw [HA.out]; simpa using HO.out)
        have hm4' : m ≤ 61 := by omega
        clear HG HO hsz C1 hm
        go_wp2_with fail
        go_loopw [3, 6] (fun v i wq => ∃ (j : Nat) (s6 : Option Addr) (m6 c6 : Nat), j ≤ z.toNat ∧ m6 ≤ 61 + j ∧ v = .slice s6 m6 c6 ∧ i = .int .i64 j ∧ Grow w0 wq ∧ OwnL wq w0.heap.size s6 m6 c6 (A ++ insTo k j)) (fun _ i _ => z.toNat - (intOf i).toNat)
        case atStart => exact ⟨0, _, _, _, Nat.zero_le _, by omega, rfl, rfl, G4.out, by simpa [insTo] using O4.out⟩
        case round =>
          obtain ⟨j, s6, m6, c6, hj, hm6, rfl, rfl, hg6, hO6⟩ := hrel
          have G6 := hide hg6
          have O6 := hide hO6
          have hsz6 := hg6.size
          obtain ⟨g0, g1⟩ := KG.out.later hg6
          dsimp only at g0 g1
          have p0 := HP.out wr hg6
          clear hg6 hO6 O4 G4 g1
          by_cases hjz : j < z.toNat
          · have hj2 : (j : Int) < z := by omega
            go_wp2_with fail
            refine (C2.out _).mono ?_
            rintro e w5 ⟨rfl, rfl⟩
            clear p0 g0
            go_wp2_with (at_builtin; refine wpList_apd_lc rfl _ _ rfl w0.heap.size s6 m6 c6 (A ++ insTo k j) [⟨k, j⟩] rfl (O6.out.later (Grow.alloc' _ _)) (some ⟨w5.heap.size, 0, none⟩) 1 1 rfl (isLcs_one w5 ⟨k, j⟩) (by omega) (by simp; omega) ?_)
            intro s7 c7 w7 h7 gb
            have G7 := hide (gb.grow (Grow.trans' G6.out (Grow.alloc' _ _)) (Nat.le_refl _))
            have O7 : Hid (OwnL w7 w0.heap.size s7 (m6 + 1) c7 (A ++ insTo k (j + 1))) := hide (by rw [insTo_step]; exact h7)
            clear h7 gb O6 G6 hsz6
            go_wp2_with fail
            go_roundw
            case rel => exact ⟨j + 1, s7, m6 + 1, c7, by omega, by omega, rfl, by go_num, G7.out, O7.out⟩
            case measure => simp [intOf]; omega
          · have hj2 : ¬ (j : Int) < z := by omega
            have hjz' : j = z.toNat := by omega
            have O7 : Hid (OwnL wr w0.heap.size s6 m6 c6 (locsTo N (k + 1))) := hide (by rw [HS.out, ← hjz']; exact O6.out)
            clear hjz'
            go_wp2_with fail
            refine (C2.out _).mono ?_
            rintro e w5 ⟨rfl, rfl⟩
            clear p0 g0
            go_wp2_with fail
            go_roundw
            case rel => exact ⟨k + 1, s6, m6, c6, by omega, rfl, by go_num, G6.out, O7.out⟩
            case measure => simp [intOf]; omega
      · have HA := hide hA
        clear hA p0 g0
        go_wp2_with (at_builtin; refine wpList_apd_lc rfl _ _ rfl w0.heap.size s m c (locsTo N k) [⟨k, -1⟩] rfl (HO.out.later (Grow.alloc' _ _)) (some ⟨w3.heap.size, 0, none⟩) 1 1 rfl (isLcs_one w3 ⟨k, -1⟩) (by omega) (by simp; omega) ?_)
        intro s4 c4 w4 h4 gb
        have G4 := hide (gb.grow (Grow.trans' HG.out (Grow.alloc' _ _)) (Nat.le_refl _))
        have O4 : Hid (OwnL w4 w0.heap.size s4 (m + 1) c4 A) := hide (by rw [HA.out]; exact h4)
        have hm4' : m + 1 ≤ 61 := by omega
        clear h4 gb HG HO hsz C1
        go_wp2_with fail
        clear hm
        go_loopw [3, 6] (fun v i wq => ∃ (j : Nat) (s6 : Option Addr) (m6 c6 : Nat), j ≤ z.toNat ∧ m6 ≤ 61 + j ∧ v = .slice s6 m6 c6 ∧ i = .int .i64 j ∧ Grow w0 wq ∧ OwnL wq w0.heap.size s6 m6 c6 (A ++ insTo k j)) (fun _ i _ => z.toNat - (intOf i).toNat)
        case atStart => exact ⟨0, _, _, _, Nat.zero_le _, by omega, rfl, rfl, G4.out, by simpa [insTo] using O4.out⟩
        case round =>
          obtain ⟨j, s6, m6, c6, hj, hm6, rfl, rfl, hg6, hO6⟩ := hrel
          have G6 := hide hg6
          have O6 := hide hO6
          have hsz6 := hg6.size
          obtain ⟨g0, g1⟩ := KG.out.later hg6
          dsimp only at g0 g1
          have p0 := HP.out wr hg6
          clear hg6 hO6 O4 G4 g1
          by_cases hjz : j < z.toNat
          · have hj2 : (j : Int) < z := by omega
            go_wp2_with fail
            refine (C2.out _).mono ?_
            rintro e w5 ⟨rfl, rfl⟩
            clear p0 g0
            go_wp2_with (at_builtin; refine wpList_apd_lc rfl _ _ rfl w0.heap.size s6 m6 c6 (A ++ insTo k j) [⟨k, j⟩] rfl (O6.out.later (Grow.alloc' _ _)) (some ⟨w5.heap.size, 0, none⟩) 1 1 rfl (isLcs_one w5 ⟨k, j⟩) (by omega) (by simp; omega) ?_)
            intro s7 c7 w7 h7 gb
            have G7 := hide (gb.grow (Grow.trans' G6.out (Grow.alloc' _ _)) (Nat.le_refl _))
            have O7 : Hid (OwnL w7 w0.heap.size s7 (m6 + 1) c7 (A ++ insTo k (j + 1))) := hide (by rw [insTo_step]; exact h7)
            clear h7 gb O6 G6 hsz6
            go_wp2_with fail
            go_roundw
            case rel => exact ⟨j + 1, s7, m6 + 1, c7, by omega, by omega, rfl, by go_num, G7.out, O7.out⟩
            case measure => simp [intOf]; omega
          · have hj2 : ¬ (j : Int) < z := by omega
            have hjz' : j = z.toNat := by omega
            have O7 : Hid (OwnL wr w0.heap.size s6 m6 c6 (locsTo N (k + 1))) := hide (by rw [HS.out, ← hjz']; exact O6.out)
            clear hjz'
            go_wp2_with fail
            refine (C2.out _).mono ?_
            rintro e w5 ⟨rfl, rfl⟩
            clear p0 g0
            go_wp2_with fail
            go_roundw
            case rel => exact ⟨k + 1, s6, m6, c6, by omega, rfl, by go_num, G6.out, O7.out⟩
            case measure => simp [intOf]; omega
    · have hkn : k = N.length := by rw [HI.out.1]; omega
      have hi2 : ¬ (k : Int) < (gn : Int) := by omega
      have HF : Hid (OwnL wr w0.heap.size s m c (locs N)) := hide (by unfold locs; rw [← hkn]; exact HO.out)
      clear hkn hO hg
      go_wp2_with fail
      go_ret
      exact ⟨s, m, c, rfl, Grow.trans' GG.out HG.out, HF.out.rebase (by have := GG.out.size; omega)⟩

end Go.Proofs.YtehianjfpmbfpaaGreat
end

section
/-
  What graph.Is, graph.Depth, and the document's own, do to the world: of every graph and every place each returns its plain answer; what was there stays as it was.
-/
namespace Go.Proofs.YtehianjfpmbfpaaGreat
set_option maxRecDepth 100000
open Go.RowKit
set_option linter.unusedVariables false
set_option linter.unusedSimpArgs false
attribute [local go_sem ↓] eqLc

theorem isP_out {N : List Nd} {n p : Int} (h : n < 0 ∨ (N.length : Int) ≤ n) : isP N ⟨n, p⟩ = false := by
  unfold isP
  rcases h with h | h
  · have : ¬ (0 : Int) ≤ n := by omega
    simp [this]
  · have : ¬ n < (N.length : Int) := by omega
    simp [this]
theorem isP_in {N : List Nd} {k : Nat} {p : Int} (h : k < N.length) : isP N ⟨k, p⟩ = portB (nth N k).k p := by
  unfold isP
  have h1 : (0 : Int) ≤ (k : Int) := by omega
  have h2 : (k : Int) < (N.length : Int) := by omega
  simp [h1, h]
set_option maxHeartbeats 4000000 in
theorem is_raw (gs : Option Addr) (gn gc : Nat) (gt : Option Addr) (gm gq : Nat) (N : List Nd) (n p : Int) (w : World) (hn : gn ≤ 1000000) (hg : IsNds w gs gn gc N) :
    Calls Tryz.prog 61 #[.agg #[.slice gs gn gc, .slice gt gm gq], .agg #[.int .i64 n, .int .i64 p]] w fun e w' => e = .returned (.bool (isP N ⟨n, p⟩)) ∧ Grow w w' := by
  have GG : Hid (Grow w ((w.alloc (.cells #[.slice gs gn gc, .slice gt gm gq] 25)).alloc (.cells #[.int .i64 n, .int .i64 p] 27))) := hide (Grow.trans' (Grow.alloc' _ _) (Grow.alloc' _ _))
  have hz1 : (w.alloc (.cells #[.slice gs gn gc, .slice gt gm gq] 25)).heap.size = w.heap.size + 1 := by simp
  have KL : Hid (BoxL ((w.alloc (.cells #[.slice gs gn gc, .slice gt gm gq] 25)).alloc (.cells #[.int .i64 n, .int .i64 p] 27)) (w.heap.size + 1) ⟨n, p⟩) := hide (by rw [← hz1]; exact BoxL.new _ ⟨n, p⟩)
  clear hz1
  have HI := hide hg
  clear hg
  have hc : n < 0 ∨ (¬ n < 0 ∧ (gn : Int) ≤ n) ∨ (0 ≤ n ∧ n < (gn : Int)) := by omega
  rcases hc with h1 | ⟨h1, h2⟩ | ⟨h1, h2⟩
  · have HE := hide (isP_out (N := N) (p := p) (.inl h1))
    go_enter Tryz.func61, Tryz.ntmps61
    go_wp2_with fail
    go_ret
    exact ⟨ret_bool (by rw [HE.out]), GG.out⟩
  · have HE := hide (isP_out (N := N) (p := p) (.inr (by rw [HI.out.1]; exact h2)))
    go_enter Tryz.func61, Tryz.ntmps61
    go_wp2_with fail
    go_ret
    exact ⟨ret_bool (by rw [HE.out]), GG.out⟩
  · obtain ⟨k, rfl⟩ : ∃ k : Nat, n = k := ⟨n.toNat, by omega⟩
    have hkd : k < N.length := by rw [HI.out.1]; omega
    have hne : ¬ N = [] := fun h => by rw [h] at hkd; simp at hkd
    obtain ⟨b, o, rfl, hr1⟩ := HI.out.2.2.resolve_left hne
    obtain ⟨p0, p1, p2, p3⟩ := (hr1.later GG.out).at k hkd
    have HE := hide (isP_in (p := p) hkd)
    obtain ⟨x, hx⟩ : ∃ x, x = nth N k := ⟨_, rfl⟩
    rw [← nth_get N k hkd, ← hx] at p0 p1 p2 p3
    rw [← hx] at HE
    have hi0 : ¬ (k : Int) < 0 := by omega
    have hi1 : (0 : Int) ≤ (k : Int) := by omega
    have hi3 : ¬ (gn : Int) ≤ (k : Int) := by omega
    have hb0 : ¬ b = w.heap.size := by have := World.block_lt_of_cell? _ _ ((hr1.at k hkd).1); simp at this; omega
    clear hne hr1 hx hkd p1 p2 p3 h1
    obtain ⟨q, hq⟩ : ∃ q, hasP x.k = q := ⟨_, rfl⟩
    obtain ⟨z, hz⟩ : ∃ z, insP x.k = z := ⟨_, rfl⟩
    have C1 := hide (fun w => has_at x.k hq w)
    have C2 := hide (fun w => ins_at x.k hz w)
    have hc : p = -1 ∨ (¬ p = -1 ∧ ¬ 0 ≤ p) ∨ (¬ p = -1 ∧ 0 ≤ p) := by omega
    rcases hc with rfl | ⟨d1, d2⟩ | ⟨d1, d2⟩
    · have HP := hide (show portB x.k (-1) = q by unfold portB; rw [if_pos rfl, hq])
      clear hq hz
      go_enter Tryz.func61, Tryz.ntmps61
      go_wp2_with fail
      refine (C1.out _).mono ?_
      rintro e w1 ⟨rfl, rfl⟩
      go_wp2_with fail
      go_ret
      exact ⟨ret_bool (by rw [HE.out, HP.out]), GG.out⟩
    · have HP := hide (show portB x.k p = false by unfold portB; rw [if_neg d1]; simp [d2])
      clear hq hz
      go_enter Tryz.func61, Tryz.ntmps61
      go_wp2_with fail
      obtain ⟨l0, l1⟩ := KL.out
      dsimp only at l0 l1
      generalize (w.alloc (.cells #[.slice (some ⟨b, o, none⟩) gn gc, .slice gt gm gq] 25)).alloc (.cells #[.int .i64 (k : Int), .int .i64 p] 27) = w0 at *
      generalize w.heap.size = P at *
      clear l0 p0
      have d3 : decide (0 ≤ p) = false := by simpa using d2
      have d4 : p < 0 := by omega
      clear d2
      go_quiet (fail)
      go_wp2_with fail
      go_ret
      exact ⟨ret_bool (by rw [HE.out, HP.out]), Grow.trans' GG.out (below_drewN (Below.refl _ _) nq)⟩
    · have HP := hide (show portB x.k p = decide (p < z) by unfold portB; rw [if_neg d1, hz]; simp [d2])
      clear hq hz
      go_enter Tryz.func61, Tryz.ntmps61
      go_wp2_with fail
      obtain ⟨l0, l1⟩ := KL.out
      dsimp only at l0 l1
      generalize (w.alloc (.cells #[.slice (some ⟨b, o, none⟩) gn gc, .slice gt gm gq] 25)).alloc (.cells #[.int .i64 (k : Int), .int .i64 p] 27) = w0 at *
      generalize w.heap.size = P at *
      clear l0 p0
      go_quiet ((go_at_call 79; refine (C2.out _).mono ?_; rintro e w' ⟨rfl, rfl⟩; exact ⟨rfl, _, rfl⟩))
      go_wp2_with fail
      go_ret
      exact ⟨ret_bool (by rw [HE.out, HP.out]), Grow.trans' GG.out (below_drewN (Below.refl _ _) nq)⟩
set_option maxHeartbeats 4000000 in
theorem ris_raw (gs : Option Addr) (gn gc : Nat) (gt : Option Addr) (gm gq : Nat) (N : List Nd) (n p : Int) (w : World) (hn : gn ≤ 20) (hg : IsNds w gs gn gc N) :
    Calls Tryz.prog 21 #[.agg #[.slice gs gn gc, .slice gt gm gq], .agg #[.int .i64 n, .int .i64 p]] w fun e w' => e = .returned (.bool (isP N ⟨n, p⟩)) ∧ Grow w w' := by
  have GG : Hid (Grow w ((w.alloc (.cells #[.slice gs gn gc, .slice gt gm gq] 25)).alloc (.cells #[.int .i64 n, .int .i64 p] 27))) := hide (Grow.trans' (Grow.alloc' _ _) (Grow.alloc' _ _))
  have KG : Hid (BoxG ((w.alloc (.cells #[.slice gs gn gc, .slice gt gm gq] 25)).alloc (.cells #[.int .i64 n, .int .i64 p] 27)) w.heap.size ⟨gs, gn, gc, gt, gm, gq, [], []⟩) := hide ((BoxG.new w ⟨gs, gn, gc, gt, gm, gq, [], []⟩).later (Grow.alloc' _ _))
  have hz1 : (w.alloc (.cells #[.slice gs gn gc, .slice gt gm gq] 25)).heap.size = w.heap.size + 1 := by simp
  have KL : Hid (BoxL ((w.alloc (.cells #[.slice gs gn gc, .slice gt gm gq] 25)).alloc (.cells #[.int .i64 n, .int .i64 p] 27)) (w.heap.size + 1) ⟨n, p⟩) := hide (by rw [← hz1]; exact BoxL.new _ ⟨n, p⟩)
  have HI := hide (hg.later GG.out)
  have C1 := hide (rlocs_raw gs gn gc gt gm gq N ((w.alloc (.cells #[.slice gs gn gc, .slice gt gm gq] 25)).alloc (.cells #[.int .i64 n, .int .i64 p] 27)) hn HI.out)
  have HN : Hid (N.length ≤ 20) := hide (by rw [HI.out.1]; exact hn)
  have HM := hide (mem_locs N)
  have HL3 : Hid ((locs N).length ≤ 3 * N.length) := hide (locsTo_len N N.length)
  obtain ⟨D, hD⟩ : ∃ D, D = locs N := ⟨_, rfl⟩
  rw [← hD] at C1 HM HL3
  clear hD
  clear hg hz1 HI
  go_enter Tryz.func21, Tryz.ntmps21
  go_wp2_with fail
  refine (C1.out).mono ?_
  rintro _ w1 ⟨s, m, c, rfl, hb, hO⟩
  have G1 := hide (Grow.trans' GG.out hb)
  have K1 := hide (KL.out.later hb)
  have I1 := hide hO.is
  have hm : m ≤ 60 := by
    have h2 := HL3.out
    rw [← hO.1]
    have h4 := HN.out
    omega
  clear hb hO C1 KG KL GG
  go_wp2_with fail
  go_loopw [6] (fun i wr => ∃ k : Nat, k ≤ m ∧ i = .int .i64 k ∧ Grow w1 wr ∧ ∀ j (h : j < D.length), j < k → D[j] ≠ ⟨n, p⟩) (fun i _ => m - (intOf i).toNat)
  case atStart => exact ⟨0, Nat.zero_le _, rfl, Grow.rfl' _, fun j _ h => by omega⟩
  case round =>
    obtain ⟨k, hk, rfl, hg, hall⟩ := hrel
    have HG := hide hg
    have HA := hide hall
    clear hall
    by_cases hlt : k < m
    · have hkd : k < D.length := by rw [I1.out.1]; exact hlt
      have hne : ¬ D = [] := fun h => by rw [h] at hkd; simp at hkd
      obtain ⟨b, o, rfl, hr1⟩ := I1.out.2.2.resolve_left hne
      obtain ⟨p0, p1⟩ := (hr1.later hg).at k hkd
      obtain ⟨l0, l1⟩ := K1.out.later hg
      obtain ⟨x, hx⟩ : ∃ x, x = D[k] := ⟨_, rfl⟩
      have HY := hide hx
      rw [← hx] at p0 p1
      have HX : Hid (k < D.length) := hide hkd
      dsimp only at l0 l1
      have hi1 : (0 : Int) ≤ (k : Int) := by omega
      have hi2 : (k : Int) < (m : Int) := by omega
      clear hne hr1 hx hg
      obtain ⟨xn, xp⟩ := x
      dsimp only at p0 p1
      cases es : eqL ⟨xn, xp⟩ ⟨n, p⟩
      · have hxy : (⟨xn, xp⟩ : Lc) ≠ ⟨n, p⟩ := fun h => by rw [(eqL_iff _ _).2 h] at es; cases es
        have HXY := hide hxy
        clear hxy
        go_wp2_with fail
        go_quiet (fail)
        have HQ2 := hide (Grow.trans' HG.out (below_drewN (Below.refl _ _) nq))
        clear p0 p1 l0 l1 HG
        generalize wr.drewN nq = wz at *
        go_wp2_with fail
        go_roundw
        case rel =>
          refine ⟨k + 1, by omega, by go_num, HQ2.out, fun q hq h => ?_⟩
          by_cases e : q < k
          · exact HA.out q hq e
          · have : q = k := by omega
            subst this
            rw [← HY.out]; exact HXY.out
        case measure => simp [intOf]; omega
      · have hxy := (eqL_iff _ _).1 es
        have HT : Hid (isP N ⟨n, p⟩ = true) := hide ((HM.out _).1 (by rw [← hxy, HY.out]; exact List.getElem_mem HX.out))
        clear hxy
        go_wp2_with fail
        go_quiet (fail)
        have HQ2 := hide (Grow.trans' G1.out (Grow.trans' HG.out (below_drewN (Below.refl _ _) nq)))
        clear p0 p1 l0 l1 HG
        generalize wr.drewN nq = wz at *
        go_wp2_with fail
        go_ret
        exact ⟨ret_bool (by rw [HT.out]), HQ2.out⟩
    · have hi2 : ¬ (k : Int) < (m : Int) := by omega
      have HT : Hid (isP N ⟨n, p⟩ = false) := hide (by
        cases h : isP N ⟨n, p⟩
        · rfl
        · obtain ⟨j, hj, e⟩ := List.getElem_of_mem ((HM.out _).2 h)
          exact absurd e (HA.out j hj (by rw [I1.out.1] at hj; omega)))
      go_wp2_with fail
      go_ret
      exact ⟨ret_bool (by rw [HT.out]), Grow.trans' G1.out HG.out⟩

theorem depP_out {N : List Nd} {n p : Int} (h : isP N ⟨n, p⟩ = false) : depP N ⟨n, p⟩ = -1 := by unfold depP; rw [h]; rfl
theorem depP_end {N : List Nd} {k : Nat} (h : isP N ⟨k, -1⟩ = true) : depP N ⟨k, -1⟩ = (nth N k).d := by unfold depP; rw [if_pos h, if_pos rfl]; rfl
theorem depP_in {N : List Nd} {k : Nat} {p : Int} (h : isP N ⟨k, p⟩ = true) (hp : ¬ p = -1) : depP N ⟨k, p⟩ = inDP (nth N k) := by unfold depP; rw [if_pos h, if_neg hp]; rfl
theorem isP_node {N : List Nd} {n p : Int} (h : isP N ⟨n, p⟩ = true) : 0 ≤ n ∧ n < N.length := by
  unfold isP at h
  simp at h
  omega
set_option maxHeartbeats 4000000 in
theorem dep_raw (gs : Option Addr) (gn gc : Nat) (gt : Option Addr) (gm gq : Nat) (N : List Nd) (n p : Int) (w : World) (hn : gn ≤ 20) (hg : IsNds w gs gn gc N) :
    Calls Tryz.prog 34 #[.agg #[.slice gs gn gc, .slice gt gm gq], .agg #[.int .i64 n, .int .i64 p]] w fun e w' => e = .returned (.int .i64 (depP N ⟨n, p⟩)) ∧ Grow w w' := by
  have GG : Hid (Grow w ((w.alloc (.cells #[.slice gs gn gc, .slice gt gm gq] 25)).alloc (.cells #[.int .i64 n, .int .i64 p] 27))) := hide (Grow.trans' (Grow.alloc' _ _) (Grow.alloc' _ _))
  have KG : Hid (BoxG ((w.alloc (.cells #[.slice gs gn gc, .slice gt gm gq] 25)).alloc (.cells #[.int .i64 n, .int .i64 p] 27)) w.heap.size ⟨gs, gn, gc, gt, gm, gq, [], []⟩) := hide ((BoxG.new w ⟨gs, gn, gc, gt, gm, gq, [], []⟩).later (Grow.alloc' _ _))
  have hz1 : (w.alloc (.cells #[.slice gs gn gc, .slice gt gm gq] 25)).heap.size = w.heap.size + 1 := by simp
  have KL : Hid (BoxL ((w.alloc (.cells #[.slice gs gn gc, .slice gt gm gq] 25)).alloc (.cells #[.int .i64 n, .int .i64 p] 27)) (w.heap.size + 1) ⟨n, p⟩) := hide (by rw [← hz1]; exact BoxL.new _ ⟨n, p⟩)
  have HI := hide (hg.later GG.out)
  obtain ⟨r, hr⟩ : ∃ r, isP N ⟨n, p⟩ = r := ⟨_, rfl⟩
  have C1 := hide (is_raw gs gn gc gt gm gq N n p ((w.alloc (.cells #[.slice gs gn gc, .slice gt gm gq] 25)).alloc (.cells #[.int .i64 n, .int .i64 p] 27)) (by omega) HI.out)
  rw [hr] at C1
  clear hg hz1
  cases r
  · have HE := hide (depP_out hr)
    clear hr
    go_enter Tryz.func34, Tryz.ntmps34
    go_wp2_with fail
    refine (C1.out).mono ?_
    rintro _ w1 ⟨rfl, hb⟩
    have G1 := hide (Grow.trans' GG.out hb)
    clear hb
    go_wp2_with fail
    go_ret
    exact ⟨ret_int HE.out.symm, G1.out⟩
  · obtain ⟨h0, hlt⟩ := isP_node hr
    obtain ⟨k, rfl⟩ : ∃ k : Nat, n = k := ⟨n.toNat, by omega⟩
    have hkd : k < N.length := by omega
    have hne : ¬ N = [] := fun h => by rw [h] at hkd; simp at hkd
    obtain ⟨b, o, rfl, hr1⟩ := HI.out.2.2.resolve_left hne
    have hi1 : (0 : Int) ≤ (k : Int) := by omega
    have hi2 : (k : Int) < (gn : Int) := by rw [HI.out.1] at hkd; omega
    have HR := hide hr
    clear hr h0 hlt
    by_cases hp : p = -1
    · subst hp
      have HE := hide (depP_end HR.out)
      rw [HE.out]
      obtain ⟨x, hx⟩ : ∃ x, x = nth N k := ⟨_, rfl⟩
      have HX := hide hx
      rw [← hx]
      clear hx
      go_enter Tryz.func34, Tryz.ntmps34
      go_wp2_with fail
      refine (C1.out).mono ?_
      rintro _ w1 ⟨rfl, hb⟩
      have G1 := hide (Grow.trans' GG.out hb)
      obtain ⟨g0, g1⟩ := KG.out.later hb
      obtain ⟨l0, l1⟩ := KL.out.later hb
      obtain ⟨p0, p1, p2, p3⟩ := (hr1.later hb).at k hkd
      rw [← nth_get N k hkd, ← HX.out] at p0 p1 p2 p3
      dsimp only at g0 g1 l0 l1
      have KL1 := hide (KL.out.later hb)
      generalize (w.alloc (.cells #[.slice (some ⟨b, o, none⟩) gn gc, .slice gt gm gq] 25)).alloc (.cells #[.int .i64 (k : Int), .int .i64 (-1)] 27) = w0 at *
      generalize w.heap.size = P at *
      clear hb C1 KG KL hr1 hkd hne
      go_wp2_with (refine wpList_putN rfl _ _ rfl w1.heap.size x rfl rfl (BlkN.new w1) w1 (Grow.alloc' _ _) (Nat.le_refl _) ?_)
      intro w2 hg2 hb2
      have G2 := hide (Grow.trans' G1.out hg2)
      obtain ⟨l0', l1'⟩ := KL1.out.later hg2
      obtain ⟨q0, q1, q2, q3⟩ := hb2
      dsimp only at l0' l1'
      clear l0 l1 g0 g1 p0 p1 p2 p3 hg2
      go_wp2_with fail
      go_ret
      exact ⟨rfl, G2.out⟩
    · have HE := hide (depP_in HR.out hp)
      rw [HE.out]
      obtain ⟨x, hx⟩ : ∃ x, x = nth N k := ⟨_, rfl⟩
      have HX := hide hx
      rw [← hx]
      clear hx
      obtain ⟨xk, xa, xb, xd⟩ := x
      obtain ⟨z, hz⟩ : ∃ z, inDP ⟨xk, xa, xb, xd⟩ = z := ⟨_, rfl⟩
      have C2 := hide (fun w => inD_at xk xa xb xd hz w)
      rw [hz]
      clear hz
      go_enter Tryz.func34, Tryz.ntmps34
      go_wp2_with fail
      refine (C1.out).mono ?_
      rintro _ w1 ⟨rfl, hb⟩
      have G1 := hide (Grow.trans' GG.out hb)
      obtain ⟨g0, g1⟩ := KG.out.later hb
      obtain ⟨l0, l1⟩ := KL.out.later hb
      obtain ⟨p0, p1, p2, p3⟩ := (hr1.later hb).at k hkd
      rw [← nth_get N k hkd, ← HX.out] at p0 p1 p2 p3
      dsimp only at g0 g1 l0 l1 p0 p1 p2 p3
      have KL1 := hide (KL.out.later hb)
      generalize (w.alloc (.cells #[.slice (some ⟨b, o, none⟩) gn gc, .slice gt gm gq] 25)).alloc (.cells #[.int .i64 (k : Int), .int .i64 p] 27) = w0 at *
      generalize w.heap.size = P at *
      clear hb C1 KG KL hr1 hkd hne
      go_wp2_with (refine wpList_putN rfl _ _ rfl w1.heap.size ⟨xk, xa, xb, xd⟩ rfl rfl (BlkN.new w1) w1 (Grow.alloc' _ _) (Nat.le_refl _) ?_)
      intro w2 hg2 hb2
      have G2 := hide (Grow.trans' G1.out hg2)
      obtain ⟨l0', l1'⟩ := KL1.out.later hg2
      obtain ⟨q0, q1, q2, q3⟩ := hb2
      dsimp only at l0' l1' q0 q1 q2 q3
      clear l0 l1 g0 g1 p0 p1 p2 p3 hg2
      go_wp2_with fail
      refine (C2.out _).mono ?_
      rintro _ w3 ⟨rfl, hb3⟩
      have G3 := hide (Grow.trans' G2.out hb3)
      clear hb3
      go_wp2_with fail
      go_ret
      exact ⟨rfl, G3.out⟩
set_option maxHeartbeats 4000000 in
theorem rdep_raw (gs : Option Addr) (gn gc : Nat) (gt : Option Addr) (gm gq : Nat) (N : List Nd) (n p : Int) (w : World) (hn : gn ≤ 20) (hg : IsNds w gs gn gc N) :
    Calls Tryz.prog 23 #[.agg #[.slice gs gn gc, .slice gt gm gq], .agg #[.int .i64 n, .int .i64 p]] w fun e w' => e = .returned (.int .i64 (depP N ⟨n, p⟩)) ∧ Grow w w' := by
  have GG : Hid (Grow w ((w.alloc (.cells #[.slice gs gn gc, .slice gt gm gq] 25)).alloc (.cells #[.int .i64 n, .int .i64 p] 27))) := hide (Grow.trans' (Grow.alloc' _ _) (Grow.alloc' _ _))
  have KG : Hid (BoxG ((w.alloc (.cells #[.slice gs gn gc, .slice gt gm gq] 25)).alloc (.cells #[.int .i64 n, .int .i64 p] 27)) w.heap.size ⟨gs, gn, gc, gt, gm, gq, [], []⟩) := hide ((BoxG.new w ⟨gs, gn, gc, gt, gm, gq, [], []⟩).later (Grow.alloc' _ _))
  have hz1 : (w.alloc (.cells #[.slice gs gn gc, .slice gt gm gq] 25)).heap.size = w.heap.size + 1 := by simp
  have KL : Hid (BoxL ((w.alloc (.cells #[.slice gs gn gc, .slice gt gm gq] 25)).alloc (.cells #[.int .i64 n, .int .i64 p] 27)) (w.heap.size + 1) ⟨n, p⟩) := hide (by rw [← hz1]; exact BoxL.new _ ⟨n, p⟩)
  have HI := hide (hg.later GG.out)
  obtain ⟨r, hr⟩ : ∃ r, isP N ⟨n, p⟩ = r := ⟨_, rfl⟩
  have C1 := hide (ris_raw gs gn gc gt gm gq N n p ((w.alloc (.cells #[.slice gs gn gc, .slice gt gm gq] 25)).alloc (.cells #[.int .i64 n, .int .i64 p] 27)) (by omega) HI.out)
  rw [hr] at C1
  clear hg hz1
  cases r
  · have HE := hide (depP_out hr)
    clear hr
    go_enter Tryz.func23, Tryz.ntmps23
    go_wp2_with fail
    refine (C1.out).mono ?_
    rintro _ w1 ⟨rfl, hb⟩
    have G1 := hide (Grow.trans' GG.out hb)
    clear hb
    go_wp2_with fail
    go_ret
    exact ⟨ret_int HE.out.symm, G1.out⟩
  · obtain ⟨h0, hlt⟩ := isP_node hr
    obtain ⟨k, rfl⟩ : ∃ k : Nat, n = k := ⟨n.toNat, by omega⟩
    have hkd : k < N.length := by omega
    have hne : ¬ N = [] := fun h => by rw [h] at hkd; simp at hkd
    obtain ⟨b, o, rfl, hr1⟩ := HI.out.2.2.resolve_left hne
    have hi1 : (0 : Int) ≤ (k : Int) := by omega
    have hi2 : (k : Int) < (gn : Int) := by rw [HI.out.1] at hkd; omega
    have HR := hide hr
    clear hr h0 hlt
    by_cases hp : p = -1
    · subst hp
      have HE := hide (depP_end HR.out)
      rw [HE.out]
      obtain ⟨x, hx⟩ : ∃ x, x = nth N k := ⟨_, rfl⟩
      have HX := hide hx
      rw [← hx]
      clear hx
      go_enter Tryz.func23, Tryz.ntmps23
      go_wp2_with fail
      refine (C1.out).mono ?_
      rintro _ w1 ⟨rfl, hb⟩
      have G1 := hide (Grow.trans' GG.out hb)
      obtain ⟨g0, g1⟩ := KG.out.later hb
      obtain ⟨l0, l1⟩ := KL.out.later hb
      obtain ⟨p0, p1, p2, p3⟩ := (hr1.later hb).at k hkd
      rw [← nth_get N k hkd, ← HX.out] at p0 p1 p2 p3
      dsimp only at g0 g1 l0 l1
      have KL1 := hide (KL.out.later hb)
      generalize (w.alloc (.cells #[.slice (some ⟨b, o, none⟩) gn gc, .slice gt gm gq] 25)).alloc (.cells #[.int .i64 (k : Int), .int .i64 (-1)] 27) = w0 at *
      generalize w.heap.size = P at *
      clear hb C1 KG KL hr1 hkd hne
      clear p0 p1 p2
      go_wp2_with fail
      go_ret
      exact ⟨rfl, G1.out⟩
    · have HE := hide (depP_in HR.out hp)
      rw [HE.out]
      obtain ⟨x, hx⟩ : ∃ x, x = nth N k := ⟨_, rfl⟩
      have HX := hide hx
      rw [← hx]
      clear hx
      obtain ⟨xk, xa, xb, xd⟩ := x
      obtain ⟨z, hz⟩ : ∃ z, inDP ⟨xk, xa, xb, xd⟩ = z := ⟨_, rfl⟩
      have C2 := hide (fun w => rinD_at xk xa xb xd hz w)
      rw [hz]
      clear hz
      go_enter Tryz.func23, Tryz.ntmps23
      go_wp2_with fail
      refine (C1.out).mono ?_
      rintro _ w1 ⟨rfl, hb⟩
      have G1 := hide (Grow.trans' GG.out hb)
      obtain ⟨g0, g1⟩ := KG.out.later hb
      obtain ⟨l0, l1⟩ := KL.out.later hb
      obtain ⟨p0, p1, p2, p3⟩ := (hr1.later hb).at k hkd
      rw [← nth_get N k hkd, ← HX.out] at p0 p1 p2 p3
      dsimp only at g0 g1 l0 l1 p0 p1 p2 p3
      have KL1 := hide (KL.out.later hb)
      generalize (w.alloc (.cells #[.slice (some ⟨b, o, none⟩) gn gc, .slice gt gm gq] 25)).alloc (.cells #[.int .i64 (k : Int), .int .i64 p] 27) = w0 at *
      generalize w.heap.size = P at *
      clear hb C1 KG KL hr1 hkd hne
      have G2 := G1
      go_wp2_with fail
      refine (C2.out _).mono ?_
      rintro _ w3 ⟨rfl, hb3⟩
      have G3 := hide (Grow.trans' G2.out hb3)
      clear hb3
      go_wp2_with fail
      go_ret
      exact ⟨rfl, G3.out⟩

end Go.Proofs.YtehianjfpmbfpaaGreat
end

section
/-
  What graph.Inner, and the document's own, do to the world: for every node each returns the plain summary, and what was there stays as it was.
-/
namespace Go.Proofs.YtehianjfpmbfpaaGreat
set_option maxRecDepth 100000
open Go.RowKit
set_option linter.unusedVariables false
set_option linter.unusedSimpArgs false

set_option maxHeartbeats 1000000 in
theorem inn_zero_a (k a b d : Int) (h : insP k = 0) (w : World) :
    Calls Tryz.prog 81 #[.agg #[.int .i64 k, .int .i64 a, .int .i64 b, .int .i64 d]] w fun e w' => e = .returned (.agg #[.int .i64 0, .int .i64 0, .int .i64 0, .int .i64 0, .int .i64 0, .int .i64 0, .int .i64 0]) ∧ Grow w w' := by
  have C1 := hide (fun w => ins_at k h w)
  skip
  clear h 
  go_enter Tryz.func81, Tryz.ntmps81
  go_wp2_with fail
  refine (C1.out _).mono ?_
  rintro e w1 ⟨rfl, rfl⟩
  go_wp2_with fail
  skip
  skip
  skip
  refine bodyPost_ret (v := .agg #[.int .i64 0, .int .i64 0, .int .i64 0, .int .i64 0, .int .i64 0, .int .i64 0, .int .i64 0]) (by simp [results, Tryz.results81, go_sem]) rfl ⟨rfl, ?_⟩
  (repeat (first | exact Below.refl _ _ | assumption | refine Below.setCell ?_ (by simp; try omega) _ | refine Below.alloc ?_ (by simp; try omega) _))
set_option maxHeartbeats 1000000 in
theorem inn_zero_b (k a b d : Int) (h : insP k = 1) (h2 : hasP k = false) (w : World) :
    Calls Tryz.prog 81 #[.agg #[.int .i64 k, .int .i64 a, .int .i64 b, .int .i64 d]] w fun e w' => e = .returned (.agg #[.int .i64 0, .int .i64 0, .int .i64 0, .int .i64 0, .int .i64 0, .int .i64 0, .int .i64 0]) ∧ Grow w w' := by
  have C1 := hide (fun w => ins_at k h w)
  have C2 := hide (fun w => has_at k h2 w)
  clear h h2
  go_enter Tryz.func81, Tryz.ntmps81
  go_wp2_with fail
  refine (C1.out _).mono ?_
  rintro e w1 ⟨rfl, rfl⟩
  go_wp2_with fail
  refine (C2.out _).mono ?_
  rintro e w1 ⟨rfl, rfl⟩
  go_wp2_with fail
  refine bodyPost_ret (v := .agg #[.int .i64 0, .int .i64 0, .int .i64 0, .int .i64 0, .int .i64 0, .int .i64 0, .int .i64 0]) (by simp [results, Tryz.results81, go_sem]) rfl ⟨rfl, ?_⟩
  (repeat (first | exact Below.refl _ _ | assumption | refine Below.setCell ?_ (by simp; try omega) _ | refine Below.alloc ?_ (by simp; try omega) _))
set_option maxHeartbeats 1000000 in
theorem inn_8 (k a b d : Int) (h : k = 8) {i : Int} (hi : insP k = i) (hi0 : ¬ i = 0) (hh : hasP k = true) {z : Int} (hz : inDP ⟨k, a, b, d⟩ = z) (w : World) :
    Calls Tryz.prog 81 #[.agg #[.int .i64 k, .int .i64 a, .int .i64 b, .int .i64 d]] w fun e w' => e = .returned (.agg #[.int .i64 (enterS z).f, .int .i64 (enterS z).t, .int .i64 (enterS z).k, .int .i64 (enterS z).ep, .int .i64 (enterS z).x, .int .i64 (enterS z).y, .int .i64 (enterS z).z]) ∧ Grow w w' := by
  have hsz : (w.alloc (.cells #[.int .i64 k, .int .i64 a, .int .i64 b, .int .i64 d] 63)).heap.size = w.heap.size + 1 := by simp
  have KX : Hid (BoxN ((w.alloc (.cells #[.int .i64 k, .int .i64 a, .int .i64 b, .int .i64 d] 63)).alloc (.cells #[.int .i64 0, .int .i64 0, .int .i64 0, .int .i64 0, .int .i64 0, .int .i64 0, .int .i64 0] 68)) w.heap.size ⟨k, a, b, d⟩) := hide ((BoxN.new w ⟨k, a, b, d⟩).later (Grow.alloc' _ _))
  have G0 : Hid (Grow w ((w.alloc (.cells #[.int .i64 k, .int .i64 a, .int .i64 b, .int .i64 d] 63)).alloc (.cells #[.int .i64 0, .int .i64 0, .int .i64 0, .int .i64 0, .int .i64 0, .int .i64 0, .int .i64 0] 68))) := hide (Grow.trans' (Grow.alloc' _ _) (Grow.alloc' _ _))
  have KR : Hid (BlkS ((w.alloc (.cells #[.int .i64 k, .int .i64 a, .int .i64 b, .int .i64 d] 63)).alloc (.cells #[.int .i64 0, .int .i64 0, .int .i64 0, .int .i64 0, .int .i64 0, .int .i64 0, .int .i64 0] 68)) (w.heap.size + 1)) := hide (by rw [← hsz]; exact BlkS.new _)
  have C1 := hide (fun w => ins_at k hi w)
  have C2 := hide (fun w => has_at k hh w)
  have C3 := hide (fun w => inD_at k a b d hz w)
  obtain ⟨s, hs⟩ : ∃ s, s = enterS z := ⟨_, rfl⟩
  have C4 := hide (fun w => enter_any z w)
  rw [← hs] at C4 ⊢
  clear hi hh hz hs hsz
  subst h
  go_enter Tryz.func81, Tryz.ntmps81
  go_wp2_with fail
  refine (C1.out _).mono ?_
  rintro e w1 ⟨rfl, rfl⟩
  go_wp2_with fail
  refine (C2.out _).mono ?_
  rintro e w1 ⟨rfl, rfl⟩
  go_wp2_with fail
  refine (C3.out _).mono ?_
  rintro e w2 ⟨rfl, hb⟩
  have G2 := hide (Grow.trans' G0.out hb)
  have KR2 := hide (KR.out.later hb)
  obtain ⟨p0, p1, p2, p3⟩ := KX.out.later hb
  clear hb G0 KR KX C1 C2 C3
  dsimp only at p0 p1 p2 p3
  go_wp2_with fail
  refine (C4.out _).mono ?_
  rintro e w3 ⟨rfl, hb⟩
  have G3 := hide (Grow.trans' G2.out hb)
  have KR3 := hide (KR2.out.later hb)
  clear hb G2 KR2 C4 p0 p1 p2 p3
  go_wp2_with (refine wpList_storeS rfl _ _ rfl (w.heap.size + 1) s rfl rfl KR3.out ?_)
  exact bodyPost_ret (resultsS (fn := Tryz.f81) (i := 2) rfl _ _ (b := w.heap.size + 1) (t := s) rfl (KR3.out.box s)) rfl ⟨rfl, grow_setRow G3.out (Nat.le_succ _) _⟩
set_option maxHeartbeats 1000000 in
theorem inn_9 (k a b d : Int) (h : k = 9) {i : Int} (hi : insP k = i) (hi0 : ¬ i = 0) (hh : hasP k = true) {z : Int} (hz : inDP ⟨k, a, b, d⟩ = z) (w : World) :
    Calls Tryz.prog 81 #[.agg #[.int .i64 k, .int .i64 a, .int .i64 b, .int .i64 d]] w fun e w' => e = .returned (.agg #[.int .i64 (leaveS z).f, .int .i64 (leaveS z).t, .int .i64 (leaveS z).k, .int .i64 (leaveS z).ep, .int .i64 (leaveS z).x, .int .i64 (leaveS z).y, .int .i64 (leaveS z).z]) ∧ Grow w w' := by
  have hsz : (w.alloc (.cells #[.int .i64 k, .int .i64 a, .int .i64 b, .int .i64 d] 63)).heap.size = w.heap.size + 1 := by simp
  have KX : Hid (BoxN ((w.alloc (.cells #[.int .i64 k, .int .i64 a, .int .i64 b, .int .i64 d] 63)).alloc (.cells #[.int .i64 0, .int .i64 0, .int .i64 0, .int .i64 0, .int .i64 0, .int .i64 0, .int .i64 0] 68)) w.heap.size ⟨k, a, b, d⟩) := hide ((BoxN.new w ⟨k, a, b, d⟩).later (Grow.alloc' _ _))
  have G0 : Hid (Grow w ((w.alloc (.cells #[.int .i64 k, .int .i64 a, .int .i64 b, .int .i64 d] 63)).alloc (.cells #[.int .i64 0, .int .i64 0, .int .i64 0, .int .i64 0, .int .i64 0, .int .i64 0, .int .i64 0] 68))) := hide (Grow.trans' (Grow.alloc' _ _) (Grow.alloc' _ _))
  have KR : Hid (BlkS ((w.alloc (.cells #[.int .i64 k, .int .i64 a, .int .i64 b, .int .i64 d] 63)).alloc (.cells #[.int .i64 0, .int .i64 0, .int .i64 0, .int .i64 0, .int .i64 0, .int .i64 0, .int .i64 0] 68)) (w.heap.size + 1)) := hide (by rw [← hsz]; exact BlkS.new _)
  have C1 := hide (fun w => ins_at k hi w)
  have C2 := hide (fun w => has_at k hh w)
  have C3 := hide (fun w => inD_at k a b d hz w)
  obtain ⟨s, hs⟩ : ∃ s, s = leaveS z := ⟨_, rfl⟩
  have C4 := hide (fun w => leave_any z w)
  rw [← hs] at C4 ⊢
  clear hi hh hz hs hsz
  subst h
  go_enter Tryz.func81, Tryz.ntmps81
  go_wp2_with fail
  refine (C1.out _).mono ?_
  rintro e w1 ⟨rfl, rfl⟩
  go_wp2_with fail
  refine (C2.out _).mono ?_
  rintro e w1 ⟨rfl, rfl⟩
  go_wp2_with fail
  refine (C3.out _).mono ?_
  rintro e w2 ⟨rfl, hb⟩
  have G2 := hide (Grow.trans' G0.out hb)
  have KR2 := hide (KR.out.later hb)
  obtain ⟨p0, p1, p2, p3⟩ := KX.out.later hb
  clear hb G0 KR KX C1 C2 C3
  dsimp only at p0 p1 p2 p3
  go_wp2_with fail
  refine (C4.out _).mono ?_
  rintro e w3 ⟨rfl, hb⟩
  have G3 := hide (Grow.trans' G2.out hb)
  have KR3 := hide (KR2.out.later hb)
  clear hb G2 KR2 C4 p0 p1 p2 p3
  go_wp2_with (refine wpList_storeS rfl _ _ rfl (w.heap.size + 1) s rfl rfl KR3.out ?_)
  exact bodyPost_ret (resultsS (fn := Tryz.f81) (i := 2) rfl _ _ (b := w.heap.size + 1) (t := s) rfl (KR3.out.box s)) rfl ⟨rfl, grow_setRow G3.out (Nat.le_succ _) _⟩
set_option maxHeartbeats 1000000 in
theorem inn_10 (k a b d : Int) (h : k = 10) {i : Int} (hi : insP k = i) (hi0 : ¬ i = 0) (hh : hasP k = true) {z : Int} (hz : inDP ⟨k, a, b, d⟩ = z) (w : World) :
    Calls Tryz.prog 81 #[.agg #[.int .i64 k, .int .i64 a, .int .i64 b, .int .i64 d]] w fun e w' => e = .returned (.agg #[.int .i64 (feedS z).f, .int .i64 (feedS z).t, .int .i64 (feedS z).k, .int .i64 (feedS z).ep, .int .i64 (feedS z).x, .int .i64 (feedS z).y, .int .i64 (feedS z).z]) ∧ Grow w w' := by
  have hsz : (w.alloc (.cells #[.int .i64 k, .int .i64 a, .int .i64 b, .int .i64 d] 63)).heap.size = w.heap.size + 1 := by simp
  have KX : Hid (BoxN ((w.alloc (.cells #[.int .i64 k, .int .i64 a, .int .i64 b, .int .i64 d] 63)).alloc (.cells #[.int .i64 0, .int .i64 0, .int .i64 0, .int .i64 0, .int .i64 0, .int .i64 0, .int .i64 0] 68)) w.heap.size ⟨k, a, b, d⟩) := hide ((BoxN.new w ⟨k, a, b, d⟩).later (Grow.alloc' _ _))
  have G0 : Hid (Grow w ((w.alloc (.cells #[.int .i64 k, .int .i64 a, .int .i64 b, .int .i64 d] 63)).alloc (.cells #[.int .i64 0, .int .i64 0, .int .i64 0, .int .i64 0, .int .i64 0, .int .i64 0, .int .i64 0] 68))) := hide (Grow.trans' (Grow.alloc' _ _) (Grow.alloc' _ _))
  have KR : Hid (BlkS ((w.alloc (.cells #[.int .i64 k, .int .i64 a, .int .i64 b, .int .i64 d] 63)).alloc (.cells #[.int .i64 0, .int .i64 0, .int .i64 0, .int .i64 0, .int .i64 0, .int .i64 0, .int .i64 0] 68)) (w.heap.size + 1)) := hide (by rw [← hsz]; exact BlkS.new _)
  have C1 := hide (fun w => ins_at k hi w)
  have C2 := hide (fun w => has_at k hh w)
  have C3 := hide (fun w => inD_at k a b d hz w)
  obtain ⟨s, hs⟩ : ∃ s, s = feedS z := ⟨_, rfl⟩
  have C4 := hide (fun w => feed_any z w)
  rw [← hs] at C4 ⊢
  clear hi hh hz hs hsz
  subst h
  go_enter Tryz.func81, Tryz.ntmps81
  go_wp2_with fail
  refine (C1.out _).mono ?_
  rintro e w1 ⟨rfl, rfl⟩
  go_wp2_with fail
  refine (C2.out _).mono ?_
  rintro e w1 ⟨rfl, rfl⟩
  go_wp2_with fail
  refine (C3.out _).mono ?_
  rintro e w2 ⟨rfl, hb⟩
  have G2 := hide (Grow.trans' G0.out hb)
  have KR2 := hide (KR.out.later hb)
  obtain ⟨p0, p1, p2, p3⟩ := KX.out.later hb
  clear hb G0 KR KX C1 C2 C3
  dsimp only at p0 p1 p2 p3
  go_wp2_with fail
  refine (C4.out _).mono ?_
  rintro e w3 ⟨rfl, hb⟩
  have G3 := hide (Grow.trans' G2.out hb)
  have KR3 := hide (KR2.out.later hb)
  clear hb G2 KR2 C4 p0 p1 p2 p3
  go_wp2_with (refine wpList_storeS rfl _ _ rfl (w.heap.size + 1) s rfl rfl KR3.out ?_)
  exact bodyPost_ret (resultsS (fn := Tryz.f81) (i := 2) rfl _ _ (b := w.heap.size + 1) (t := s) rfl (KR3.out.box s)) rfl ⟨rfl, grow_setRow G3.out (Nat.le_succ _) _⟩
set_option maxHeartbeats 1000000 in
theorem inn_s (k a b d : Int) (h : ¬ k = 8 ∧ ¬ k = 9 ∧ ¬ k = 10) {i : Int} (hi : insP k = i) (hi0 : ¬ i = 0) (hh : hasP k = true) {z : Int} (hz : inDP ⟨k, a, b, d⟩ = z) (w : World) :
    Calls Tryz.prog 81 #[.agg #[.int .i64 k, .int .i64 a, .int .i64 b, .int .i64 d]] w fun e w' => e = .returned (.agg #[.int .i64 (sameS z).f, .int .i64 (sameS z).t, .int .i64 (sameS z).k, .int .i64 (sameS z).ep, .int .i64 (sameS z).x, .int .i64 (sameS z).y, .int .i64 (sameS z).z]) ∧ Grow w w' := by
  have hsz : (w.alloc (.cells #[.int .i64 k, .int .i64 a, .int .i64 b, .int .i64 d] 63)).heap.size = w.heap.size + 1 := by simp
  have KX : Hid (BoxN ((w.alloc (.cells #[.int .i64 k, .int .i64 a, .int .i64 b, .int .i64 d] 63)).alloc (.cells #[.int .i64 0, .int .i64 0, .int .i64 0, .int .i64 0, .int .i64 0, .int .i64 0, .int .i64 0] 68)) w.heap.size ⟨k, a, b, d⟩) := hide ((BoxN.new w ⟨k, a, b, d⟩).later (Grow.alloc' _ _))
  have G0 : Hid (Grow w ((w.alloc (.cells #[.int .i64 k, .int .i64 a, .int .i64 b, .int .i64 d] 63)).alloc (.cells #[.int .i64 0, .int .i64 0, .int .i64 0, .int .i64 0, .int .i64 0, .int .i64 0, .int .i64 0] 68))) := hide (Grow.trans' (Grow.alloc' _ _) (Grow.alloc' _ _))
  have KR : Hid (BlkS ((w.alloc (.cells #[.int .i64 k, .int .i64 a, .int .i64 b, .int .i64 d] 63)).alloc (.cells #[.int .i64 0, .int .i64 0, .int .i64 0, .int .i64 0, .int .i64 0, .int .i64 0, .int .i64 0] 68)) (w.heap.size + 1)) := hide (by rw [← hsz]; exact BlkS.new _)
  have C1 := hide (fun w => ins_at k hi w)
  have C2 := hide (fun w => has_at k hh w)
  have C3 := hide (fun w => inD_at k a b d hz w)
  obtain ⟨s, hs⟩ : ∃ s, s = sameS z := ⟨_, rfl⟩
  have C4 := hide (fun w => same_any z w)
  rw [← hs] at C4 ⊢
  clear hi hh hz hs hsz
  obtain ⟨h1, h2, h3⟩ := h
  go_enter Tryz.func81, Tryz.ntmps81
  go_wp2_with fail
  refine (C1.out _).mono ?_
  rintro e w1 ⟨rfl, rfl⟩
  go_wp2_with fail
  refine (C2.out _).mono ?_
  rintro e w1 ⟨rfl, rfl⟩
  go_wp2_with fail
  refine (C3.out _).mono ?_
  rintro e w2 ⟨rfl, hb⟩
  have G2 := hide (Grow.trans' G0.out hb)
  have KR2 := hide (KR.out.later hb)
  obtain ⟨p0, p1, p2, p3⟩ := KX.out.later hb
  clear hb G0 KR KX C1 C2 C3
  dsimp only at p0 p1 p2 p3
  go_wp2_with fail
  refine (C4.out _).mono ?_
  rintro e w3 ⟨rfl, hb⟩
  have G3 := hide (Grow.trans' G2.out hb)
  have KR3 := hide (KR2.out.later hb)
  clear hb G2 KR2 C4 p0 p1 p2 p3
  go_wp2_with (refine wpList_storeS rfl _ _ rfl (w.heap.size + 1) s rfl rfl KR3.out ?_)
  exact bodyPost_ret (resultsS (fn := Tryz.f81) (i := 2) rfl _ _ (b := w.heap.size + 1) (t := s) rfl (KR3.out.box s)) rfl ⟨rfl, grow_setRow G3.out (Nat.le_succ _) _⟩
theorem inn_any (k a b d : Int) (w : World) :
    Calls Tryz.prog 81 #[.agg #[.int .i64 k, .int .i64 a, .int .i64 b, .int .i64 d]] w fun e w' => e = .returned (.agg #[.int .i64 (innP ⟨k, a, b, d⟩).f, .int .i64 (innP ⟨k, a, b, d⟩).t, .int .i64 (innP ⟨k, a, b, d⟩).k, .int .i64 (innP ⟨k, a, b, d⟩).ep, .int .i64 (innP ⟨k, a, b, d⟩).x, .int .i64 (innP ⟨k, a, b, d⟩).y, .int .i64 (innP ⟨k, a, b, d⟩).z]) ∧ Grow w w' := by
  have hc : (k < 2 ∨ 11 < k) ∨ k = 11 ∨ k = 8 ∨ k = 9 ∨ k = 10 ∨ (2 ≤ k ∧ k ≤ 7) := by omega
  have hp : 2 ≤ k → k ≤ 10 → ¬ insP k = 0 ∧ hasP k = true := by
    intro h1 h2
    refine ⟨?_, by simp [hasP]; omega⟩
    unfold insP
    repeat' split
    all_goals omega
  rcases hc with h | h | h | h | h | h
  · have e : innP ⟨k, a, b, d⟩ = ⟨0, 0, 0, 0, 0, 0, 0⟩ := by
      unfold innP
      simp only
      rw [if_neg (by omega), if_neg (by omega), if_neg (by omega), if_neg (by omega)]
    rw [e]
    exact inn_zero_a k a b d (by unfold insP; rw [if_neg (by omega), if_neg (by omega)]) w
  · have e : innP ⟨k, a, b, d⟩ = ⟨0, 0, 0, 0, 0, 0, 0⟩ := by
      unfold innP
      simp only
      rw [if_neg (by omega), if_neg (by omega), if_neg (by omega), if_neg (by omega)]
    rw [e]
    exact inn_zero_b k a b d (by rw [h]; rfl) (by rw [h]; rfl) w
  · have e : innP ⟨k, a, b, d⟩ = enterS (inDP ⟨k, a, b, d⟩) := by unfold innP; rw [if_pos h]
    rw [e]
    exact inn_8 k a b d h rfl (hp (by omega) (by omega)).1 (hp (by omega) (by omega)).2 rfl w
  · have e : innP ⟨k, a, b, d⟩ = leaveS (inDP ⟨k, a, b, d⟩) := by unfold innP; rw [if_neg (show ¬ k = 8 by omega), if_pos h]
    rw [e]
    exact inn_9 k a b d h rfl (hp (by omega) (by omega)).1 (hp (by omega) (by omega)).2 rfl w
  · have e : innP ⟨k, a, b, d⟩ = feedS d := by unfold innP; rw [if_neg (show ¬ k = 8 by omega), if_neg (show ¬ k = 9 by omega), if_pos h]
    rw [e]
    exact inn_10 k a b d h rfl (hp (by omega) (by omega)).1 (hp (by omega) (by omega)).2 (by unfold inDP; rw [if_neg (show ¬ k = 8 by omega), if_neg (show ¬ k = 9 by omega)]) w
  · have e : innP ⟨k, a, b, d⟩ = sameS d := by unfold innP; rw [if_neg (show ¬ k = 8 by omega), if_neg (show ¬ k = 9 by omega), if_neg (show ¬ k = 10 by omega), if_pos h]
    rw [e]
    exact inn_s k a b d ⟨by omega, by omega, by omega⟩ rfl (hp (by omega) (by omega)).1 (hp (by omega) (by omega)).2 (by unfold inDP; rw [if_neg (show ¬ k = 8 by omega), if_neg (show ¬ k = 9 by omega)]) w
set_option maxHeartbeats 1000000 in
theorem rinn_8 (k a b d : Int) (h : k = 8) {z : Int} (hz : inDP ⟨k, a, b, d⟩ = z) (w : World) :
    Calls Tryz.prog 26 #[.agg #[.int .i64 k, .int .i64 a, .int .i64 b, .int .i64 d]] w fun e w' => e = .returned (.agg #[.int .i64 (enterS z).f, .int .i64 (enterS z).t, .int .i64 (enterS z).k, .int .i64 (enterS z).ep, .int .i64 (enterS z).x, .int .i64 (enterS z).y, .int .i64 (enterS z).z]) ∧ Grow w w' := by
  have hsz : (w.alloc (.cells #[.int .i64 k, .int .i64 a, .int .i64 b, .int .i64 d] 63)).heap.size = w.heap.size + 1 := by simp
  have G0 : Hid (Grow w ((w.alloc (.cells #[.int .i64 k, .int .i64 a, .int .i64 b, .int .i64 d] 63)).alloc (.cells #[.int .i64 0, .int .i64 0, .int .i64 0, .int .i64 0, .int .i64 0, .int .i64 0, .int .i64 0] 68))) := hide (Grow.trans' (Grow.alloc' _ _) (Grow.alloc' _ _))
  have KR : Hid (BlkS ((w.alloc (.cells #[.int .i64 k, .int .i64 a, .int .i64 b, .int .i64 d] 63)).alloc (.cells #[.int .i64 0, .int .i64 0, .int .i64 0, .int .i64 0, .int .i64 0, .int .i64 0, .int .i64 0] 68)) (w.heap.size + 1)) := hide (by rw [← hsz]; exact BlkS.new _)
  have C3 := hide (fun w => rinD_at k a b d hz w)
  obtain ⟨s, hs⟩ : ∃ s, s = enterS z := ⟨_, rfl⟩
  have C4 := hide (fun w => refEnter_any z w)
  rw [← hs] at C4 ⊢
  clear hz hs hsz
  subst h
  go_enter Tryz.func26, Tryz.ntmps26
  go_wp2_with fail
  refine (C3.out _).mono ?_
  rintro e w2 ⟨rfl, hb⟩
  have G2 := hide (Grow.trans' G0.out hb)
  have KR2 := hide (KR.out.later hb)
  clear hb G0 KR C3
  go_wp2_with fail
  refine (C4.out _).mono ?_
  rintro e w3 ⟨rfl, hb⟩
  have G3 := hide (Grow.trans' G2.out hb)
  have KR3 := hide (KR2.out.later hb)
  clear hb G2 KR2 C4
  go_wp2_with (refine wpList_storeS rfl _ _ rfl (w.heap.size + 1) s rfl rfl KR3.out ?_)
  exact bodyPost_ret (resultsS (fn := Tryz.f26) (i := 2) rfl _ _ (b := w.heap.size + 1) (t := s) rfl (KR3.out.box s)) rfl ⟨rfl, grow_setRow G3.out (Nat.le_succ _) _⟩
set_option maxHeartbeats 1000000 in
theorem rinn_9 (k a b d : Int) (h : k = 9) {z : Int} (hz : inDP ⟨k, a, b, d⟩ = z) (w : World) :
    Calls Tryz.prog 26 #[.agg #[.int .i64 k, .int .i64 a, .int .i64 b, .int .i64 d]] w fun e w' => e = .returned (.agg #[.int .i64 (leaveS z).f, .int .i64 (leaveS z).t, .int .i64 (leaveS z).k, .int .i64 (leaveS z).ep, .int .i64 (leaveS z).x, .int .i64 (leaveS z).y, .int .i64 (leaveS z).z]) ∧ Grow w w' := by
  have hsz : (w.alloc (.cells #[.int .i64 k, .int .i64 a, .int .i64 b, .int .i64 d] 63)).heap.size = w.heap.size + 1 := by simp
  have G0 : Hid (Grow w ((w.alloc (.cells #[.int .i64 k, .int .i64 a, .int .i64 b, .int .i64 d] 63)).alloc (.cells #[.int .i64 0, .int .i64 0, .int .i64 0, .int .i64 0, .int .i64 0, .int .i64 0, .int .i64 0] 68))) := hide (Grow.trans' (Grow.alloc' _ _) (Grow.alloc' _ _))
  have KR : Hid (BlkS ((w.alloc (.cells #[.int .i64 k, .int .i64 a, .int .i64 b, .int .i64 d] 63)).alloc (.cells #[.int .i64 0, .int .i64 0, .int .i64 0, .int .i64 0, .int .i64 0, .int .i64 0, .int .i64 0] 68)) (w.heap.size + 1)) := hide (by rw [← hsz]; exact BlkS.new _)
  have C3 := hide (fun w => rinD_at k a b d hz w)
  obtain ⟨s, hs⟩ : ∃ s, s = leaveS z := ⟨_, rfl⟩
  have C4 := hide (fun w => refLeave_any z w)
  rw [← hs] at C4 ⊢
  clear hz hs hsz
  subst h
  go_enter Tryz.func26, Tryz.ntmps26
  go_wp2_with fail
  refine (C3.out _).mono ?_
  rintro e w2 ⟨rfl, hb⟩
  have G2 := hide (Grow.trans' G0.out hb)
  have KR2 := hide (KR.out.later hb)
  clear hb G0 KR C3
  go_wp2_with fail
  refine (C4.out _).mono ?_
  rintro e w3 ⟨rfl, hb⟩
  have G3 := hide (Grow.trans' G2.out hb)
  have KR3 := hide (KR2.out.later hb)
  clear hb G2 KR2 C4
  go_wp2_with (refine wpList_storeS rfl _ _ rfl (w.heap.size + 1) s rfl rfl KR3.out ?_)
  exact bodyPost_ret (resultsS (fn := Tryz.f26) (i := 2) rfl _ _ (b := w.heap.size + 1) (t := s) rfl (KR3.out.box s)) rfl ⟨rfl, grow_setRow G3.out (Nat.le_succ _) _⟩
set_option maxHeartbeats 1000000 in
theorem rinn_10 (k a b d : Int) (h : k = 10) (w : World) :
    Calls Tryz.prog 26 #[.agg #[.int .i64 k, .int .i64 a, .int .i64 b, .int .i64 d]] w fun e w' => e = .returned (.agg #[.int .i64 (feedS d).f, .int .i64 (feedS d).t, .int .i64 (feedS d).k, .int .i64 (feedS d).ep, .int .i64 (feedS d).x, .int .i64 (feedS d).y, .int .i64 (feedS d).z]) ∧ Grow w w' := by
  have hsz : (w.alloc (.cells #[.int .i64 k, .int .i64 a, .int .i64 b, .int .i64 d] 63)).heap.size = w.heap.size + 1 := by simp
  have G0 : Hid (Grow w ((w.alloc (.cells #[.int .i64 k, .int .i64 a, .int .i64 b, .int .i64 d] 63)).alloc (.cells #[.int .i64 0, .int .i64 0, .int .i64 0, .int .i64 0, .int .i64 0, .int .i64 0, .int .i64 0] 68))) := hide (Grow.trans' (Grow.alloc' _ _) (Grow.alloc' _ _))
  have KR : Hid (BlkS ((w.alloc (.cells #[.int .i64 k, .int .i64 a, .int .i64 b, .int .i64 d] 63)).alloc (.cells #[.int .i64 0, .int .i64 0, .int .i64 0, .int .i64 0, .int .i64 0, .int .i64 0, .int .i64 0] 68)) (w.heap.size + 1)) := hide (by rw [← hsz]; exact BlkS.new _)
  obtain ⟨s, hs⟩ : ∃ s, s = feedS d := ⟨_, rfl⟩
  have C4 := hide (fun w => refFeed_any d w)
  rw [← hs] at C4 ⊢
  clear hs hsz
  subst h
  go_enter Tryz.func26, Tryz.ntmps26
  go_wp2_with fail
  refine (C4.out _).mono ?_
  rintro e w3 ⟨rfl, hb⟩
  have G3 := hide (Grow.trans' G0.out hb)
  have KR3 := hide (KR.out.later hb)
  clear hb G0 KR C4
  go_wp2_with (refine wpList_storeS rfl _ _ rfl (w.heap.size + 1) s rfl rfl KR3.out ?_)
  exact bodyPost_ret (resultsS (fn := Tryz.f26) (i := 2) rfl _ _ (b := w.heap.size + 1) (t := s) rfl (KR3.out.box s)) rfl ⟨rfl, grow_setRow G3.out (Nat.le_succ _) _⟩
set_option maxHeartbeats 1000000 in
theorem rinn_s (k a b d : Int) (h : ¬ k = 8 ∧ ¬ k = 9 ∧ ¬ k = 10 ∧ 2 ≤ k ∧ k ≤ 7) (w : World) :
    Calls Tryz.prog 26 #[.agg #[.int .i64 k, .int .i64 a, .int .i64 b, .int .i64 d]] w fun e w' => e = .returned (.agg #[.int .i64 (sameS d).f, .int .i64 (sameS d).t, .int .i64 (sameS d).k, .int .i64 (sameS d).ep, .int .i64 (sameS d).x, .int .i64 (sameS d).y, .int .i64 (sameS d).z]) ∧ Grow w w' := by
  have hsz : (w.alloc (.cells #[.int .i64 k, .int .i64 a, .int .i64 b, .int .i64 d] 63)).heap.size = w.heap.size + 1 := by simp
  have G0 : Hid (Grow w ((w.alloc (.cells #[.int .i64 k, .int .i64 a, .int .i64 b, .int .i64 d] 63)).alloc (.cells #[.int .i64 0, .int .i64 0, .int .i64 0, .int .i64 0, .int .i64 0, .int .i64 0, .int .i64 0] 68))) := hide (Grow.trans' (Grow.alloc' _ _) (Grow.alloc' _ _))
  have KR : Hid (BlkS ((w.alloc (.cells #[.int .i64 k, .int .i64 a, .int .i64 b, .int .i64 d] 63)).alloc (.cells #[.int .i64 0, .int .i64 0, .int .i64 0, .int .i64 0, .int .i64 0, .int .i64 0, .int .i64 0] 68)) (w.heap.size + 1)) := hide (by rw [← hsz]; exact BlkS.new _)
  obtain ⟨s, hs⟩ : ∃ s, s = sameS d := ⟨_, rfl⟩
  have C4 := hide (fun w => refSame_any d w)
  rw [← hs] at C4 ⊢
  clear hs hsz
  obtain ⟨h1, h2, h3, h4, h5⟩ := h
  go_enter Tryz.func26, Tryz.ntmps26
  go_wp2_with fail
  refine (C4.out _).mono ?_
  rintro e w3 ⟨rfl, hb⟩
  have G3 := hide (Grow.trans' G0.out hb)
  have KR3 := hide (KR.out.later hb)
  clear hb G0 KR C4
  go_wp2_with (refine wpList_storeS rfl _ _ rfl (w.heap.size + 1) s rfl rfl KR3.out ?_)
  exact bodyPost_ret (resultsS (fn := Tryz.f26) (i := 2) rfl _ _ (b := w.heap.size + 1) (t := s) rfl (KR3.out.box s)) rfl ⟨rfl, grow_setRow G3.out (Nat.le_succ _) _⟩
set_option maxHeartbeats 1000000 in
theorem rinn_zero_0 (k a b d : Int) (h1 : ¬ k = 8) (h2 : ¬ k = 9) (h3 : ¬ k = 10) (h4 : ¬ 2 ≤ k) (w : World) :
    Calls Tryz.prog 26 #[.agg #[.int .i64 k, .int .i64 a, .int .i64 b, .int .i64 d]] w fun e w' => e = .returned (.agg #[.int .i64 0, .int .i64 0, .int .i64 0, .int .i64 0, .int .i64 0, .int .i64 0, .int .i64 0]) ∧ Grow w w' := by
  go_enter Tryz.func26, Tryz.ntmps26
  go_wp2_with fail
  refine bodyPost_ret (v := .agg #[.int .i64 0, .int .i64 0, .int .i64 0, .int .i64 0, .int .i64 0, .int .i64 0, .int .i64 0]) (by simp [results, Tryz.results26, go_sem]) rfl ⟨rfl, ?_⟩
  (repeat (first | exact Below.refl _ _ | assumption | refine Below.setCell ?_ (by simp; try omega) _ | refine Below.alloc ?_ (by simp; try omega) _))
set_option maxHeartbeats 1000000 in
theorem rinn_zero_1 (k a b d : Int) (h1 : ¬ k = 8) (h2 : ¬ k = 9) (h3 : ¬ k = 10) (h4 : 2 ≤ k) (h5 : ¬ k ≤ 7) (w : World) :
    Calls Tryz.prog 26 #[.agg #[.int .i64 k, .int .i64 a, .int .i64 b, .int .i64 d]] w fun e w' => e = .returned (.agg #[.int .i64 0, .int .i64 0, .int .i64 0, .int .i64 0, .int .i64 0, .int .i64 0, .int .i64 0]) ∧ Grow w w' := by
  go_enter Tryz.func26, Tryz.ntmps26
  go_wp2_with fail
  refine bodyPost_ret (v := .agg #[.int .i64 0, .int .i64 0, .int .i64 0, .int .i64 0, .int .i64 0, .int .i64 0, .int .i64 0]) (by simp [results, Tryz.results26, go_sem]) rfl ⟨rfl, ?_⟩
  (repeat (first | exact Below.refl _ _ | assumption | refine Below.setCell ?_ (by simp; try omega) _ | refine Below.alloc ?_ (by simp; try omega) _))
theorem rinn_any (k a b d : Int) (w : World) :
    Calls Tryz.prog 26 #[.agg #[.int .i64 k, .int .i64 a, .int .i64 b, .int .i64 d]] w fun e w' => e = .returned (.agg #[.int .i64 (innP ⟨k, a, b, d⟩).f, .int .i64 (innP ⟨k, a, b, d⟩).t, .int .i64 (innP ⟨k, a, b, d⟩).k, .int .i64 (innP ⟨k, a, b, d⟩).ep, .int .i64 (innP ⟨k, a, b, d⟩).x, .int .i64 (innP ⟨k, a, b, d⟩).y, .int .i64 (innP ⟨k, a, b, d⟩).z]) ∧ Grow w w' := by
  have hc : (¬ k = 8 ∧ ¬ k = 9 ∧ ¬ k = 10 ∧ ¬ 2 ≤ k) ∨ (¬ k = 8 ∧ ¬ k = 9 ∧ ¬ k = 10 ∧ 2 ≤ k ∧ ¬ k ≤ 7) ∨ k = 8 ∨ k = 9 ∨ k = 10 ∨ (2 ≤ k ∧ k ≤ 7) := by omega
  rcases hc with h | h | h | h | h | h
  · have e : innP ⟨k, a, b, d⟩ = ⟨0, 0, 0, 0, 0, 0, 0⟩ := by
      unfold innP
      simp only
      rw [if_neg (by omega), if_neg (by omega), if_neg (by omega), if_neg (by omega)]
    rw [e]
    exact rinn_zero_0 k a b d h.1 h.2.1 h.2.2.1 h.2.2.2 w
  · have e : innP ⟨k, a, b, d⟩ = ⟨0, 0, 0, 0, 0, 0, 0⟩ := by
      unfold innP
      simp only
      rw [if_neg (by omega), if_neg (by omega), if_neg (by omega), if_neg (by omega)]
    rw [e]
    exact rinn_zero_1 k a b d h.1 h.2.1 h.2.2.1 h.2.2.2.1 h.2.2.2.2 w
  · have e : innP ⟨k, a, b, d⟩ = enterS (inDP ⟨k, a, b, d⟩) := by unfold innP; rw [if_pos h]
    rw [e]
    exact rinn_8 k a b d h rfl w
  · have e : innP ⟨k, a, b, d⟩ = leaveS (inDP ⟨k, a, b, d⟩) := by unfold innP; rw [if_neg (show ¬ k = 8 by omega), if_pos h]
    rw [e]
    exact rinn_9 k a b d h rfl w
  · have e : innP ⟨k, a, b, d⟩ = feedS d := by unfold innP; rw [if_neg (show ¬ k = 8 by omega), if_neg (show ¬ k = 9 by omega), if_pos h]
    rw [e]
    exact rinn_10 k a b d h w
  · have e : innP ⟨k, a, b, d⟩ = sameS d := by unfold innP; rw [if_neg (show ¬ k = 8 by omega), if_neg (show ¬ k = 9 by omega), if_neg (show ¬ k = 10 by omega), if_pos h]
    rw [e]
    exact rinn_s k a b d ⟨by omega, by omega, by omega, h.1, h.2⟩ w

end Go.Proofs.YtehianjfpmbfpaaGreat
end
