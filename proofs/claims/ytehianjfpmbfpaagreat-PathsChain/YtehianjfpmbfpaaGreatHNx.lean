/-
  What graph.Next and graph.Prev, with their closures and the generic function that both go through the edges by, do to the world: each tells the plain row, in a row of the call's own; what was there stays as it was.
-/
import Derived.Test.YtehianjfpmbfpaaGreatHBlk
import Derived.Lib.QuietBelow
namespace Go.Proofs.YtehianjfpmbfpaaGreat
set_option maxRecDepth 100000
open Go.RowKit Go.Sort
set_option linter.unusedVariables false
set_option linter.unusedSimpArgs false
attribute [local go_sem ↓] eqLc

theorem end_any (x : Ed) (w : World) :
    Calls Tryz.prog 98 #[.agg #[.int .i64 x.f, .int .i64 x.t, .int .i64 x.p]] w fun e w' => e = .returned (.agg #[.int .i64 x.t, .int .i64 x.p]) ∧ Grow w w' := by
  have G0 : Hid (Grow w ((w.alloc (.cells #[.int .i64 x.f, .int .i64 x.t, .int .i64 x.p] 61)).alloc (.cells #[.int .i64 0, .int .i64 0] 27))) := hide (Grow.trans' (Grow.alloc' _ _) (Grow.alloc' _ _))
  have hz : (w.alloc (.cells #[.int .i64 x.f, .int .i64 x.t, .int .i64 x.p] 61)).heap.size = w.heap.size + 1 := by simp
  have KR : Hid (BlkL ((w.alloc (.cells #[.int .i64 x.f, .int .i64 x.t, .int .i64 x.p] 61)).alloc (.cells #[.int .i64 0, .int .i64 0] 27)) (w.heap.size + 1)) := hide (by rw [← hz]; exact BlkL.new _)
  clear hz
  go_enter Tryz.func98, Tryz.ntmps98
  go_wp2_with (refine wpList_storeL rfl _ _ rfl (w.heap.size + 1) ⟨x.t, x.p⟩ rfl rfl KR.out ?_)
  exact bodyPost_ret (resultsL (fn := Tryz.f98) (i := 2) rfl _ _ (b := w.heap.size + 1) (t := ⟨x.t, x.p⟩) rfl (KR.out.box ⟨x.t, x.p⟩)) rfl ⟨rfl, grow_setRow G0.out (Nat.le_succ _) _⟩
theorem nextC_any (x : Ed) (i : Int) (b : Nat) {r : Bool} (hr : decide (x.f = i) = r) (w : World) (hb : w.cell? ⟨b, 0, none⟩ = some (.int .i64 i)) :
    Calls Tryz.prog 97 #[.agg #[.int .i64 x.f, .int .i64 x.t, .int .i64 x.p], .pointer (some ⟨b, 0, none⟩)] w fun e w' => e = .returned (.bool r) ∧ Grow w w' := by
  subst hr
  have hl : b < w.heap.size := World.block_lt_of_cell? _ _ hb
  go_enter Tryz.func97, Tryz.ntmps97
  go_wp2_with fail
  go_ret
  exact ⟨ret_bool (by simp), Grow.alloc' _ _⟩
set_option maxHeartbeats 4000000 in
theorem ofNext_raw (gs : Option Addr) (gn gc : Nat) (gt : Option Addr) (gm gq : Nat) (E : List Ed) (i : Int) (b : Nat) (w : World) (hm : gm ≤ 40) (hg : IsEds w gt gm gq E) (hb : w.cell? ⟨b, 0, none⟩ = some (.int .i64 i)) :
    Calls Tryz.prog 96 #[.agg #[.slice gs gn gc, .slice gt gm gq], .func (.func 97) #[] #[.pointer (some ⟨b, 0, none⟩)], .func (.func 98) #[] #[]] w fun e w' => ∃ s n c, e = .returned (.slice s n c) ∧ Grow w w' ∧ OwnL w' w.heap.size s n c (nextP E i) := by
  have GG : Hid (Grow w (w.alloc (.cells #[.slice gs gn gc, .slice gt gm gq] 25))) := hide (Grow.alloc' _ _)
  have HI := hide (hg.later GG.out)
  have HB := hide (cell_later GG.out hb)
  clear hg hb
  go_enter Tryz.func96, Tryz.ntmps96
  go_wp2_with fail
  generalize (w.alloc (.cells #[.slice gs gn gc, .slice gt gm gq] 25)) = w0 at *
  go_loopw [7, 13] (fun v ix wr => ∃ (k : Nat) (s : Option Addr) (m c : Nat), k ≤ gm ∧ m ≤ k ∧ v = .slice s m c ∧ ix = .int .i64 k ∧ Grow w0 wr ∧ OwnL wr w0.heap.size s m c (nextP (E.take k) i)) (fun _ ix _ => gm - (intOf ix).toNat)
  case atStart => exact ⟨0, none, 0, 0, Nat.zero_le _, Nat.le_refl _, rfl, rfl, Grow.rfl' _, by simpa [nextP] using OwnL.nil w0 w0.heap.size⟩
  case round =>
    obtain ⟨k, s, m, c, hk, hmk, rfl, rfl, hg, hO⟩ := hrel
    have HG := hide hg
    have HO := hide hO
    have hsz := hg.size
    by_cases hlt : k < gm
    · have hkd : k < E.length := by rw [HI.out.1]; exact hlt
      have hne : ¬ E = [] := fun h => by rw [h] at hkd; simp at hkd
      obtain ⟨be, o, rfl, hr1⟩ := HI.out.2.2.resolve_left hne
      obtain ⟨p0, p1, p2⟩ := (hr1.later hg).at k hkd
      have HS := hide (nextP_step E i k hkd)
      obtain ⟨x, hx⟩ : ∃ x, x = E[k] := ⟨_, rfl⟩
      rw [← hx] at p0 p1 p2 HS
      have hi1 : (0 : Int) ≤ (k : Int) := by omega
      have hi2 : (k : Int) < (gm : Int) := by omega
      clear hne hr1 hx hkd hg hO
      go_wp2_with (refine wpList_putE rfl _ _ rfl wr.heap.size x rfl rfl ⟨_, (MapKept.heap_alloc wr _).1, rfl⟩ wr (Grow.alloc' _ _) (Nat.le_refl _) ?_)
      intro w2 hg2 hb2
      have G2 := hide (Grow.trans' HG.out hg2)
      have O2 := hide (HO.out.later hg2)
      have KE := hide hb2
      obtain ⟨q0, q1, q2⟩ := hb2
      have hsz2 := hg2.size
      clear p0 p1 p2 hg2 HO HG
      go_wp2_with fail
      by_cases hc : x.f = i
      · have HT := hide (show nextP (E.take (k + 1)) i = nextP (E.take k) i ++ [⟨x.t, x.p⟩] by rw [HS.out, if_pos hc])
        refine (nextC_any x i b (r := true) (by simpa using hc) _ (cell_later G2.out HB.out)).mono ?_
        rintro _ w3 ⟨rfl, hb3⟩
        have G3 := hide (Grow.trans' G2.out hb3)
        have O3 := hide (O2.out.later hb3)
        obtain ⟨r0, r1, r2⟩ := KE.out.later hb3
        have hsz3 := hb3.size
        clear q0 q1 q2 hb3 G2 O2 HS KE hc
        go_wp2_with fail
        refine (end_any x _).mono ?_
        rintro _ w4 ⟨rfl, hb4⟩
        have G4 := hide (Grow.trans' G3.out hb4)
        have O4 := hide (O3.out.later hb4)
        have hsz4 := hb4.size
        clear r0 r1 r2 hb4 G3 O3
        go_wp2_with (at_builtin; refine wpList_apd_lc rfl _ _ rfl w0.heap.size s m c (nextP (E.take k) i) [⟨x.t, x.p⟩] rfl (O4.out.later (Grow.alloc' _ _)) (some ⟨w4.heap.size, 0, none⟩) 1 1 rfl (isLcs_one w4 ⟨x.t, x.p⟩) (by omega) (by simp; omega) ?_)
        intro s5 c5 w5 h5 gb
        have G5 := hide (gb.grow (Grow.trans' G4.out (Grow.alloc' _ _)) (Nat.le_refl _))
        have O5 : Hid (OwnL w5 w0.heap.size s5 (m + 1) c5 (nextP (E.take (k + 1)) i)) := hide (by rw [HT.out]; exact h5)
        clear h5 gb G4 O4 HT hsz hsz2 hsz3 hsz4
        go_wp2_with fail
        go_roundw
        case rel => exact ⟨k + 1, s5, m + 1, c5, by omega, by omega, rfl, by go_num, G5.out, O5.out⟩
        case measure => simp [intOf]; omega
      · have HT := hide (show nextP (E.take (k + 1)) i = nextP (E.take k) i by rw [HS.out, if_neg hc, List.append_nil])
        refine (nextC_any x i b (r := false) (by simpa using hc) _ (cell_later G2.out HB.out)).mono ?_
        rintro _ w3 ⟨rfl, hb3⟩
        have G3 := hide (Grow.trans' G2.out hb3)
        have O3 : Hid (OwnL w3 w0.heap.size s m c (nextP (E.take (k + 1)) i)) := hide (by rw [HT.out]; exact O2.out.later hb3)
        clear q0 q1 q2 hb3 G2 O2 HS KE hc HT
        go_wp2_with fail
        go_roundw
        case rel => exact ⟨k + 1, s, m, c, by omega, by omega, rfl, by go_num, G3.out, O3.out⟩
        case measure => simp [intOf]; omega
    · have hkn : E.take k = E := List.take_of_length_le (by rw [HI.out.1]; omega)
      have hi2 : ¬ (k : Int) < (gm : Int) := by omega
      rw [hkn] at HO
      clear hkn hO hg
      go_wp2_with fail
      go_ret
      exact ⟨s, m, c, rfl, Grow.trans' GG.out HG.out, HO.out.rebase GG.out.size⟩
set_option maxHeartbeats 1000000 in
theorem next_raw (gs : Option Addr) (gn gc : Nat) (gt : Option Addr) (gm gq : Nat) (E : List Ed) (i : Int) (w : World) (hm : gm ≤ 40) (hg : IsEds w gt gm gq E) :
    Calls Tryz.prog 80 #[.agg #[.slice gs gn gc, .slice gt gm gq], .int .i64 i] w fun e w' => ∃ s n c, e = .returned (.slice s n c) ∧ Grow w w' ∧ OwnL w' w.heap.size s n c (nextP E i) := by
  have GG : Hid (Grow w ((w.alloc (.cells #[.slice gs gn gc, .slice gt gm gq] 25)).alloc (.cells #[.int .i64 i] 3))) := hide (Grow.trans' (Grow.alloc' _ _) (Grow.alloc' _ _))
  have C := hide (ofNext_raw gs gn gc gt gm gq E i (w.heap.size + 1) ((w.alloc (.cells #[.slice gs gn gc, .slice gt gm gq] 25)).alloc (.cells #[.int .i64 i] 3)) hm (hg.later GG.out) (by simp [go_sem]))
  clear hg
  go_enter Tryz.func80, Tryz.ntmps80
  go_wp2_with fail
  refine C.out.mono ?_
  rintro _ w1 ⟨s, n, c, rfl, hb, hO⟩
  have HG := hide (Grow.trans' GG.out hb)
  have HO := hide (hO.rebase GG.out.size)
  clear hb hO
  go_wp2_with fail
  go_ret
  exact ⟨s, n, c, rfl, HG.out, HO.out⟩

end Go.Proofs.YtehianjfpmbfpaaGreat
