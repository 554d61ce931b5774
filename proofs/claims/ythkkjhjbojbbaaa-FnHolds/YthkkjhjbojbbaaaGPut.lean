/-
  What the document's own Put, Sort, Same and Join do to the world: rows in order, in new rows; what was there stays as it was.
-/
import Derived.Test.YthkkjhjbojbbaaaGCon
import Derived.Test.YthkkjhjbojbbaaaGEq
import Derived.Lib.QuietBelow
namespace Go.Proofs.Ythkkjhjbojbbaaa
set_option maxRecDepth 100000
open Go.RowKit Go.Sort
set_option linter.unusedVariables false

def sliceOff (o cap k : Nat) : Nat := if cap = k then o else o + k * 2
theorem run_sliceR (b o n cap k : Nat) (w : World) (h1 : (k : Int) ≤ (n : Int)) :
    (Instr.slice 30 (.slice (some ⟨b, o, none⟩) n cap) (some (.int .i64 (k : Int))) none none).run Try.prog w = .ok (.slice (some ⟨b, sliceOff o cap k, none⟩) (n - k) (cap - k)) w := by
  have h0 : (0 : Int) ≤ (k : Int) := by omega
  have z := Try.sizeOf23
  unfold sliceOff
  by_cases hc : cap = k
  · subst hc
    simp [go_sem, h1]
  · simp [go_sem, h1, hc]

theorem row_from {w : World} {b o : Nat} {d : List Rc} (h : RowR w b o d) (k cap : Nat) (hd : d.length ≤ cap) : RowR w b (sliceOff o cap k) (d.drop k) := by
  unfold sliceOff
  by_cases hk : cap = k
  · rw [List.drop_of_length_le (by omega)]
    intro j v hj
    simp [flatR] at hj
  · rw [if_neg hk]
    exact h.drop' k

attribute [local go_sem ↓] run_sliceR
set_option maxHeartbeats 2000000 in
theorem put_any (b o cap : Nat) (d : List Rc) (t : Rc) (w : World) (hd : d.length ≤ cap) (hbig : d.length ≤ 10000) (hr : RowR w b o d) :
    Calls Try.prog 58 #[.slice (some ⟨b, o, none⟩) d.length cap, .agg #[.int .i64 t.k, .int .i64 t.v]] w fun e w' => ∃ g cap', e = .returned (.slice (some ⟨g, 0, none⟩) (d.length + 1) cap') ∧ Grow w w' ∧ OwnR w' w.heap.size g cap' (insR d t) := by
  have HR := hide hr
  have HD := hide hd
  clear hr
  have KT := hide (Box.new w t)
  go_enter Try.func58, Try.ntmps58
  go_wp2
  go_loopw [5] (fun i wr => ∃ k : Nat, k ≤ posR d t ∧ i = .int .i64 k ∧ Grow (w.alloc (.cells #[.int .i64 t.k, .int .i64 t.v] 23)) wr) (fun i _ => posR d t - (intOf i).toNat)
  case atStart => exact ⟨0, Nat.zero_le _, rfl, Grow.rfl' _⟩
  case round =>
    obtain ⟨k, hk, rfl, hg⟩ := hrel
    have hkn : posR d t ≤ d.length := (List.takeWhile_sublist _).length_le
    by_cases hlt : k < posR d t
    · have hkd : k < d.length := by omega
      obtain ⟨p0, p1⟩ := ((HR.out.later (Grow.alloc' _ _)).later hg).at k hkd
      obtain ⟨q0, q1⟩ := KT.out.later hg
      have hP := posR_lt d t k hlt
      obtain ⟨r, hre⟩ : ∃ r, ordR d[k] t = r := ⟨_, rfl⟩
      have cO := fun dd os => Calls.regrown_of (refOrder_any d[k] t (grow (redrawn wr dd) os))
      rw [hre] at hP cO
      have CO := hide cO
      clear cO hre
      have hi1 : (0 : Int) ≤ (k : Int) := by omega
      have hi2 : (k : Int) < (d.length : Int) := by omega
      have hr0 : decide (r ≤ 0) = true := by simpa using hP
      have s0 := cell_regrown p0; have s1 := cell_regrown p1
      have u0 := cell_regrown q0; have u1 := cell_regrown q1
      go_wp2
      refine wp_region_quiet_below (by kernel_rfl) (by kernel_rfl) ?_
      repeat (go_big_quiet_step (exact CO.out _ _))
      refine wpQuiet_nil ?_
      intro _ hw'
      obtain ⟨⟨dq, osq⟩, hw''⟩ := hw'
      subst hw''
      have hb := below_regrown wr dq osq
      clear s0 s1 u0 u1 CO
      generalize grow (redrawn wr dq) osq = w2 at *
      go_wp2
      go_roundw
      case rel => exact ⟨k + 1, by omega, by go_num, Grow.trans' hg hb⟩
      case measure => simp [intOf]; omega
    · have hkp : k = posR d t := by omega
      have HK := hide hkp
      clear hlt hkp
      by_cases hkd : k < d.length
      · obtain ⟨p0, p1⟩ := ((HR.out.later (Grow.alloc' _ _)).later hg).at k hkd
        obtain ⟨q0, q1⟩ := KT.out.later hg
        have hP := posR_at d t k HK.out hkd
        obtain ⟨r, hre⟩ : ∃ r, ordR d[k] t = r := ⟨_, rfl⟩
        have cO := fun dd os => Calls.regrown_of (refOrder_any d[k] t (grow (redrawn wr dd) os))
        rw [hre] at hP cO
        have CO := hide cO
        clear cO hre
        have hi1 : (0 : Int) ≤ (k : Int) := by omega
        have hi2 : (k : Int) < (d.length : Int) := by omega
        have hr0 : decide (r ≤ 0) = false := by simpa using hP
        have s0 := cell_regrown p0; have s1 := cell_regrown p1
        have u0 := cell_regrown q0; have u1 := cell_regrown q1
        go_wp2
        refine wp_region_quiet_below (by kernel_rfl) (by kernel_rfl) ?_
        repeat (go_big_quiet_step (exact CO.out _ _))
        refine wpQuiet_nil ?_
        intro _ hw'
        obtain ⟨⟨dq, osq⟩, hw''⟩ := hw'
        subst hw''
        have hgq := hide (Grow.trans' hg (below_regrown wr dq osq))
        clear s0 s1 u0 u1 CO p0 p1 q0 q1 hg
        generalize grow (redrawn wr dq) osq = wq at *
        have hgq := hgq.out
        have hi3 : (k : Int) ≤ (d.length : Int) := by omega
        have hi4 : (0 : Int) ≤ (k : Int) := by omega
        have hi5 : (k : Int) ≤ (cap : Int) := by omega
        have hR0 : Hid (RowR (w.alloc (.cells #[.int .i64 t.k, .int .i64 t.v] 23)) b o d) := hide (HR.out.later (Grow.alloc' _ _))
        have hz0 : w.heap.size + 1 ≤ wq.heap.size := by have := hgq.size; simp at this; exact this
        go_wp2_with (at_builtin; refine wpList_app_rc rfl _ _ rfl (w.heap.size + 1) wq.heap.size 0 [] (d.drop k) 0 rfl rfl (OwnR.lit0 wq _ hz0) b (sliceOff o cap k) (d.length - k) (cap - k) rfl (by simp) (RowR.later (Grow.alloc' _ _) (row_from (RowR.later hgq hR0.out) k cap HD.out)) (by simp; omega) (by simp; omega) ?_)
        intro g1 c1 w2 O1 gb1 e1
        have G2 : Grow (w.alloc (.cells #[.int .i64 t.k, .int .i64 t.v] 23)) w2 := grow_app (Grow.trans' hgq (Grow.alloc' _ _)) gb1 (by simp; omega)
        have z2 : wq.heap.size + 1 ≤ w2.heap.size := by have := gb1.size; simpa using this
        have l1 : g1 < w2.heap.size := O1.lt
        have HO1 := hide O1
        have HG2 := hide G2
        clear gb1 e1 O1 G2
        go_wp2_with (at_builtin; refine wpList_app_rc rfl _ _ rfl (w.heap.size + 1) w2.heap.size 0 [] (d.take k) 0 rfl rfl (OwnR.lit0 w2 _ (by omega)) b o k cap rfl (by simp; omega) (RowR.later (Grow.alloc' _ _) (RowR.take' (RowR.later HG2.out hR0.out) k)) (by simp; omega) (by simp; omega) ?_)
        intro g2 c2 w3 O2 gb2 e2
        have G3 : Grow (w.alloc (.cells #[.int .i64 t.k, .int .i64 t.v] 23)) w3 := grow_app (Grow.trans' HG2.out (Grow.alloc' _ _)) gb2 (by simp; omega)
        have HO1' := hide (HO1.out.keep (w' := w3) (by rw [gb2.block g1 (by simp; omega) (by simp; omega)]; exact Below.heap_alloc _ _ _ l1))
        have z3 : w2.heap.size + 1 ≤ w3.heap.size := by have := gb2.size; simpa using this
        have n12 : g1 ≠ g2 := by omega
        have HO2 := hide O2
        have HG3 := hide G3
        obtain ⟨q0, q1⟩ := KT.out.later G3
        clear gb2 e2 O2 G3 HO1 HG2
        go_wp2_with (at_builtin; refine wpList_app_rc rfl _ _ rfl (w.heap.size + 1) g2 c2 (d.take k) [t] _ ?hn3 rfl (HO2.out.later (Grow.alloc' _ _)) w3.heap.size 0 1 1 rfl rfl (RowR_one w3 t) ?hl3 ?hb3 ?_)
        case hn3 => simp; omega
        case hl3 => simp; omega
        case hb3 => simp; omega
        intro g3 c3 w4 O3 gb3 e3
        have G4 : Grow (w.alloc (.cells #[.int .i64 t.k, .int .i64 t.v] 23)) w4 := grow_app (Grow.trans' HG3.out (Grow.alloc' _ _)) gb3 (by have := HO2.out.le; simp; omega)
        have l1' : g1 < w3.heap.size := by omega
        have O1'' := HO1'.out.keep (w' := w4) (by rw [gb3.block g1 (by simp; omega) (by simp; omega)]; exact Below.heap_alloc _ _ _ l1')
        have z4 : w3.heap.size + 1 ≤ w4.heap.size := by have := gb3.size; simpa using this
        have HO1'' := hide O1''
        have HO3 := hide O3
        have HG4 := hide G4
        clear gb3 e3 O3 G4 O1'' HO1' HO2 HG3 q0 q1
        go_wp2_with (at_builtin; refine wpList_app_rc rfl _ _ rfl (w.heap.size + 1) g3 c3 (d.take k ++ [t]) (d.drop k) _ ?hn4 rfl HO3.out g1 0 _ c1 rfl ?hm4 HO1''.out.row ?hl4 ?hb4 ?_)
        case hn4 => simp; omega
        case hm4 => simp
        case hl4 => simp; omega
        case hb4 => omega
        intro g4 c4 w5 O4 gb4 e4
        have G5 : Grow (w.alloc (.cells #[.int .i64 t.k, .int .i64 t.v] 23)) w5 := grow_app HG4.out gb4 (by have := HO3.out.le; simp; omega)
        have FIN := hide (show Grow w w5 ∧ OwnR w5 w.heap.size g4 c4 (insR d t) from ⟨Grow.trans' (Grow.alloc' _ _) G5, by rw [insR_eq, ← HK.out]; simpa using O4.rebase (Nat.le_trans (Nat.le_succ _) O4.le.1)⟩)
        clear gb4 e4 O4 G5 HO3 HO1'' HG4
        go_wp2
        go_ret
        exact ⟨g4, c4, ret_slice (by omega), FIN.out⟩
      · have hkn' : k = d.length := by omega
        have hi1 : decide ((k : Int) < (d.length : Int)) = false := by simp; omega
        have HN := hide hkn'
        clear hkn'
        go_wp2
        go_quiet (fail)
        have hgq := hide (Grow.trans' hg (below_drewN (Below.refl _ _) nq))
        clear hg
        generalize wr.drewN nq = wq at *
        have hgq := hgq.out
        have hi3 : (k : Int) ≤ (d.length : Int) := by omega
        have hi4 : (0 : Int) ≤ (k : Int) := by omega
        have hi5 : (k : Int) ≤ (cap : Int) := by omega
        have hR0 : Hid (RowR (w.alloc (.cells #[.int .i64 t.k, .int .i64 t.v] 23)) b o d) := hide (HR.out.later (Grow.alloc' _ _))
        have hz0 : w.heap.size + 1 ≤ wq.heap.size := by have := hgq.size; simp at this; exact this
        go_wp2_with (at_builtin; refine wpList_app_rc rfl _ _ rfl (w.heap.size + 1) wq.heap.size 0 [] (d.drop k) 0 rfl rfl (OwnR.lit0 wq _ hz0) b (sliceOff o cap k) (d.length - k) (cap - k) rfl (by simp) (RowR.later (Grow.alloc' _ _) (row_from (RowR.later hgq hR0.out) k cap HD.out)) (by simp; omega) (by simp; omega) ?_)
        intro g1 c1 w2 O1 gb1 e1
        have G2 : Grow (w.alloc (.cells #[.int .i64 t.k, .int .i64 t.v] 23)) w2 := grow_app (Grow.trans' hgq (Grow.alloc' _ _)) gb1 (by simp; omega)
        have z2 : wq.heap.size + 1 ≤ w2.heap.size := by have := gb1.size; simpa using this
        have l1 : g1 < w2.heap.size := O1.lt
        have HO1 := hide O1
        have HG2 := hide G2
        clear gb1 e1 O1 G2
        go_wp2_with (at_builtin; refine wpList_app_rc rfl _ _ rfl (w.heap.size + 1) w2.heap.size 0 [] (d.take k) 0 rfl rfl (OwnR.lit0 w2 _ (by omega)) b o k cap rfl (by simp; omega) (RowR.later (Grow.alloc' _ _) (RowR.take' (RowR.later HG2.out hR0.out) k)) (by simp; omega) (by simp; omega) ?_)
        intro g2 c2 w3 O2 gb2 e2
        have G3 : Grow (w.alloc (.cells #[.int .i64 t.k, .int .i64 t.v] 23)) w3 := grow_app (Grow.trans' HG2.out (Grow.alloc' _ _)) gb2 (by simp; omega)
        have HO1' := hide (HO1.out.keep (w' := w3) (by rw [gb2.block g1 (by simp; omega) (by simp; omega)]; exact Below.heap_alloc _ _ _ l1))
        have z3 : w2.heap.size + 1 ≤ w3.heap.size := by have := gb2.size; simpa using this
        have n12 : g1 ≠ g2 := by omega
        have HO2 := hide O2
        have HG3 := hide G3
        obtain ⟨q0, q1⟩ := KT.out.later G3
        clear gb2 e2 O2 G3 HO1 HG2
        go_wp2_with (at_builtin; refine wpList_app_rc rfl _ _ rfl (w.heap.size + 1) g2 c2 (d.take k) [t] _ ?hn3 rfl (HO2.out.later (Grow.alloc' _ _)) w3.heap.size 0 1 1 rfl rfl (RowR_one w3 t) ?hl3 ?hb3 ?_)
        case hn3 => simp; omega
        case hl3 => simp; omega
        case hb3 => simp; omega
        intro g3 c3 w4 O3 gb3 e3
        have G4 : Grow (w.alloc (.cells #[.int .i64 t.k, .int .i64 t.v] 23)) w4 := grow_app (Grow.trans' HG3.out (Grow.alloc' _ _)) gb3 (by have := HO2.out.le; simp; omega)
        have l1' : g1 < w3.heap.size := by omega
        have O1'' := HO1'.out.keep (w' := w4) (by rw [gb3.block g1 (by simp; omega) (by simp; omega)]; exact Below.heap_alloc _ _ _ l1')
        have z4 : w3.heap.size + 1 ≤ w4.heap.size := by have := gb3.size; simpa using this
        have HO1'' := hide O1''
        have HO3 := hide O3
        have HG4 := hide G4
        clear gb3 e3 O3 G4 O1'' HO1' HO2 HG3 q0 q1
        go_wp2_with (at_builtin; refine wpList_app_rc rfl _ _ rfl (w.heap.size + 1) g3 c3 (d.take k ++ [t]) (d.drop k) _ ?hn4 rfl HO3.out g1 0 _ c1 rfl ?hm4 HO1''.out.row ?hl4 ?hb4 ?_)
        case hn4 => simp; omega
        case hm4 => simp
        case hl4 => simp; omega
        case hb4 => omega
        intro g4 c4 w5 O4 gb4 e4
        have G5 : Grow (w.alloc (.cells #[.int .i64 t.k, .int .i64 t.v] 23)) w5 := grow_app HG4.out gb4 (by have := HO3.out.le; simp; omega)
        have FIN := hide (show Grow w w5 ∧ OwnR w5 w.heap.size g4 c4 (insR d t) from ⟨Grow.trans' (Grow.alloc' _ _) G5, by rw [insR_eq, ← HK.out]; simpa using O4.rebase (Nat.le_trans (Nat.le_succ _) O4.le.1)⟩)
        clear gb4 e4 O4 G5 HO3 HO1'' HG4
        go_wp2
        go_ret
        exact ⟨g4, c4, ret_slice (by omega), FIN.out⟩


theorem put_at (b o cap n : Nat) (d : List Rc) (t : Rc) (w : World) (hn : d.length = n) (hd : n ≤ cap) (hbig : n ≤ 10000) (hr : RowR w b o d) :
    Calls Try.prog 58 #[.slice (some ⟨b, o, none⟩) n cap, .agg #[.int .i64 t.k, .int .i64 t.v]] w fun e w' => ∃ g cap', e = .returned (.slice (some ⟨g, 0, none⟩) (n + 1) cap') ∧ Grow w w' ∧ RowR w' g 0 (insR d t) ∧ n + 1 ≤ cap' := by
  subst hn
  refine (put_any b o cap d t w hd hbig hr).mono ?_
  rintro e w' ⟨g, c', rfl, hg, hO⟩
  refine ⟨g, c', rfl, hg, hO.row, ?_⟩
  have := hO.le.2.1
  have e := insR_len d t
  omega
set_option maxHeartbeats 1000000 in
theorem refSort_at (s : Option Addr) (n cap : Nat) (d : List Rc) (w : World) (hbig : n ≤ 9000) (hd : IsRcs w s n cap d) :
    Calls Try.prog 40 #[.slice s n cap] w fun e w' => ∃ g c', e = .returned (.slice (some ⟨g, 0, none⟩) n c') ∧ Grow w w' ∧ RowR w' g 0 (srt d) ∧ n ≤ c' := by
  have HI := hide hd
  clear hd
  go_enter Try.func40, Try.ntmps40
  go_wp2_with fail
  have G0 : Hid (Grow w (w.alloc (.cells #[] 23))) := hide (Grow.alloc' _ _)
  go_loopw [3, 4] (fun v i wr => ∃ (k g c : Nat), k ≤ n ∧ v = .slice (some ⟨g, 0, none⟩) k c ∧ i = .int .i64 k ∧ Grow w wr ∧ RowR wr g 0 (srt (d.take k)) ∧ k ≤ c) (fun _ i _ => n - (intOf i).toNat)
  case atStart => exact ⟨0, _, 0, Nat.zero_le _, rfl, rfl, G0.out, fun j v hj => by simp [flatR, srt] at hj, Nat.le_refl _⟩
  case round =>
    obtain ⟨k, g, c, hk, rfl, rfl, hg, hR, hkc⟩ := hrel
    have HG := hide hg
    have HR := hide hR
    clear hR
    by_cases hlt : k < n
    · have hkd : k < d.length := by rw [HI.out.1]; exact hlt
      have hne : ¬ d = [] := fun h => by rw [h] at hkd; simp at hkd
      obtain ⟨b, o, rfl, hr1⟩ := HI.out.2.2.resolve_left hne
      obtain ⟨p0, p1⟩ := (hr1.later hg).at k hkd
      obtain ⟨x, hx⟩ : ∃ x, x = d[k] := ⟨_, rfl⟩
      rw [← hx] at p0 p1
      have HX : Hid (insR (srt (d.take k)) x = srt (d.take (k + 1))) := hide (by rw [insR_srt, hx, List.take_append_getElem])
      have hi1 : (0 : Int) ≤ (k : Int) := by omega
      have hi2 : (k : Int) < (n : Int) := by omega
      have C := hide (put_at g 0 c k (srt (d.take k)) x wr (by rw [srt_len, List.length_take]; omega) hkc (by omega) HR.out)
      clear hne hr1 hx hg hkd
      go_wp2_with fail
      refine (C.out).mono ?_
      rintro e w1 ⟨g1, c1, rfl, hb, hr, hc1⟩
      have G1 := hide (Grow.trans' HG.out hb)
      have R1 := hide hr
      clear hb hr p0 p1
      go_wp2_with fail
      go_roundw
      case rel => exact ⟨k + 1, g1, c1, by omega, by go_num, by go_num, G1.out, by rw [← HX.out]; exact R1.out, hc1⟩
      case measure => simp [intOf]; omega
    · have hkn : k = n := by omega
      subst hkn
      go_wp2_with fail
      go_ret
      exact ⟨g, c, rfl, HG.out, by have := HR.out; rwa [List.take_of_length_le (by rw [HI.out.1]; exact Nat.le_refl _)] at this, hkc⟩
theorem refSort_is (s : Option Addr) (n cap : Nat) (d : List Rc) (w : World) (hbig : n ≤ 9000) (hd : IsRcs w s n cap d) :
    Calls Try.prog 40 #[.slice s n cap] w fun e w' => ∃ s' c', e = .returned (.slice s' n c') ∧ Grow w w' ∧ IsRcs w' s' n c' (srt d) :=
  (refSort_at s n cap d w hbig hd).mono fun e w' ⟨g, c', he, hg, hr, hc⟩ => ⟨_, c', he, hg, by rw [srt_len, hd.1], hc, .inr ⟨g, 0, rfl, hr⟩⟩

end Go.Proofs.Ythkkjhjbojbbaaa
