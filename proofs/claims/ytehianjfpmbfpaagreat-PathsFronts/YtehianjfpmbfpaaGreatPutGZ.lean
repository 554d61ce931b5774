/-
  What the document's own Put does to the world: the time is laid into the row at its place, in a new row, and what was there stays as it was.
-/
import Derived.Test.YtehianjfpmbfpaaGreatRowVZ
import Derived.Test.YtehianjfpmbfpaaGreatOd
import Derived.Lib.QuietBelow
namespace Go.Proofs.YtehianjfpmbfpaaGreat
open Go.RowKit Go.Sort
set_option linter.unusedVariables false

def notBehind (t : Tm) (x : Tm) : Bool := decide (orderI x t ≤ 0)
def insT (d : List Tm) (t : Tm) : List Tm := d.takeWhile (notBehind t) ++ t :: d.dropWhile (notBehind t)
def posT (d : List Tm) (t : Tm) : Nat := (d.takeWhile (notBehind t)).length

theorem pos_lt (d : List Tm) (t : Tm) (k : Nat) (h : k < posT d t) : orderI (d[k]'(Nat.lt_of_lt_of_le h (List.takeWhile_sublist _).length_le)) t ≤ 0 := by
  have h1 : d.takeWhile (notBehind t) <+: d := List.takeWhile_prefix _
  have h2 : (d.takeWhile (notBehind t))[k]'h = d[k]'(Nat.lt_of_lt_of_le h (List.takeWhile_sublist _).length_le) := h1.getElem h
  have h3 := List.all_eq_true.1 (List.all_takeWhile (p := notBehind t) (l := d)) _ (List.getElem_mem h)
  rw [h2] at h3
  simpa [notBehind] using h3
theorem pos_at : ∀ (d : List Tm) (t : Tm) (k : Nat) (hk : k = posT d t) (h : k < d.length), 0 < orderI d[k] t
  | [], _, _, _, h => by simp at h
  | x :: l, t, k, hk, h => by
    unfold posT at hk
    rw [List.takeWhile_cons] at hk
    by_cases hp : notBehind t x = true
    · rw [if_pos hp] at hk
      simp only [List.length_cons] at hk
      subst hk
      exact pos_at l t _ rfl (by simp at h; exact h)
    · rw [if_neg hp] at hk
      simp only [List.length_nil] at hk
      subst hk
      simp [notBehind] at hp
      simpa using hp

def sliceOff (o cap k : Nat) : Nat := if cap = k then o else o + k * 5
theorem run_sliceT (b o n cap k : Nat) (w : World) (h1 : (k : Int) ≤ (n : Int)) :
    (Instr.slice 39 (.slice (some ⟨b, o, none⟩) n cap) (some (.int .i64 (k : Int))) none none).run Tryz.prog w = .ok (.slice (some ⟨b, sliceOff o cap k, none⟩) (n - k) (cap - k)) w := by
  have h0 : (0 : Int) ≤ (k : Int) := by omega
  have z := Tryz.sizeOf43
  unfold sliceOff
  by_cases hc : cap = k
  · subst hc
    simp [go_sem, h1]
  · simp [go_sem, h1, hc]

theorem row_from {w : World} {b o : Nat} {d : List Tm} (h : RowT w b o d) (k cap : Nat) (hd : d.length ≤ cap) : RowT w b (sliceOff o cap k) (d.drop k) := by
  unfold sliceOff
  by_cases hk : cap = k
  · rw [List.drop_of_length_le (by omega)]
    intro j v hj
    simp [flatT] at hj
  · rw [if_neg hk]
    exact h.drop' k

theorem ins_eq (d : List Tm) (t : Tm) : insT d t = d.take (posT d t) ++ [t] ++ d.drop (posT d t) := by
  unfold insT posT
  rw [← takeWhile_eq_take, ← dropWhile_eq_drop]
  simp
attribute [local go_sem ↓] run_sliceT
set_option maxHeartbeats 2000000 in
theorem put_any (b o cap : Nat) (d : List Tm) (t : Tm) (w : World) (hd : d.length ≤ cap) (hbig : d.length ≤ 100000000000) (hr : RowT w b o d) :
    Calls Tryz.prog 50 #[.slice (some ⟨b, o, none⟩) d.length cap, .agg #[.int .i64 t.e, .int .i64 t.d, .int .i64 t.x, .int .i64 t.y, .int .i64 t.z]] w fun e w' => ∃ g cap', e = .returned (.slice (some ⟨g, 0, none⟩) (d.length + 1) cap') ∧ Grow w w' ∧ OwnS w' w.heap.size g cap' (insT d t) := by
  have HR := hide hr
  have HD := hide hd
  clear hr
  have KT := hide (Box.new w t)
  go_enter Tryz.func50, Tryz.ntmps50
  go_wp2
  go_loopw [5] (fun i wr => ∃ k : Nat, k ≤ posT d t ∧ i = .int .i64 k ∧ Grow (w.alloc (.cells #[.int .i64 t.e, .int .i64 t.d, .int .i64 t.x, .int .i64 t.y, .int .i64 t.z] 43)) wr) (fun i _ => posT d t - (intOf i).toNat)
  case atStart => exact ⟨0, Nat.zero_le _, rfl, Grow.rfl' _⟩
  case round =>
    obtain ⟨k, hk, rfl, hg⟩ := hrel
    have hkn : posT d t ≤ d.length := (List.takeWhile_sublist _).length_le
    by_cases hlt : k < posT d t
    · have hkd : k < d.length := by omega
      obtain ⟨p0, p1, p2, p3, p4⟩ := ((HR.out.later (Grow.alloc' _ _)).later hg).at k hkd
      obtain ⟨q0, q1, q2, q3, q4⟩ := KT.out.later hg
      have hP := pos_lt d t k hlt
      obtain ⟨r, hre⟩ : ∃ r, orderI d[k] t = r := ⟨_, rfl⟩
      have cO := fun dd os => Calls.regrown_of (refOrder_any d[k] t (grow (redrawn wr dd) os))
      rw [hre] at hP cO
      have CO := hide cO
      clear cO hre
      have hi1 : (0 : Int) ≤ (k : Int) := by omega
      have hi2 : (k : Int) < (d.length : Int) := by omega
      have hr0 : decide (r ≤ 0) = true := by simpa using hP
      have s0 := cell_regrown p0; have s1 := cell_regrown p1; have s2 := cell_regrown p2; have s3 := cell_regrown p3; have s4 := cell_regrown p4
      have u0 := cell_regrown q0; have u1 := cell_regrown q1; have u2 := cell_regrown q2; have u3 := cell_regrown q3; have u4 := cell_regrown q4
      go_wp2
      refine wp_region_quiet_below (by kernel_rfl) (by kernel_rfl) ?_
      repeat (go_big_quiet_step (exact CO.out _ _))
      refine wpQuiet_nil ?_
      intro _ hw'
      obtain ⟨⟨dq, osq⟩, hw''⟩ := hw'
      subst hw''
      have hb := below_regrown wr dq osq
      clear s0 s1 s2 s3 s4 u0 u1 u2 u3 u4 CO
      generalize grow (redrawn wr dq) osq = w2 at *
      go_wp2
      go_roundw
      case rel => exact ⟨k + 1, by omega, by go_num, Grow.trans' hg hb⟩
      case measure => simp [intOf]; omega
    · have hkp : k = posT d t := by omega
      have HK := hide hkp
      clear hlt hkp
      by_cases hkd : k < d.length
      · obtain ⟨p0, p1, p2, p3, p4⟩ := ((HR.out.later (Grow.alloc' _ _)).later hg).at k hkd
        obtain ⟨q0, q1, q2, q3, q4⟩ := KT.out.later hg
        have hP := pos_at d t k HK.out hkd
        obtain ⟨r, hre⟩ : ∃ r, orderI d[k] t = r := ⟨_, rfl⟩
        have cO := fun dd os => Calls.regrown_of (refOrder_any d[k] t (grow (redrawn wr dd) os))
        rw [hre] at hP cO
        have CO := hide cO
        clear cO hre
        have hi1 : (0 : Int) ≤ (k : Int) := by omega
        have hi2 : (k : Int) < (d.length : Int) := by omega
        have hr0 : decide (r ≤ 0) = false := by simpa using hP
        have s0 := cell_regrown p0; have s1 := cell_regrown p1; have s2 := cell_regrown p2; have s3 := cell_regrown p3; have s4 := cell_regrown p4
        have u0 := cell_regrown q0; have u1 := cell_regrown q1; have u2 := cell_regrown q2; have u3 := cell_regrown q3; have u4 := cell_regrown q4
        go_wp2
        refine wp_region_quiet_below (by kernel_rfl) (by kernel_rfl) ?_
        repeat (go_big_quiet_step (exact CO.out _ _))
        refine wpQuiet_nil ?_
        intro _ hw'
        obtain ⟨⟨dq, osq⟩, hw''⟩ := hw'
        subst hw''
        have hgq := hide (Grow.trans' hg (below_regrown wr dq osq))
        clear s0 s1 s2 s3 s4 u0 u1 u2 u3 u4 CO p0 p1 p2 p3 p4 q0 q1 q2 q3 q4 hg
        generalize grow (redrawn wr dq) osq = wq at *
        have hgq := hgq.out
        have hi3 : (k : Int) ≤ (d.length : Int) := by omega
        have hi4 : (0 : Int) ≤ (k : Int) := by omega
        have hi5 : (k : Int) ≤ (cap : Int) := by omega
        have hR0 : Hid (RowT (w.alloc (.cells #[.int .i64 t.e, .int .i64 t.d, .int .i64 t.x, .int .i64 t.y, .int .i64 t.z] 43)) b o d) := hide (HR.out.later (Grow.alloc' _ _))
        have hz0 : w.heap.size + 1 ≤ wq.heap.size := by have := hgq.size; simp at this; exact this
        go_wp2_with (at_builtin; refine wpList_app_tm rfl _ _ rfl (w.heap.size + 1) wq.heap.size 0 [] (d.drop k) 0 rfl rfl (OwnS.lit0 wq _ hz0) b (sliceOff o cap k) (d.length - k) (cap - k) rfl (by simp) (RowT.later (Grow.alloc' _ _) (row_from (RowT.later hgq hR0.out) k cap HD.out)) (by simp; omega) (by simp; omega) ?_)
        intro g1 c1 w2 O1 gb1 e1
        have G2 : Grow (w.alloc (.cells #[.int .i64 t.e, .int .i64 t.d, .int .i64 t.x, .int .i64 t.y, .int .i64 t.z] 43)) w2 := grow_app (Grow.trans' hgq (Grow.alloc' _ _)) gb1 (by simp; omega)
        have z2 : wq.heap.size + 1 ≤ w2.heap.size := by have := gb1.size; simpa using this
        have l1 : g1 < w2.heap.size := O1.lt
        have HO1 := hide O1
        have HG2 := hide G2
        clear gb1 e1 O1 G2
        go_wp2_with (at_builtin; refine wpList_app_tm rfl _ _ rfl (w.heap.size + 1) w2.heap.size 0 [] (d.take k) 0 rfl rfl (OwnS.lit0 w2 _ (by omega)) b o k cap rfl (by simp; omega) (RowT.later (Grow.alloc' _ _) (RowT.take' (RowT.later HG2.out hR0.out) k)) (by simp; omega) (by simp; omega) ?_)
        intro g2 c2 w3 O2 gb2 e2
        have G3 : Grow (w.alloc (.cells #[.int .i64 t.e, .int .i64 t.d, .int .i64 t.x, .int .i64 t.y, .int .i64 t.z] 43)) w3 := grow_app (Grow.trans' HG2.out (Grow.alloc' _ _)) gb2 (by simp; omega)
        have HO1' := hide (HO1.out.keep (w' := w3) (by rw [gb2.block g1 (by simp; omega) (by simp; omega)]; exact Below.heap_alloc _ _ _ l1))
        have z3 : w2.heap.size + 1 ≤ w3.heap.size := by have := gb2.size; simpa using this
        have n12 : g1 ≠ g2 := by omega
        have HO2 := hide O2
        have HG3 := hide G3
        obtain ⟨q0, q1, q2, q3, q4⟩ := KT.out.later G3
        clear gb2 e2 O2 G3 HO1 HG2
        go_wp2_with (at_builtin; refine wpList_app_tm rfl _ _ rfl (w.heap.size + 1) g2 c2 (d.take k) [t] _ ?hn3 rfl (HO2.out.later (Grow.alloc' _ _)) w3.heap.size 0 1 1 rfl rfl (RowT_one w3 t) ?hl3 ?hb3 ?_)
        case hn3 => simp; omega
        case hl3 => simp; omega
        case hb3 => simp; omega
        intro g3 c3 w4 O3 gb3 e3
        have G4 : Grow (w.alloc (.cells #[.int .i64 t.e, .int .i64 t.d, .int .i64 t.x, .int .i64 t.y, .int .i64 t.z] 43)) w4 := grow_app (Grow.trans' HG3.out (Grow.alloc' _ _)) gb3 (by have := HO2.out.le; simp; omega)
        have l1' : g1 < w3.heap.size := by omega
        have O1'' := HO1'.out.keep (w' := w4) (by rw [gb3.block g1 (by simp; omega) (by simp; omega)]; exact Below.heap_alloc _ _ _ l1')
        have z4 : w3.heap.size + 1 ≤ w4.heap.size := by have := gb3.size; simpa using this
        have HO1'' := hide O1''
        have HO3 := hide O3
        have HG4 := hide G4
        clear gb3 e3 O3 G4 O1'' HO1' HO2 HG3 q0 q1 q2 q3 q4
        go_wp2_with (at_builtin; refine wpList_app_tm rfl _ _ rfl (w.heap.size + 1) g3 c3 (d.take k ++ [t]) (d.drop k) _ ?hn4 rfl HO3.out g1 0 _ c1 rfl ?hm4 HO1''.out.row ?hl4 ?hb4 ?_)
        case hn4 => simp; omega
        case hm4 => simp
        case hl4 => simp; omega
        case hb4 => omega
        intro g4 c4 w5 O4 gb4 e4
        have G5 : Grow (w.alloc (.cells #[.int .i64 t.e, .int .i64 t.d, .int .i64 t.x, .int .i64 t.y, .int .i64 t.z] 43)) w5 := grow_app HG4.out gb4 (by have := HO3.out.le; simp; omega)
        have FIN := hide (show Grow w w5 ∧ OwnS w5 w.heap.size g4 c4 (insT d t) from ⟨Grow.trans' (Grow.alloc' _ _) G5, by rw [ins_eq, ← HK.out]; simpa using O4.rebase (Nat.le_trans (Nat.le_succ _) O4.le.1)⟩)
        clear gb4 e4 O4 G5 HO3 HO1'' HG4
        go_wp2
        go_ret
        exact ⟨g4, c4, ret_slice (by omega), FIN.out⟩
      · have hkn' : k = d.length := by omega
        have hi1 : decide ((k : Int) < (d.length : Int)) = false := by simp; omega
        have HN := hide hkn'
        clear hkn'
        go_wp2
        go_quiet (fail)
        have hgq := hide (Grow.trans' hg (below_drewN (Below.refl _ _) nq))
        clear hg
        generalize wr.drewN nq = wq at *
        have hgq := hgq.out
        have hi3 : (k : Int) ≤ (d.length : Int) := by omega
        have hi4 : (0 : Int) ≤ (k : Int) := by omega
        have hi5 : (k : Int) ≤ (cap : Int) := by omega
        have hR0 : Hid (RowT (w.alloc (.cells #[.int .i64 t.e, .int .i64 t.d, .int .i64 t.x, .int .i64 t.y, .int .i64 t.z] 43)) b o d) := hide (HR.out.later (Grow.alloc' _ _))
        have hz0 : w.heap.size + 1 ≤ wq.heap.size := by have := hgq.size; simp at this; exact this
        go_wp2_with (at_builtin; refine wpList_app_tm rfl _ _ rfl (w.heap.size + 1) wq.heap.size 0 [] (d.drop k) 0 rfl rfl (OwnS.lit0 wq _ hz0) b (sliceOff o cap k) (d.length - k) (cap - k) rfl (by simp) (RowT.later (Grow.alloc' _ _) (row_from (RowT.later hgq hR0.out) k cap HD.out)) (by simp; omega) (by simp; omega) ?_)
        intro g1 c1 w2 O1 gb1 e1
        have G2 : Grow (w.alloc (.cells #[.int .i64 t.e, .int .i64 t.d, .int .i64 t.x, .int .i64 t.y, .int .i64 t.z] 43)) w2 := grow_app (Grow.trans' hgq (Grow.alloc' _ _)) gb1 (by simp; omega)
        have z2 : wq.heap.size + 1 ≤ w2.heap.size := by have := gb1.size; simpa using this
        have l1 : g1 < w2.heap.size := O1.lt
        have HO1 := hide O1
        have HG2 := hide G2
        clear gb1 e1 O1 G2
        go_wp2_with (at_builtin; refine wpList_app_tm rfl _ _ rfl (w.heap.size + 1) w2.heap.size 0 [] (d.take k) 0 rfl rfl (OwnS.lit0 w2 _ (by omega)) b o k cap rfl (by simp; omega) (RowT.later (Grow.alloc' _ _) (RowT.take' (RowT.later HG2.out hR0.out) k)) (by simp; omega) (by simp; omega) ?_)
        intro g2 c2 w3 O2 gb2 e2
        have G3 : Grow (w.alloc (.cells #[.int .i64 t.e, .int .i64 t.d, .int .i64 t.x, .int .i64 t.y, .int .i64 t.z] 43)) w3 := grow_app (Grow.trans' HG2.out (Grow.alloc' _ _)) gb2 (by simp; omega)
        have HO1' := hide (HO1.out.keep (w' := w3) (by rw [gb2.block g1 (by simp; omega) (by simp; omega)]; exact Below.heap_alloc _ _ _ l1))
        have z3 : w2.heap.size + 1 ≤ w3.heap.size := by have := gb2.size; simpa using this
        have n12 : g1 ≠ g2 := by omega
        have HO2 := hide O2
        have HG3 := hide G3
        obtain ⟨q0, q1, q2, q3, q4⟩ := KT.out.later G3
        clear gb2 e2 O2 G3 HO1 HG2
        go_wp2_with (at_builtin; refine wpList_app_tm rfl _ _ rfl (w.heap.size + 1) g2 c2 (d.take k) [t] _ ?hn3 rfl (HO2.out.later (Grow.alloc' _ _)) w3.heap.size 0 1 1 rfl rfl (RowT_one w3 t) ?hl3 ?hb3 ?_)
        case hn3 => simp; omega
        case hl3 => simp; omega
        case hb3 => simp; omega
        intro g3 c3 w4 O3 gb3 e3
        have G4 : Grow (w.alloc (.cells #[.int .i64 t.e, .int .i64 t.d, .int .i64 t.x, .int .i64 t.y, .int .i64 t.z] 43)) w4 := grow_app (Grow.trans' HG3.out (Grow.alloc' _ _)) gb3 (by have := HO2.out.le; simp; omega)
        have l1' : g1 < w3.heap.size := by omega
        have O1'' := HO1'.out.keep (w' := w4) (by rw [gb3.block g1 (by simp; omega) (by simp; omega)]; exact Below.heap_alloc _ _ _ l1')
        have z4 : w3.heap.size + 1 ≤ w4.heap.size := by have := gb3.size; simpa using this
        have HO1'' := hide O1''
        have HO3 := hide O3
        have HG4 := hide G4
        clear gb3 e3 O3 G4 O1'' HO1' HO2 HG3 q0 q1 q2 q3 q4
        go_wp2_with (at_builtin; refine wpList_app_tm rfl _ _ rfl (w.heap.size + 1) g3 c3 (d.take k ++ [t]) (d.drop k) _ ?hn4 rfl HO3.out g1 0 _ c1 rfl ?hm4 HO1''.out.row ?hl4 ?hb4 ?_)
        case hn4 => simp; omega
        case hm4 => simp
        case hl4 => simp; omega
        case hb4 => omega
        intro g4 c4 w5 O4 gb4 e4
        have G5 : Grow (w.alloc (.cells #[.int .i64 t.e, .int .i64 t.d, .int .i64 t.x, .int .i64 t.y, .int .i64 t.z] 43)) w5 := grow_app HG4.out gb4 (by have := HO3.out.le; simp; omega)
        have FIN := hide (show Grow w w5 ∧ OwnS w5 w.heap.size g4 c4 (insT d t) from ⟨Grow.trans' (Grow.alloc' _ _) G5, by rw [ins_eq, ← HK.out]; simpa using O4.rebase (Nat.le_trans (Nat.le_succ _) O4.le.1)⟩)
        clear gb4 e4 O4 G5 HO3 HO1'' HG4
        go_wp2
        go_ret
        exact ⟨g4, c4, ret_slice (by omega), FIN.out⟩
end Go.Proofs.YtehianjfpmbfpaaGreat
