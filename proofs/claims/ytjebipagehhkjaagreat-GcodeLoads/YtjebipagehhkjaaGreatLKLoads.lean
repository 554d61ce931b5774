/-
  GcodeLoads: for all bytes (the first 1000): they are loaded just if they are taken as a graph that is accepted, and then they are just what is laid down of it; the call returns true and leaves its argument as it was. No conditions.
-/
import Derived.Test.YtjebipagehhkjaaGreatKTd
namespace Go.Proofs.YtjebipagehhkjaaGreat
set_option maxRecDepth 100000
open Go.ChangeShapes Go.WideShapes Go.ChangeAt Go.RowKit Go.Deep Go.Sort
set_option linter.unusedVariables false
set_option linter.unusedSimpArgs false

set_option maxHeartbeats 8000000 in
theorem loads_no_0 (s : Option Addr) (n c : Nat) (d : List UInt8) (w : World) (h0 : ¬ 1000 < n) (hc : n ≤ c) (hI : IsBy w s n c d) (hy : isB10 d = false) :
    Calls Tryz.prog 4 #[.slice s n c] w fun r w' => r = .returned (.bool true) ∧ Grow w w' := by
  have i1 : ¬ (1000 : Int) < (n : Int) := by omega
  have HNB : Hid (n ≤ 1000) := hide (by omega)
  have HI := hide hI
  have HY := hide hy
  have HE : Hid (ldE d = 2) := hide (by unfold ldE; rw [if_neg (by rw [hy]; decide)])
  clear hy
  clear hI h0 hc
  go_enter Tryz.func4, Tryz.ntmps4
  go_wp2_with fail
  refine (shown_any _).mono ?_
  rintro _ w1 ⟨rfl, hb⟩
  have G1 := hide hb
  clear hb
  go_wp2_with (at_builtin; refine wpList_apd_by byT rfl _ _ rfl w1.heap.size (some ⟨w1.heap.size, 0, none⟩) 0 0 [] d rfl (OwnU.lit w1 _ _ (Nat.le_refl _) [] #[] rfl 0 rfl (by omega)) s n c rfl ((HI.out.later G1.out).later (Grow.alloc' _ _)) (by have := HNB.out; omega) (by simp) ?_)
  intro sa1 ca1 wa1 hO hg
  have OA1 := hide hO.is
  have HA1 := hide (hg.grow (W := w1) (Grow.alloc' _ _) (Nat.le_refl _))
  clear hO hg
  clear i1
  go_wp2_with fail
  refine (take_any sa1 n ca1 d wa1 OA1.out).mono ?_
  rintro _ wb1 ⟨hg, ⟨hyes, s1, c1, t1, q1, rfl, hN, hE⟩ | ⟨hno, rfl⟩⟩
  · rw [HY.out] at hyes; cases hyes
  clear hno
  have XG1 : Hid (Grow w1 (wb1.alloc (.cells #[.slice none 0 0, .slice none 0 0] 27))) := hide (Grow.trans' (Grow.trans' HA1.out hg) (Grow.alloc' _ _))
  have XB1 : Hid (BoxG (wb1.alloc (.cells #[.slice none 0 0, .slice none 0 0] 27)) wb1.heap.size ⟨none, 0, 0, none, 0, 0, [], []⟩) := hide (BoxG.new wb1 ⟨none, 0, 0, none, 0, 0, [], []⟩)
  clear hg OA1 HA1
  go_upto_region 5 with fail
  generalize wb1.alloc (.cells #[.slice none 0 0, .slice none 0 0] 27) = w2 at *
  generalize wb1.heap.size = Q1 at *
  have G2 := hide (Grow.trans' G1.out XG1.out)
  go_wp2_with (at_builtin; refine wpList_apd_by byT rfl _ _ rfl w2.heap.size (some ⟨w2.heap.size, 0, none⟩) 0 0 [] d rfl (OwnU.lit w2 _ _ (Nat.le_refl _) [] #[] rfl 0 rfl (by omega)) s n c rfl ((HI.out.later G2.out).later (Grow.alloc' _ _)) (by have := HNB.out; omega) (by simp) ?_)
  intro sa2 ca2 wa2 hO hg
  have OA2 := hide hO.is
  have HA2 := hide (hg.grow (W := w2) (Grow.alloc' _ _) (Nat.le_refl _))
  clear hO hg
  go_wp2_with fail
  refine (load_any sa2 n ca2 d wa2 (by have := HNB.out; omega) OA2.out).mono ?_
  rintro _ wb2 ⟨hg, ⟨h0, hyes, s2, c2, t2, q2, rfl, hN, hE⟩ | ⟨h0, rfl⟩⟩
  · rw [HE.out] at h0; cases h0
  clear h0
  have XG2 : Hid (Grow w2 (wb2.alloc (.cells #[.slice none 0 0, .slice none 0 0] 27))) := hide (Grow.trans' (Grow.trans' HA2.out hg) (Grow.alloc' _ _))
  have XB2 : Hid (BoxG (wb2.alloc (.cells #[.slice none 0 0, .slice none 0 0] 27)) wb2.heap.size ⟨none, 0, 0, none, 0, 0, [], []⟩) := hide (BoxG.new wb2 ⟨none, 0, 0, none, 0, 0, [], []⟩)
  clear hg OA2 HA2
  rw [HE.out]
  go_upto_region 6 with fail
  generalize wb2.alloc (.cells #[.slice none 0 0, .slice none 0 0] 27) = w3 at *
  generalize wb2.heap.size = Q2 at *
  have G3 := hide (Grow.trans' G2.out XG2.out)
  obtain ⟨a0, a1⟩ := XB2.out
  dsimp only at a0 a1
  go_wp2_with fail
  go_ret
  exact ⟨rfl, G3.out⟩
set_option maxHeartbeats 8000000 in
theorem loads_no_1 (s : Option Addr) (n c : Nat) (d : List UInt8) (w : World) (h0 : 1000 < n) (hc : n ≤ c) (hI : IsBy w s 1000 c d) (hy : isB10 d = false) :
    Calls Tryz.prog 4 #[.slice s n c] w fun r w' => r = .returned (.bool true) ∧ Grow w w' := by
  have i1 : (1000 : Int) < (n : Int) := by omega
  have kh : ∀ w, (Instr.slice 22 (.slice s n c) none (some (.int .i64 1000)) none).run Tryz.prog w = .ok (.slice s 1000 c) w := fun w => run_headU s n c 1000 w (by omega)
  have HNB : Hid (1000 ≤ 1000) := hide (by omega)
  have HI := hide hI
  have HY := hide hy
  have HE : Hid (ldE d = 2) := hide (by unfold ldE; rw [if_neg (by rw [hy]; decide)])
  clear hy
  clear hI h0 hc
  go_enter Tryz.func4, Tryz.ntmps4
  go_wp2_with fail
  refine (shown_any _).mono ?_
  rintro _ w1 ⟨rfl, hb⟩
  have G1 := hide hb
  clear hb
  go_wp2_with (at_builtin; refine wpList_apd_by byT rfl _ _ rfl w1.heap.size (some ⟨w1.heap.size, 0, none⟩) 0 0 [] d rfl (OwnU.lit w1 _ _ (Nat.le_refl _) [] #[] rfl 0 rfl (by omega)) s 1000 c rfl ((HI.out.later G1.out).later (Grow.alloc' _ _)) (by have := HNB.out; omega) (by simp) ?_)
  intro sa1 ca1 wa1 hO hg
  have OA1 := hide hO.is
  have HA1 := hide (hg.grow (W := w1) (Grow.alloc' _ _) (Nat.le_refl _))
  clear hO hg
  clear kh
  clear i1
  go_wp2_with fail
  refine (take_any sa1 1000 ca1 d wa1 OA1.out).mono ?_
  rintro _ wb1 ⟨hg, ⟨hyes, s1, c1, t1, q1, rfl, hN, hE⟩ | ⟨hno, rfl⟩⟩
  · rw [HY.out] at hyes; cases hyes
  clear hno
  have XG1 : Hid (Grow w1 (wb1.alloc (.cells #[.slice none 0 0, .slice none 0 0] 27))) := hide (Grow.trans' (Grow.trans' HA1.out hg) (Grow.alloc' _ _))
  have XB1 : Hid (BoxG (wb1.alloc (.cells #[.slice none 0 0, .slice none 0 0] 27)) wb1.heap.size ⟨none, 0, 0, none, 0, 0, [], []⟩) := hide (BoxG.new wb1 ⟨none, 0, 0, none, 0, 0, [], []⟩)
  clear hg OA1 HA1
  go_upto_region 5 with fail
  generalize wb1.alloc (.cells #[.slice none 0 0, .slice none 0 0] 27) = w2 at *
  generalize wb1.heap.size = Q1 at *
  have G2 := hide (Grow.trans' G1.out XG1.out)
  go_wp2_with (at_builtin; refine wpList_apd_by byT rfl _ _ rfl w2.heap.size (some ⟨w2.heap.size, 0, none⟩) 0 0 [] d rfl (OwnU.lit w2 _ _ (Nat.le_refl _) [] #[] rfl 0 rfl (by omega)) s 1000 c rfl ((HI.out.later G2.out).later (Grow.alloc' _ _)) (by have := HNB.out; omega) (by simp) ?_)
  intro sa2 ca2 wa2 hO hg
  have OA2 := hide hO.is
  have HA2 := hide (hg.grow (W := w2) (Grow.alloc' _ _) (Nat.le_refl _))
  clear hO hg
  go_wp2_with fail
  refine (load_any sa2 1000 ca2 d wa2 (by have := HNB.out; omega) OA2.out).mono ?_
  rintro _ wb2 ⟨hg, ⟨h0, hyes, s2, c2, t2, q2, rfl, hN, hE⟩ | ⟨h0, rfl⟩⟩
  · rw [HE.out] at h0; cases h0
  clear h0
  have XG2 : Hid (Grow w2 (wb2.alloc (.cells #[.slice none 0 0, .slice none 0 0] 27))) := hide (Grow.trans' (Grow.trans' HA2.out hg) (Grow.alloc' _ _))
  have XB2 : Hid (BoxG (wb2.alloc (.cells #[.slice none 0 0, .slice none 0 0] 27)) wb2.heap.size ⟨none, 0, 0, none, 0, 0, [], []⟩) := hide (BoxG.new wb2 ⟨none, 0, 0, none, 0, 0, [], []⟩)
  clear hg OA2 HA2
  rw [HE.out]
  go_upto_region 6 with fail
  generalize wb2.alloc (.cells #[.slice none 0 0, .slice none 0 0] 27) = w3 at *
  generalize wb2.heap.size = Q2 at *
  have G3 := hide (Grow.trans' G2.out XG2.out)
  obtain ⟨a0, a1⟩ := XB2.out
  dsimp only at a0 a1
  go_wp2_with fail
  go_ret
  exact ⟨rfl, G3.out⟩
set_option maxHeartbeats 8000000 in
theorem loads_r0_0 (s : Option Addr) (n c : Nat) (d : List UInt8) (w : World) (h0 : ¬ 1000 < n) (hc : n ≤ c) (hI : IsBy w s n c d) (hy : isB10 d = true) (hr : errG (tkN d) (tkE d) = 0) :
    Calls Tryz.prog 4 #[.slice s n c] w fun r w' => r = .returned (.bool true) ∧ Grow w w' := by
  have i1 : ¬ (1000 : Int) < (n : Int) := by omega
  have HNB : Hid (n ≤ 1000) := hide (by omega)
  have HI := hide hI
  have HY := hide hy
  have HE : Hid (ldE d = 0) := hide (by unfold ldE; rw [if_pos hy]; exact hr)
  have HR := hide hr
  clear hy hr
  have PN : Hid (nn d ≤ 255) := hide (by have := (atB d 2).toNat_lt; unfold nn; omega)
  have PE : Hid (ne d ≤ 255) := hide (by have := (atB d (3 + 6 * nn d)).toNat_lt; unfold ne; omega)
  clear hI h0 hc
  go_enter Tryz.func4, Tryz.ntmps4
  go_wp2_with fail
  refine (shown_any _).mono ?_
  rintro _ w1 ⟨rfl, hb⟩
  have G1 := hide hb
  clear hb
  go_wp2_with (at_builtin; refine wpList_apd_by byT rfl _ _ rfl w1.heap.size (some ⟨w1.heap.size, 0, none⟩) 0 0 [] d rfl (OwnU.lit w1 _ _ (Nat.le_refl _) [] #[] rfl 0 rfl (by omega)) s n c rfl ((HI.out.later G1.out).later (Grow.alloc' _ _)) (by have := HNB.out; omega) (by simp) ?_)
  intro sa1 ca1 wa1 hO hg
  have OA1 := hide hO.is
  have HA1 := hide (hg.grow (W := w1) (Grow.alloc' _ _) (Nat.le_refl _))
  clear hO hg
  clear i1
  go_wp2_with fail
  refine (take_any sa1 n ca1 d wa1 OA1.out).mono ?_
  rintro _ wb1 ⟨hg, ⟨hyes, s1, c1, t1, q1, rfl, hN, hE⟩ | ⟨hno, rfl⟩⟩
  rotate_left
  · rw [HY.out] at hno; cases hno
  clear hyes
  have XN1 := hide (hN.is.later (Grow.alloc' wb1 (.cells #[.slice s1 (nn d) c1, .slice t1 (ne d) q1] 27)))
  have XE1 := hide (hE.is.later (Grow.alloc' wb1 (.cells #[.slice s1 (nn d) c1, .slice t1 (ne d) q1] 27)))
  have XG1 : Hid (Grow w1 (wb1.alloc (.cells #[.slice s1 (nn d) c1, .slice t1 (ne d) q1] 27))) := hide (Grow.trans' (Grow.trans' HA1.out hg) (Grow.alloc' _ _))
  have XB1 : Hid (BoxG (wb1.alloc (.cells #[.slice s1 (nn d) c1, .slice t1 (ne d) q1] 27)) wb1.heap.size ⟨s1, nn d, c1, t1, ne d, q1, [], []⟩) := hide (BoxG.new wb1 ⟨s1, nn d, c1, t1, ne d, q1, [], []⟩)
  clear hg OA1 HA1 hN hE
  go_upto_region 5 with fail
  generalize wb1.alloc (.cells #[.slice s1 (nn d) c1, .slice t1 (ne d) q1] 27) = w2 at *
  generalize wb1.heap.size = Q1 at *
  have G2 := hide (Grow.trans' G1.out XG1.out)
  go_wp2_with (at_builtin; refine wpList_apd_by byT rfl _ _ rfl w2.heap.size (some ⟨w2.heap.size, 0, none⟩) 0 0 [] d rfl (OwnU.lit w2 _ _ (Nat.le_refl _) [] #[] rfl 0 rfl (by omega)) s n c rfl ((HI.out.later G2.out).later (Grow.alloc' _ _)) (by have := HNB.out; omega) (by simp) ?_)
  intro sa2 ca2 wa2 hO hg
  have OA2 := hide hO.is
  have HA2 := hide (hg.grow (W := w2) (Grow.alloc' _ _) (Nat.le_refl _))
  clear hO hg
  go_wp2_with fail
  refine (load_any sa2 n ca2 d wa2 (by have := HNB.out; omega) OA2.out).mono ?_
  rintro _ wb2 ⟨hg, ⟨h0, hyes, s2, c2, t2, q2, rfl, hN, hE⟩ | ⟨h0, rfl⟩⟩
  rotate_left
  · exact absurd HE.out h0
  clear hyes h0
  have XN2 := hide (hN.later (Grow.alloc' wb2 (.cells #[.slice s2 (nn d) c2, .slice t2 (ne d) q2] 27)))
  have XE2 := hide (hE.later (Grow.alloc' wb2 (.cells #[.slice s2 (nn d) c2, .slice t2 (ne d) q2] 27)))
  have XG2 : Hid (Grow w2 (wb2.alloc (.cells #[.slice s2 (nn d) c2, .slice t2 (ne d) q2] 27))) := hide (Grow.trans' (Grow.trans' HA2.out hg) (Grow.alloc' _ _))
  have XB2 : Hid (BoxG (wb2.alloc (.cells #[.slice s2 (nn d) c2, .slice t2 (ne d) q2] 27)) wb2.heap.size ⟨s2, nn d, c2, t2, ne d, q2, [], []⟩) := hide (BoxG.new wb2 ⟨s2, nn d, c2, t2, ne d, q2, [], []⟩)
  clear hg OA2 HA2 hN hE
  go_upto_region 6 with fail
  generalize wb2.alloc (.cells #[.slice s2 (nn d) c2, .slice t2 (ne d) q2] 27) = w3 at *
  generalize wb2.heap.size = Q2 at *
  have G3 := hide (Grow.trans' G2.out XG2.out)
  have Y1 := hide XG2.out
  obtain ⟨a0, a1⟩ := XB1.out.later Y1.out
  obtain ⟨b0, b1⟩ := XB2.out
  dsimp only at a0 a1 b0 b1
  have CS := hide (same_any s1 (nn d) c1 t1 (ne d) q1 (tkN d) (tkE d) s2 (nn d) c2 t2 (ne d) q2 (tkN d) (tkE d) w3 (by have := PN.out; omega) (by have := PE.out; omega) (XN1.out.later Y1.out) (XE1.out.later Y1.out) XN2.out XE2.out (sameG_self _ _))
  go_wp2_with fail
  refine CS.out.mono ?_
  rintro _ w4 ⟨rfl, hg⟩
  have Y2 := hide (Grow.trans' Y1.out hg)
  have G4 := hide (Grow.trans' G3.out hg)
  obtain ⟨d0, d1⟩ := XB1.out.later Y2.out
  dsimp only at d0 d1
  clear hg a0 a1 b0 b1 CS
  have CP := hide (put_any s1 (nn d) c1 t1 (ne d) q1 (tkN d) (tkE d) w4 (by have := PN.out; omega) (by have := PE.out; omega) (XN1.out.later Y2.out) (XE1.out.later Y2.out))
  go_wp2_with fail
  refine CP.out.mono ?_
  rintro _ w5 ⟨hg, ⟨_, sp, np, cp, rfl, hp⟩ | ⟨hno, _⟩⟩
  rotate_left
  · rw [tk_fit d] at hno; cases hno
  rw [put_take HY.out] at hp
  have Y3 := hide (Grow.trans' Y2.out hg)
  have G5 := hide (Grow.trans' G4.out hg)
  have HP := hide hp
  obtain ⟨f0, f1⟩ := XB1.out.later Y3.out
  dsimp only at f0 f1
  clear hg hp d0 d1 CP
  have CR := hide (rgraph_any s1 (nn d) c1 t1 (ne d) q1 (tkN d) (tkE d) w5 (XN1.out.later Y3.out) (XE1.out.later Y3.out) HR.out)
  skip
  go_wp2_with fail
  refine CR.out.mono ?_
  rintro _ w6 ⟨rfl, hg⟩
  have G6 := hide (Grow.trans' G5.out hg)
  have kc := str_of byT Tryz.underlying9 w6 sp np cp d (HP.out.later hg)
  have kc' := str_of byT Tryz.underlying9 w6 s n c d (HI.out.later G6.out)
  clear hg f0 f1 CR
  go_wp2_with fail
  go_ret
  exact ⟨ret_bool (by simp), G6.out⟩
set_option maxHeartbeats 8000000 in
theorem loads_r0_1 (s : Option Addr) (n c : Nat) (d : List UInt8) (w : World) (h0 : 1000 < n) (hc : n ≤ c) (hI : IsBy w s 1000 c d) (hy : isB10 d = true) (hr : errG (tkN d) (tkE d) = 0) :
    Calls Tryz.prog 4 #[.slice s n c] w fun r w' => r = .returned (.bool true) ∧ Grow w w' := by
  have i1 : (1000 : Int) < (n : Int) := by omega
  have kh : ∀ w, (Instr.slice 22 (.slice s n c) none (some (.int .i64 1000)) none).run Tryz.prog w = .ok (.slice s 1000 c) w := fun w => run_headU s n c 1000 w (by omega)
  have HNB : Hid (1000 ≤ 1000) := hide (by omega)
  have HI := hide hI
  have HY := hide hy
  have HE : Hid (ldE d = 0) := hide (by unfold ldE; rw [if_pos hy]; exact hr)
  have HR := hide hr
  clear hy hr
  have PN : Hid (nn d ≤ 255) := hide (by have := (atB d 2).toNat_lt; unfold nn; omega)
  have PE : Hid (ne d ≤ 255) := hide (by have := (atB d (3 + 6 * nn d)).toNat_lt; unfold ne; omega)
  clear hI h0 hc
  go_enter Tryz.func4, Tryz.ntmps4
  go_wp2_with fail
  refine (shown_any _).mono ?_
  rintro _ w1 ⟨rfl, hb⟩
  have G1 := hide hb
  clear hb
  go_wp2_with (at_builtin; refine wpList_apd_by byT rfl _ _ rfl w1.heap.size (some ⟨w1.heap.size, 0, none⟩) 0 0 [] d rfl (OwnU.lit w1 _ _ (Nat.le_refl _) [] #[] rfl 0 rfl (by omega)) s 1000 c rfl ((HI.out.later G1.out).later (Grow.alloc' _ _)) (by have := HNB.out; omega) (by simp) ?_)
  intro sa1 ca1 wa1 hO hg
  have OA1 := hide hO.is
  have HA1 := hide (hg.grow (W := w1) (Grow.alloc' _ _) (Nat.le_refl _))
  clear hO hg
  clear kh
  clear i1
  go_wp2_with fail
  refine (take_any sa1 1000 ca1 d wa1 OA1.out).mono ?_
  rintro _ wb1 ⟨hg, ⟨hyes, s1, c1, t1, q1, rfl, hN, hE⟩ | ⟨hno, rfl⟩⟩
  rotate_left
  · rw [HY.out] at hno; cases hno
  clear hyes
  have XN1 := hide (hN.is.later (Grow.alloc' wb1 (.cells #[.slice s1 (nn d) c1, .slice t1 (ne d) q1] 27)))
  have XE1 := hide (hE.is.later (Grow.alloc' wb1 (.cells #[.slice s1 (nn d) c1, .slice t1 (ne d) q1] 27)))
  have XG1 : Hid (Grow w1 (wb1.alloc (.cells #[.slice s1 (nn d) c1, .slice t1 (ne d) q1] 27))) := hide (Grow.trans' (Grow.trans' HA1.out hg) (Grow.alloc' _ _))
  have XB1 : Hid (BoxG (wb1.alloc (.cells #[.slice s1 (nn d) c1, .slice t1 (ne d) q1] 27)) wb1.heap.size ⟨s1, nn d, c1, t1, ne d, q1, [], []⟩) := hide (BoxG.new wb1 ⟨s1, nn d, c1, t1, ne d, q1, [], []⟩)
  clear hg OA1 HA1 hN hE
  go_upto_region 5 with fail
  generalize wb1.alloc (.cells #[.slice s1 (nn d) c1, .slice t1 (ne d) q1] 27) = w2 at *
  generalize wb1.heap.size = Q1 at *
  have G2 := hide (Grow.trans' G1.out XG1.out)
  go_wp2_with (at_builtin; refine wpList_apd_by byT rfl _ _ rfl w2.heap.size (some ⟨w2.heap.size, 0, none⟩) 0 0 [] d rfl (OwnU.lit w2 _ _ (Nat.le_refl _) [] #[] rfl 0 rfl (by omega)) s 1000 c rfl ((HI.out.later G2.out).later (Grow.alloc' _ _)) (by have := HNB.out; omega) (by simp) ?_)
  intro sa2 ca2 wa2 hO hg
  have OA2 := hide hO.is
  have HA2 := hide (hg.grow (W := w2) (Grow.alloc' _ _) (Nat.le_refl _))
  clear hO hg
  go_wp2_with fail
  refine (load_any sa2 1000 ca2 d wa2 (by have := HNB.out; omega) OA2.out).mono ?_
  rintro _ wb2 ⟨hg, ⟨h0, hyes, s2, c2, t2, q2, rfl, hN, hE⟩ | ⟨h0, rfl⟩⟩
  rotate_left
  · exact absurd HE.out h0
  clear hyes h0
  have XN2 := hide (hN.later (Grow.alloc' wb2 (.cells #[.slice s2 (nn d) c2, .slice t2 (ne d) q2] 27)))
  have XE2 := hide (hE.later (Grow.alloc' wb2 (.cells #[.slice s2 (nn d) c2, .slice t2 (ne d) q2] 27)))
  have XG2 : Hid (Grow w2 (wb2.alloc (.cells #[.slice s2 (nn d) c2, .slice t2 (ne d) q2] 27))) := hide (Grow.trans' (Grow.trans' HA2.out hg) (Grow.alloc' _ _))
  have XB2 : Hid (BoxG (wb2.alloc (.cells #[.slice s2 (nn d) c2, .slice t2 (ne d) q2] 27)) wb2.heap.size ⟨s2, nn d, c2, t2, ne d, q2, [], []⟩) := hide (BoxG.new wb2 ⟨s2, nn d, c2, t2, ne d, q2, [], []⟩)
  clear hg OA2 HA2 hN hE
  go_upto_region 6 with fail
  generalize wb2.alloc (.cells #[.slice s2 (nn d) c2, .slice t2 (ne d) q2] 27) = w3 at *
  generalize wb2.heap.size = Q2 at *
  have G3 := hide (Grow.trans' G2.out XG2.out)
  have Y1 := hide XG2.out
  obtain ⟨a0, a1⟩ := XB1.out.later Y1.out
  obtain ⟨b0, b1⟩ := XB2.out
  dsimp only at a0 a1 b0 b1
  have CS := hide (same_any s1 (nn d) c1 t1 (ne d) q1 (tkN d) (tkE d) s2 (nn d) c2 t2 (ne d) q2 (tkN d) (tkE d) w3 (by have := PN.out; omega) (by have := PE.out; omega) (XN1.out.later Y1.out) (XE1.out.later Y1.out) XN2.out XE2.out (sameG_self _ _))
  go_wp2_with fail
  refine CS.out.mono ?_
  rintro _ w4 ⟨rfl, hg⟩
  have Y2 := hide (Grow.trans' Y1.out hg)
  have G4 := hide (Grow.trans' G3.out hg)
  obtain ⟨d0, d1⟩ := XB1.out.later Y2.out
  dsimp only at d0 d1
  clear hg a0 a1 b0 b1 CS
  have CP := hide (put_any s1 (nn d) c1 t1 (ne d) q1 (tkN d) (tkE d) w4 (by have := PN.out; omega) (by have := PE.out; omega) (XN1.out.later Y2.out) (XE1.out.later Y2.out))
  go_wp2_with fail
  refine CP.out.mono ?_
  rintro _ w5 ⟨hg, ⟨_, sp, np, cp, rfl, hp⟩ | ⟨hno, _⟩⟩
  rotate_left
  · rw [tk_fit d] at hno; cases hno
  rw [put_take HY.out] at hp
  have Y3 := hide (Grow.trans' Y2.out hg)
  have G5 := hide (Grow.trans' G4.out hg)
  have HP := hide hp
  obtain ⟨f0, f1⟩ := XB1.out.later Y3.out
  dsimp only at f0 f1
  clear hg hp d0 d1 CP
  have CR := hide (rgraph_any s1 (nn d) c1 t1 (ne d) q1 (tkN d) (tkE d) w5 (XN1.out.later Y3.out) (XE1.out.later Y3.out) HR.out)
  skip
  go_wp2_with fail
  refine CR.out.mono ?_
  rintro _ w6 ⟨rfl, hg⟩
  have G6 := hide (Grow.trans' G5.out hg)
  have kc := str_of byT Tryz.underlying9 w6 sp np cp d (HP.out.later hg)
  have kc' := str_of byT Tryz.underlying9 w6 s 1000 c d (HI.out.later G6.out)
  clear hg f0 f1 CR
  go_wp2_with fail
  go_ret
  exact ⟨ret_bool (by simp), G6.out⟩
set_option maxHeartbeats 8000000 in
theorem loads_rn_0 (s : Option Addr) (n c : Nat) (d : List UInt8) (w : World) (h0 : ¬ 1000 < n) (hc : n ≤ c) (hI : IsBy w s n c d) (hy : isB10 d = true) {r : Int} (hr : errG (tkN d) (tkE d) = r) (hr0 : ¬ r = 0) :
    Calls Tryz.prog 4 #[.slice s n c] w fun r w' => r = .returned (.bool true) ∧ Grow w w' := by
  have i1 : ¬ (1000 : Int) < (n : Int) := by omega
  have HNB : Hid (n ≤ 1000) := hide (by omega)
  have HI := hide hI
  have HY := hide hy
  have HE : Hid (ldE d = r) := hide (by unfold ldE; rw [if_pos hy]; exact hr)
  have HR := hide hr
  have HR0 := hide hr0
  clear hy hr hr0
  have PN : Hid (nn d ≤ 255) := hide (by have := (atB d 2).toNat_lt; unfold nn; omega)
  have PE : Hid (ne d ≤ 255) := hide (by have := (atB d (3 + 6 * nn d)).toNat_lt; unfold ne; omega)
  clear hI h0 hc
  go_enter Tryz.func4, Tryz.ntmps4
  go_wp2_with fail
  refine (shown_any _).mono ?_
  rintro _ w1 ⟨rfl, hb⟩
  have G1 := hide hb
  clear hb
  go_wp2_with (at_builtin; refine wpList_apd_by byT rfl _ _ rfl w1.heap.size (some ⟨w1.heap.size, 0, none⟩) 0 0 [] d rfl (OwnU.lit w1 _ _ (Nat.le_refl _) [] #[] rfl 0 rfl (by omega)) s n c rfl ((HI.out.later G1.out).later (Grow.alloc' _ _)) (by have := HNB.out; omega) (by simp) ?_)
  intro sa1 ca1 wa1 hO hg
  have OA1 := hide hO.is
  have HA1 := hide (hg.grow (W := w1) (Grow.alloc' _ _) (Nat.le_refl _))
  clear hO hg
  clear i1
  go_wp2_with fail
  refine (take_any sa1 n ca1 d wa1 OA1.out).mono ?_
  rintro _ wb1 ⟨hg, ⟨hyes, s1, c1, t1, q1, rfl, hN, hE⟩ | ⟨hno, rfl⟩⟩
  rotate_left
  · rw [HY.out] at hno; cases hno
  clear hyes
  have XN1 := hide (hN.is.later (Grow.alloc' wb1 (.cells #[.slice s1 (nn d) c1, .slice t1 (ne d) q1] 27)))
  have XE1 := hide (hE.is.later (Grow.alloc' wb1 (.cells #[.slice s1 (nn d) c1, .slice t1 (ne d) q1] 27)))
  have XG1 : Hid (Grow w1 (wb1.alloc (.cells #[.slice s1 (nn d) c1, .slice t1 (ne d) q1] 27))) := hide (Grow.trans' (Grow.trans' HA1.out hg) (Grow.alloc' _ _))
  have XB1 : Hid (BoxG (wb1.alloc (.cells #[.slice s1 (nn d) c1, .slice t1 (ne d) q1] 27)) wb1.heap.size ⟨s1, nn d, c1, t1, ne d, q1, [], []⟩) := hide (BoxG.new wb1 ⟨s1, nn d, c1, t1, ne d, q1, [], []⟩)
  clear hg OA1 HA1 hN hE
  go_upto_region 5 with fail
  generalize wb1.alloc (.cells #[.slice s1 (nn d) c1, .slice t1 (ne d) q1] 27) = w2 at *
  generalize wb1.heap.size = Q1 at *
  have G2 := hide (Grow.trans' G1.out XG1.out)
  go_wp2_with (at_builtin; refine wpList_apd_by byT rfl _ _ rfl w2.heap.size (some ⟨w2.heap.size, 0, none⟩) 0 0 [] d rfl (OwnU.lit w2 _ _ (Nat.le_refl _) [] #[] rfl 0 rfl (by omega)) s n c rfl ((HI.out.later G2.out).later (Grow.alloc' _ _)) (by have := HNB.out; omega) (by simp) ?_)
  intro sa2 ca2 wa2 hO hg
  have OA2 := hide hO.is
  have HA2 := hide (hg.grow (W := w2) (Grow.alloc' _ _) (Nat.le_refl _))
  clear hO hg
  go_wp2_with fail
  refine (load_any sa2 n ca2 d wa2 (by have := HNB.out; omega) OA2.out).mono ?_
  rintro _ wb2 ⟨hg, ⟨h0, hyes, s2, c2, t2, q2, rfl, hN, hE⟩ | ⟨h0, rfl⟩⟩
  · rw [HE.out] at h0; exact absurd h0 HR0.out
  clear h0
  have XG2 : Hid (Grow w2 (wb2.alloc (.cells #[.slice none 0 0, .slice none 0 0] 27))) := hide (Grow.trans' (Grow.trans' HA2.out hg) (Grow.alloc' _ _))
  have XB2 : Hid (BoxG (wb2.alloc (.cells #[.slice none 0 0, .slice none 0 0] 27)) wb2.heap.size ⟨none, 0, 0, none, 0, 0, [], []⟩) := hide (BoxG.new wb2 ⟨none, 0, 0, none, 0, 0, [], []⟩)
  clear hg OA2 HA2
  rw [HE.out]
  go_upto_region 6 with fail
  generalize wb2.alloc (.cells #[.slice none 0 0, .slice none 0 0] 27) = w3 at *
  generalize wb2.heap.size = Q2 at *
  have G3 := hide (Grow.trans' G2.out XG2.out)
  obtain ⟨z, hz⟩ : ∃ z, sameG (tkN d) (tkE d) [] [] = z := ⟨_, rfl⟩
  have Y1 := hide XG2.out
  obtain ⟨a0, a1⟩ := XB1.out.later Y1.out
  obtain ⟨b0, b1⟩ := XB2.out
  dsimp only at a0 a1 b0 b1
  have CS := hide (same_any s1 (nn d) c1 t1 (ne d) q1 (tkN d) (tkE d) none 0 0 none 0 0 [] [] w3 (by have := PN.out; omega) (by have := PE.out; omega) (XN1.out.later Y1.out) (XE1.out.later Y1.out) (IsNds_nil _) (IsEds_nil _) hz)
  clear hz
  go_wp2_with fail
  refine CS.out.mono ?_
  rintro _ w4 ⟨rfl, hg⟩
  have Y2 := hide (Grow.trans' Y1.out hg)
  have G4 := hide (Grow.trans' G3.out hg)
  obtain ⟨d0, d1⟩ := XB1.out.later Y2.out
  dsimp only at d0 d1
  clear hg a0 a1 b0 b1 CS
  have CP := hide (put_any s1 (nn d) c1 t1 (ne d) q1 (tkN d) (tkE d) w4 (by have := PN.out; omega) (by have := PE.out; omega) (XN1.out.later Y2.out) (XE1.out.later Y2.out))
  go_wp2_with fail
  refine CP.out.mono ?_
  rintro _ w5 ⟨hg, ⟨_, sp, np, cp, rfl, hp⟩ | ⟨hno, _⟩⟩
  rotate_left
  · rw [tk_fit d] at hno; cases hno
  rw [put_take HY.out] at hp
  have Y3 := hide (Grow.trans' Y2.out hg)
  have G5 := hide (Grow.trans' G4.out hg)
  have HP := hide hp
  obtain ⟨f0, f1⟩ := XB1.out.later Y3.out
  dsimp only at f0 f1
  clear hg hp d0 d1 CP
  have CR := hide (rgraph_any s1 (nn d) c1 t1 (ne d) q1 (tkN d) (tkE d) w5 (XN1.out.later Y3.out) (XE1.out.later Y3.out) HR.out)
  have e1 : (r != 0) = true := by simpa using HR0.out
  go_wp2_with fail
  refine CR.out.mono ?_
  rintro _ w6 ⟨rfl, hg⟩
  have G6 := hide (Grow.trans' G5.out hg)
  have kc := str_of byT Tryz.underlying9 w6 sp np cp d (HP.out.later hg)
  have kc' := str_of byT Tryz.underlying9 w6 s n c d (HI.out.later G6.out)
  clear hg f0 f1 CR
  go_wp2_with fail
  go_ret
  exact ⟨ret_bool (by simp), G6.out⟩
set_option maxHeartbeats 8000000 in
theorem loads_rn_1 (s : Option Addr) (n c : Nat) (d : List UInt8) (w : World) (h0 : 1000 < n) (hc : n ≤ c) (hI : IsBy w s 1000 c d) (hy : isB10 d = true) {r : Int} (hr : errG (tkN d) (tkE d) = r) (hr0 : ¬ r = 0) :
    Calls Tryz.prog 4 #[.slice s n c] w fun r w' => r = .returned (.bool true) ∧ Grow w w' := by
  have i1 : (1000 : Int) < (n : Int) := by omega
  have kh : ∀ w, (Instr.slice 22 (.slice s n c) none (some (.int .i64 1000)) none).run Tryz.prog w = .ok (.slice s 1000 c) w := fun w => run_headU s n c 1000 w (by omega)
  have HNB : Hid (1000 ≤ 1000) := hide (by omega)
  have HI := hide hI
  have HY := hide hy
  have HE : Hid (ldE d = r) := hide (by unfold ldE; rw [if_pos hy]; exact hr)
  have HR := hide hr
  have HR0 := hide hr0
  clear hy hr hr0
  have PN : Hid (nn d ≤ 255) := hide (by have := (atB d 2).toNat_lt; unfold nn; omega)
  have PE : Hid (ne d ≤ 255) := hide (by have := (atB d (3 + 6 * nn d)).toNat_lt; unfold ne; omega)
  clear hI h0 hc
  go_enter Tryz.func4, Tryz.ntmps4
  go_wp2_with fail
  refine (shown_any _).mono ?_
  rintro _ w1 ⟨rfl, hb⟩
  have G1 := hide hb
  clear hb
  go_wp2_with (at_builtin; refine wpList_apd_by byT rfl _ _ rfl w1.heap.size (some ⟨w1.heap.size, 0, none⟩) 0 0 [] d rfl (OwnU.lit w1 _ _ (Nat.le_refl _) [] #[] rfl 0 rfl (by omega)) s 1000 c rfl ((HI.out.later G1.out).later (Grow.alloc' _ _)) (by have := HNB.out; omega) (by simp) ?_)
  intro sa1 ca1 wa1 hO hg
  have OA1 := hide hO.is
  have HA1 := hide (hg.grow (W := w1) (Grow.alloc' _ _) (Nat.le_refl _))
  clear hO hg
  clear kh
  clear i1
  go_wp2_with fail
  refine (take_any sa1 1000 ca1 d wa1 OA1.out).mono ?_
  rintro _ wb1 ⟨hg, ⟨hyes, s1, c1, t1, q1, rfl, hN, hE⟩ | ⟨hno, rfl⟩⟩
  rotate_left
  · rw [HY.out] at hno; cases hno
  clear hyes
  have XN1 := hide (hN.is.later (Grow.alloc' wb1 (.cells #[.slice s1 (nn d) c1, .slice t1 (ne d) q1] 27)))
  have XE1 := hide (hE.is.later (Grow.alloc' wb1 (.cells #[.slice s1 (nn d) c1, .slice t1 (ne d) q1] 27)))
  have XG1 : Hid (Grow w1 (wb1.alloc (.cells #[.slice s1 (nn d) c1, .slice t1 (ne d) q1] 27))) := hide (Grow.trans' (Grow.trans' HA1.out hg) (Grow.alloc' _ _))
  have XB1 : Hid (BoxG (wb1.alloc (.cells #[.slice s1 (nn d) c1, .slice t1 (ne d) q1] 27)) wb1.heap.size ⟨s1, nn d, c1, t1, ne d, q1, [], []⟩) := hide (BoxG.new wb1 ⟨s1, nn d, c1, t1, ne d, q1, [], []⟩)
  clear hg OA1 HA1 hN hE
  go_upto_region 5 with fail
  generalize wb1.alloc (.cells #[.slice s1 (nn d) c1, .slice t1 (ne d) q1] 27) = w2 at *
  generalize wb1.heap.size = Q1 at *
  have G2 := hide (Grow.trans' G1.out XG1.out)
  go_wp2_with (at_builtin; refine wpList_apd_by byT rfl _ _ rfl w2.heap.size (some ⟨w2.heap.size, 0, none⟩) 0 0 [] d rfl (OwnU.lit w2 _ _ (Nat.le_refl _) [] #[] rfl 0 rfl (by omega)) s 1000 c rfl ((HI.out.later G2.out).later (Grow.alloc' _ _)) (by have := HNB.out; omega) (by simp) ?_)
  intro sa2 ca2 wa2 hO hg
  have OA2 := hide hO.is
  have HA2 := hide (hg.grow (W := w2) (Grow.alloc' _ _) (Nat.le_refl _))
  clear hO hg
  go_wp2_with fail
  refine (load_any sa2 1000 ca2 d wa2 (by have := HNB.out; omega) OA2.out).mono ?_
  rintro _ wb2 ⟨hg, ⟨h0, hyes, s2, c2, t2, q2, rfl, hN, hE⟩ | ⟨h0, rfl⟩⟩
  · rw [HE.out] at h0; exact absurd h0 HR0.out
  clear h0
  have XG2 : Hid (Grow w2 (wb2.alloc (.cells #[.slice none 0 0, .slice none 0 0] 27))) := hide (Grow.trans' (Grow.trans' HA2.out hg) (Grow.alloc' _ _))
  have XB2 : Hid (BoxG (wb2.alloc (.cells #[.slice none 0 0, .slice none 0 0] 27)) wb2.heap.size ⟨none, 0, 0, none, 0, 0, [], []⟩) := hide (BoxG.new wb2 ⟨none, 0, 0, none, 0, 0, [], []⟩)
  clear hg OA2 HA2
  rw [HE.out]
  go_upto_region 6 with fail
  generalize wb2.alloc (.cells #[.slice none 0 0, .slice none 0 0] 27) = w3 at *
  generalize wb2.heap.size = Q2 at *
  have G3 := hide (Grow.trans' G2.out XG2.out)
  obtain ⟨z, hz⟩ : ∃ z, sameG (tkN d) (tkE d) [] [] = z := ⟨_, rfl⟩
  have Y1 := hide XG2.out
  obtain ⟨a0, a1⟩ := XB1.out.later Y1.out
  obtain ⟨b0, b1⟩ := XB2.out
  dsimp only at a0 a1 b0 b1
  have CS := hide (same_any s1 (nn d) c1 t1 (ne d) q1 (tkN d) (tkE d) none 0 0 none 0 0 [] [] w3 (by have := PN.out; omega) (by have := PE.out; omega) (XN1.out.later Y1.out) (XE1.out.later Y1.out) (IsNds_nil _) (IsEds_nil _) hz)
  clear hz
  go_wp2_with fail
  refine CS.out.mono ?_
  rintro _ w4 ⟨rfl, hg⟩
  have Y2 := hide (Grow.trans' Y1.out hg)
  have G4 := hide (Grow.trans' G3.out hg)
  obtain ⟨d0, d1⟩ := XB1.out.later Y2.out
  dsimp only at d0 d1
  clear hg a0 a1 b0 b1 CS
  have CP := hide (put_any s1 (nn d) c1 t1 (ne d) q1 (tkN d) (tkE d) w4 (by have := PN.out; omega) (by have := PE.out; omega) (XN1.out.later Y2.out) (XE1.out.later Y2.out))
  go_wp2_with fail
  refine CP.out.mono ?_
  rintro _ w5 ⟨hg, ⟨_, sp, np, cp, rfl, hp⟩ | ⟨hno, _⟩⟩
  rotate_left
  · rw [tk_fit d] at hno; cases hno
  rw [put_take HY.out] at hp
  have Y3 := hide (Grow.trans' Y2.out hg)
  have G5 := hide (Grow.trans' G4.out hg)
  have HP := hide hp
  obtain ⟨f0, f1⟩ := XB1.out.later Y3.out
  dsimp only at f0 f1
  clear hg hp d0 d1 CP
  have CR := hide (rgraph_any s1 (nn d) c1 t1 (ne d) q1 (tkN d) (tkE d) w5 (XN1.out.later Y3.out) (XE1.out.later Y3.out) HR.out)
  have e1 : (r != 0) = true := by simpa using HR0.out
  go_wp2_with fail
  refine CR.out.mono ?_
  rintro _ w6 ⟨rfl, hg⟩
  have G6 := hide (Grow.trans' G5.out hg)
  have kc := str_of byT Tryz.underlying9 w6 sp np cp d (HP.out.later hg)
  have kc' := str_of byT Tryz.underlying9 w6 s 1000 c d (HI.out.later G6.out)
  clear hg f0 f1 CR
  go_wp2_with fail
  go_ret
  exact ⟨ret_bool (by simp), G6.out⟩
theorem GcodeLoads_any (s : Option Addr) (n c : Nat) (d : List UInt8) (w : World) (hI : IsBy w s n c d) :
    Calls Tryz.prog 4 #[.slice s n c] w fun r w' => r = .returned (.bool true) ∧ Grow w w' := by
  have key : ∀ d', (isB10 d' = false) ∨ (isB10 d' = true ∧ errG (tkN d') (tkE d') = 0) ∨ (isB10 d' = true ∧ ¬ errG (tkN d') (tkE d') = 0) := fun d' => by
    cases h : isB10 d' with
    | false => exact .inl rfl
    | true =>
      by_cases h2 : errG (tkN d') (tkE d') = 0
      · exact .inr (.inl ⟨rfl, h2⟩)
      · exact .inr (.inr ⟨rfl, h2⟩)
  by_cases h : 1000 < n
  · have hI' := hI.take' 1000 (by omega)
    rcases key (d.take 1000) with hy | ⟨hy, hr⟩ | ⟨hy, hr⟩
    · exact loads_no_1 s n c _ w h hI.2.1 hI' hy
    · exact loads_r0_1 s n c _ w h hI.2.1 hI' hy hr
    · exact loads_rn_1 s n c _ w h hI.2.1 hI' hy rfl hr
  · rcases key d with hy | ⟨hy, hr⟩ | ⟨hy, hr⟩
    · exact loads_no_0 s n c d w h hI.2.1 hI hy
    · exact loads_r0_0 s n c d w h hI.2.1 hI hy hr
    · exact loads_rn_0 s n c d w h hI.2.1 hI hy rfl hr

set_option maxRecDepth 100000 in
theorem GcodeLoads_lifted (os : Os) (started : os.Started) (H : Type) (enc : TypeId × Value → H) :
    ReturnsInHanded {} Tryz.checked os 4 .any (Rows.gcodeLoadsSpec.pre6 enc Tryz.prog Tryz.f4 Rows.gcodeLoadsRow.domain false) (Rows.gcodeLoadsSpec.post enc Tryz.prog Tryz.f4 false true false false) := by
  refine returnsInHanded_of_change (C := Tryz.checked) own started (by kernel_rfl) Tryz.func4
    (ChangeSpec.witness6 (enc := enc) (C := Tryz.checked) false ⟨#[], #[.slice none 0 0], []⟩ 8 (by kernel_rfl) (by kernel_rfl) (by kernel_rfl) (by kernel_rfl)) ?_
  intro W base args ds gs before hval0 hW hcnd _
  have hval : ∀ (j : Nat) t v, Tryz.f4.params[j]? = some t → args[j]? = some v → Value.okWide Tryz.prog W .any base t v := hval0
  have hW' := hW
  obtain ⟨p, q, hA0, hV, rfl, hfz, hnd⟩ := hW
  have hA : DataW.TrodAll enc Tryz.prog W 0 (fun _ => true) true Tryz.f4.params.toList args.toList ds p := hA0
  rw [Tryz.params4] at hA hval
  obtain ⟨v0, vs0, d0, ds0, p0, q0, hargs, rfl, rfl, h0, r0⟩ := trodAll_cons hA
  obtain ⟨rfl, rfl, rfl⟩ := trodAll_nil r0
  obtain rfl : args = #[v0] := by cases args; simp_all
  obtain ⟨rfl, rfl⟩ := trodVars_none hV
  have k0 := h0
  have lt0 : ∀ x ∈ p0, x.block < W.heap.size := by obtain ⟨m, hm⟩ := k0; exact DataW.trod_lt m _ _ _ hm
  obtain ⟨s0, len0, cap0, rfl⟩ := okWide_slice Tryz.underlying22 (hval 0 22 v0 rfl rfl)
  obtain ⟨z0, w0⟩ := rows_by byT (by kernel_rfl) h0
  clear hA0 hval0
  refine (GcodeLoads_any s0 len0 cap0 z0 W w0).mono fun e W' ⟨he, bel⟩ => ?_
  subst he
  exact ⟨_, rfl, _, _, _, [], _, [], hW', trodAll_mk1 (shut_bool Tryz.underlying4 _), (trodAll_cons_mk (Below.trod laidOut (by kernel_rfl) (of_decide_eq_true (by kernel_rfl)) k0 bel lt0) trodAll_mk0), rfl, bel.frame _, fun h => by cases h⟩

/-- The given statement. -/
theorem GcodeLoads_holds : Rows.GcodeLoadsSaid :=
  OpenClaim.holds_of_wide 4 Tryz.f4 rfl rfl rfl rfl rfl rfl rfl ⟨rfl, rfl, rfl, rfl, rfl⟩ rfl rfl rfl rfl rfl (by kernel_rfl) Tryz.func4 (by kernel_rfl)
    (of_decide_eq_true (by kernel_rfl)) (by unfold Func.isWrapper; first | (rw [if_pos (by decide +kernel)]; kernel_rfl) | (rw [if_neg (by decide +kernel)]; exact ⟨rfl, rfl⟩))
    (fun os started H enc _ => GcodeLoads_lifted os started H enc)


end Go.Proofs.YtjebipagehhkjaaGreat
