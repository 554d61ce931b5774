/-
  GcodeTakes: for all bytes (the first 1000): gcode.Take takes them as a graph, and gcode.Load as one that may run, or they refuse them, as the document's own Take and Load do; the call returns true and leaves its argument as it was. No conditions.
-/
import Derived.Test.YtjebipagehhkjaaGreatKTd
namespace Go.Proofs.YtjebipagehhkjaaGreat
set_option maxRecDepth 100000
open Go.ChangeShapes Go.WideShapes Go.ChangeAt Go.RowKit Go.Deep Go.Sort
set_option linter.unusedVariables false
set_option linter.unusedSimpArgs false

set_option maxHeartbeats 8000000 in
theorem takes_0 (s : Option Addr) (n c : Nat) (d : List UInt8) (w : World) (h0 : ¬ 1000 < n) (hc : n ≤ c) (hI : IsBy w s n c d) :
    Calls Tryz.prog 3 #[.slice s n c] w fun r w' => r = .returned (.bool true) ∧ Grow w w' := by
  have i1 : ¬ (1000 : Int) < (n : Int) := by omega
  have HNB : Hid (n ≤ 1000) := hide (by omega)
  have HI := hide hI
  have TN := hide (tN_le d)
  have TE := hide (tE_le d)
  have LN := hide (lN_le d)
  have LE := hide (lE_le d)
  obtain ⟨C1, hC1⟩ : ∃ C, tC d = C := ⟨_, rfl⟩
  obtain ⟨C2, hC2⟩ : ∃ C, lC d = C := ⟨_, rfl⟩
  have HC1 := hide hC1
  have HC2 := hide hC2
  clear hI h0 hc hC1 hC2
  go_enter Tryz.func3, Tryz.ntmps3
  go_wp2_with fail
  refine (shown_any _).mono ?_
  rintro _ w1 ⟨rfl, hb⟩
  have G1 := hide hb
  clear hb
  go_wp2_with (at_builtin; refine wpList_apd_by byT rfl _ _ rfl w1.heap.size (some ⟨w1.heap.size, 0, none⟩) 0 0 [] d rfl (OwnU.lit w1 _ _ (Nat.le_refl _) [] #[] rfl 0 rfl (by omega)) s n c rfl ((HI.out.later G1.out).later (Grow.alloc' _ _)) (by have := HNB.out; omega) (by simp) ?_)
  intro sa1 ca1 wa1 hO hg
  have OA1 := hide hO.is
  have HA1 := hide (hg.grow (W := w1) (Grow.alloc' _ _) (Nat.le_refl _))
  clear hO hg
  clear i1
  go_wp2_with fail
  refine (take_any sa1 n ca1 d wa1 OA1.out).mono ?_
  rintro _ wb1 hT
  obtain ⟨hg, s1, c1, t1, q1, rfl, hN, hE⟩ := hT.any
  have XN1 := hide (hN.later (Grow.alloc' wb1 (.cells #[.slice s1 (tN d).length c1, .slice t1 (tE d).length q1] 27)))
  have XE1 := hide (hE.later (Grow.alloc' wb1 (.cells #[.slice s1 (tN d).length c1, .slice t1 (tE d).length q1] 27)))
  have XG1 : Hid (Grow w1 (wb1.alloc (.cells #[.slice s1 (tN d).length c1, .slice t1 (tE d).length q1] 27))) := hide (Grow.trans' (Grow.trans' HA1.out hg) (Grow.alloc' _ _))
  have XB1 : Hid (BoxG (wb1.alloc (.cells #[.slice s1 (tN d).length c1, .slice t1 (tE d).length q1] 27)) wb1.heap.size ⟨s1, (tN d).length, c1, t1, (tE d).length, q1, [], []⟩) := hide (BoxG.new wb1 ⟨s1, (tN d).length, c1, t1, (tE d).length, q1, [], []⟩)
  clear hT hg hN hE OA1 HA1
  rw [HC1.out]
  go_upto_region 5 with fail
  generalize wb1.alloc (.cells #[.slice s1 (tN d).length c1, .slice t1 (tE d).length q1] 27) = w2 at *
  generalize wb1.heap.size = Q1 at *
  have G2 := hide (Grow.trans' G1.out XG1.out)
  go_wp2_with fail
  refine (rtake_any s n c d w2 (by have := HNB.out; omega) (HI.out.later G2.out)).mono ?_
  rintro _ wb2 hT
  obtain ⟨hg, s2, c2, t2, q2, rfl, hN, hE⟩ := hT.any
  have XN2 := hide (hN.later (Grow.alloc' wb2 (.cells #[.slice s2 (tN d).length c2, .slice t2 (tE d).length q2] 27)))
  have XE2 := hide (hE.later (Grow.alloc' wb2 (.cells #[.slice s2 (tN d).length c2, .slice t2 (tE d).length q2] 27)))
  have XG2 : Hid (Grow w2 (wb2.alloc (.cells #[.slice s2 (tN d).length c2, .slice t2 (tE d).length q2] 27))) := hide (Grow.trans' hg (Grow.alloc' _ _))
  have XB2 : Hid (BoxG (wb2.alloc (.cells #[.slice s2 (tN d).length c2, .slice t2 (tE d).length q2] 27)) wb2.heap.size ⟨s2, (tN d).length, c2, t2, (tE d).length, q2, [], []⟩) := hide (BoxG.new wb2 ⟨s2, (tN d).length, c2, t2, (tE d).length, q2, [], []⟩)
  clear hT hg hN hE
  rw [HC1.out]
  go_upto_region 6 with fail
  generalize wb2.alloc (.cells #[.slice s2 (tN d).length c2, .slice t2 (tE d).length q2] 27) = w3 at *
  generalize wb2.heap.size = Q2 at *
  have G3 := hide (Grow.trans' G2.out XG2.out)
  go_wp2_with (at_builtin; refine wpList_apd_by byT rfl _ _ rfl w3.heap.size (some ⟨w3.heap.size, 0, none⟩) 0 0 [] d rfl (OwnU.lit w3 _ _ (Nat.le_refl _) [] #[] rfl 0 rfl (by omega)) s n c rfl ((HI.out.later G3.out).later (Grow.alloc' _ _)) (by have := HNB.out; omega) (by simp) ?_)
  intro sa3 ca3 wa3 hO hg
  have OA3 := hide hO.is
  have HA3 := hide (hg.grow (W := w3) (Grow.alloc' _ _) (Nat.le_refl _))
  clear hO hg
  go_wp2_with fail
  refine (load_any sa3 n ca3 d wa3 (by have := HNB.out; omega) OA3.out).mono ?_
  rintro _ wb3 hT
  obtain ⟨hg, s3, c3, t3, q3, rfl, hN, hE⟩ := hT.any
  have XN3 := hide (hN.later (Grow.alloc' wb3 (.cells #[.slice s3 (lN d).length c3, .slice t3 (lE d).length q3] 27)))
  have XE3 := hide (hE.later (Grow.alloc' wb3 (.cells #[.slice s3 (lN d).length c3, .slice t3 (lE d).length q3] 27)))
  have XG3 : Hid (Grow w3 (wb3.alloc (.cells #[.slice s3 (lN d).length c3, .slice t3 (lE d).length q3] 27))) := hide (Grow.trans' (Grow.trans' HA3.out hg) (Grow.alloc' _ _))
  have XB3 : Hid (BoxG (wb3.alloc (.cells #[.slice s3 (lN d).length c3, .slice t3 (lE d).length q3] 27)) wb3.heap.size ⟨s3, (lN d).length, c3, t3, (lE d).length, q3, [], []⟩) := hide (BoxG.new wb3 ⟨s3, (lN d).length, c3, t3, (lE d).length, q3, [], []⟩)
  clear hT hg hN hE OA3 HA3
  rw [HC2.out]
  go_upto_region 7 with fail
  generalize wb3.alloc (.cells #[.slice s3 (lN d).length c3, .slice t3 (lE d).length q3] 27) = w4 at *
  generalize wb3.heap.size = Q3 at *
  have G4 := hide (Grow.trans' G3.out XG3.out)
  go_wp2_with fail
  refine (rload_any s n c d w4 (by have := HNB.out; omega) (HI.out.later G4.out)).mono ?_
  rintro _ wb4 hT
  obtain ⟨hg, s4, c4, t4, q4, rfl, hN, hE⟩ := hT.any
  have XN4 := hide (hN.later (Grow.alloc' wb4 (.cells #[.slice s4 (lN d).length c4, .slice t4 (lE d).length q4] 27)))
  have XE4 := hide (hE.later (Grow.alloc' wb4 (.cells #[.slice s4 (lN d).length c4, .slice t4 (lE d).length q4] 27)))
  have XG4 : Hid (Grow w4 (wb4.alloc (.cells #[.slice s4 (lN d).length c4, .slice t4 (lE d).length q4] 27))) := hide (Grow.trans' hg (Grow.alloc' _ _))
  have XB4 : Hid (BoxG (wb4.alloc (.cells #[.slice s4 (lN d).length c4, .slice t4 (lE d).length q4] 27)) wb4.heap.size ⟨s4, (lN d).length, c4, t4, (lE d).length, q4, [], []⟩) := hide (BoxG.new wb4 ⟨s4, (lN d).length, c4, t4, (lE d).length, q4, [], []⟩)
  clear hT hg hN hE
  rw [HC2.out]
  go_upto_region 8 with fail
  generalize wb4.alloc (.cells #[.slice s4 (lN d).length c4, .slice t4 (lE d).length q4] 27) = w5 at *
  generalize wb4.heap.size = Q4 at *
  have G5 := hide (Grow.trans' G4.out XG4.out)
  have Y3 := hide XG4.out
  have Y2 := hide (Grow.trans' XG3.out XG4.out)
  have Y1 := hide (Grow.trans' XG2.out Y2.out)
  obtain ⟨a0, a1⟩ := XB1.out.later Y1.out
  obtain ⟨b0, b1⟩ := XB2.out.later Y2.out
  dsimp only at a0 a1 b0 b1
  go_wp2_with fail
  refine (same_any s1 (tN d).length c1 t1 (tE d).length q1 (tN d) (tE d) s2 (tN d).length c2 t2 (tE d).length q2 (tN d) (tE d) w5 (by have := TN.out; omega) (by have := TE.out; omega) (XN1.out.later Y1.out) (XE1.out.later Y1.out) (XN2.out.later Y2.out) (XE2.out.later Y2.out) (sameG_self _ _)).mono ?_
  rintro _ w6 ⟨rfl, hg⟩
  have Z3 := hide (Grow.trans' Y3.out hg)
  have Z4 := hide hg
  have G6 := hide (Grow.trans' G5.out hg)
  obtain ⟨k0, k1⟩ := XB3.out.later Z3.out
  obtain ⟨h0, h1⟩ := XB4.out.later Z4.out
  dsimp only at k0 k1 h0 h1
  clear hg a0 a1 b0 b1
  go_wp2_with fail
  refine (same_any s3 (lN d).length c3 t3 (lE d).length q3 (lN d) (lE d) s4 (lN d).length c4 t4 (lE d).length q4 (lN d) (lE d) w6 (by have := LN.out; omega) (by have := LE.out; omega) (XN3.out.later Z3.out) (XE3.out.later Z3.out) (XN4.out.later Z4.out) (XE4.out.later Z4.out) (sameG_self _ _)).mono ?_
  rintro _ w7 ⟨rfl, hg⟩
  have G7 := hide (Grow.trans' G6.out hg)
  clear hg k0 k1 h0 h1
  go_wp2_with fail
  go_ret
  exact ⟨ret_bool (by simp), G7.out⟩
set_option maxHeartbeats 8000000 in
theorem takes_1 (s : Option Addr) (n c : Nat) (d : List UInt8) (w : World) (h0 : 1000 < n) (hc : n ≤ c) (hI : IsBy w s 1000 c d) :
    Calls Tryz.prog 3 #[.slice s n c] w fun r w' => r = .returned (.bool true) ∧ Grow w w' := by
  have i1 : (1000 : Int) < (n : Int) := by omega
  have kh : ∀ w, (Instr.slice 22 (.slice s n c) none (some (.int .i64 1000)) none).run Tryz.prog w = .ok (.slice s 1000 c) w := fun w => run_headU s n c 1000 w (by omega)
  have HNB : Hid (1000 ≤ 1000) := hide (by omega)
  have HI := hide hI
  have TN := hide (tN_le d)
  have TE := hide (tE_le d)
  have LN := hide (lN_le d)
  have LE := hide (lE_le d)
  obtain ⟨C1, hC1⟩ : ∃ C, tC d = C := ⟨_, rfl⟩
  obtain ⟨C2, hC2⟩ : ∃ C, lC d = C := ⟨_, rfl⟩
  have HC1 := hide hC1
  have HC2 := hide hC2
  clear hI h0 hc hC1 hC2
  go_enter Tryz.func3, Tryz.ntmps3
  go_wp2_with fail
  refine (shown_any _).mono ?_
  rintro _ w1 ⟨rfl, hb⟩
  have G1 := hide hb
  clear hb
  go_wp2_with (at_builtin; refine wpList_apd_by byT rfl _ _ rfl w1.heap.size (some ⟨w1.heap.size, 0, none⟩) 0 0 [] d rfl (OwnU.lit w1 _ _ (Nat.le_refl _) [] #[] rfl 0 rfl (by omega)) s 1000 c rfl ((HI.out.later G1.out).later (Grow.alloc' _ _)) (by have := HNB.out; omega) (by simp) ?_)
  intro sa1 ca1 wa1 hO hg
  have OA1 := hide hO.is
  have HA1 := hide (hg.grow (W := w1) (Grow.alloc' _ _) (Nat.le_refl _))
  clear hO hg
  clear kh
  clear i1
  go_wp2_with fail
  refine (take_any sa1 1000 ca1 d wa1 OA1.out).mono ?_
  rintro _ wb1 hT
  obtain ⟨hg, s1, c1, t1, q1, rfl, hN, hE⟩ := hT.any
  have XN1 := hide (hN.later (Grow.alloc' wb1 (.cells #[.slice s1 (tN d).length c1, .slice t1 (tE d).length q1] 27)))
  have XE1 := hide (hE.later (Grow.alloc' wb1 (.cells #[.slice s1 (tN d).length c1, .slice t1 (tE d).length q1] 27)))
  have XG1 : Hid (Grow w1 (wb1.alloc (.cells #[.slice s1 (tN d).length c1, .slice t1 (tE d).length q1] 27))) := hide (Grow.trans' (Grow.trans' HA1.out hg) (Grow.alloc' _ _))
  have XB1 : Hid (BoxG (wb1.alloc (.cells #[.slice s1 (tN d).length c1, .slice t1 (tE d).length q1] 27)) wb1.heap.size ⟨s1, (tN d).length, c1, t1, (tE d).length, q1, [], []⟩) := hide (BoxG.new wb1 ⟨s1, (tN d).length, c1, t1, (tE d).length, q1, [], []⟩)
  clear hT hg hN hE OA1 HA1
  rw [HC1.out]
  go_upto_region 5 with fail
  generalize wb1.alloc (.cells #[.slice s1 (tN d).length c1, .slice t1 (tE d).length q1] 27) = w2 at *
  generalize wb1.heap.size = Q1 at *
  have G2 := hide (Grow.trans' G1.out XG1.out)
  go_wp2_with fail
  refine (rtake_any s 1000 c d w2 (by have := HNB.out; omega) (HI.out.later G2.out)).mono ?_
  rintro _ wb2 hT
  obtain ⟨hg, s2, c2, t2, q2, rfl, hN, hE⟩ := hT.any
  have XN2 := hide (hN.later (Grow.alloc' wb2 (.cells #[.slice s2 (tN d).length c2, .slice t2 (tE d).length q2] 27)))
  have XE2 := hide (hE.later (Grow.alloc' wb2 (.cells #[.slice s2 (tN d).length c2, .slice t2 (tE d).length q2] 27)))
  have XG2 : Hid (Grow w2 (wb2.alloc (.cells #[.slice s2 (tN d).length c2, .slice t2 (tE d).length q2] 27))) := hide (Grow.trans' hg (Grow.alloc' _ _))
  have XB2 : Hid (BoxG (wb2.alloc (.cells #[.slice s2 (tN d).length c2, .slice t2 (tE d).length q2] 27)) wb2.heap.size ⟨s2, (tN d).length, c2, t2, (tE d).length, q2, [], []⟩) := hide (BoxG.new wb2 ⟨s2, (tN d).length, c2, t2, (tE d).length, q2, [], []⟩)
  clear hT hg hN hE
  rw [HC1.out]
  go_upto_region 6 with fail
  generalize wb2.alloc (.cells #[.slice s2 (tN d).length c2, .slice t2 (tE d).length q2] 27) = w3 at *
  generalize wb2.heap.size = Q2 at *
  have G3 := hide (Grow.trans' G2.out XG2.out)
  go_wp2_with (at_builtin; refine wpList_apd_by byT rfl _ _ rfl w3.heap.size (some ⟨w3.heap.size, 0, none⟩) 0 0 [] d rfl (OwnU.lit w3 _ _ (Nat.le_refl _) [] #[] rfl 0 rfl (by omega)) s 1000 c rfl ((HI.out.later G3.out).later (Grow.alloc' _ _)) (by have := HNB.out; omega) (by simp) ?_)
  intro sa3 ca3 wa3 hO hg
  have OA3 := hide hO.is
  have HA3 := hide (hg.grow (W := w3) (Grow.alloc' _ _) (Nat.le_refl _))
  clear hO hg
  go_wp2_with fail
  refine (load_any sa3 1000 ca3 d wa3 (by have := HNB.out; omega) OA3.out).mono ?_
  rintro _ wb3 hT
  obtain ⟨hg, s3, c3, t3, q3, rfl, hN, hE⟩ := hT.any
  have XN3 := hide (hN.later (Grow.alloc' wb3 (.cells #[.slice s3 (lN d).length c3, .slice t3 (lE d).length q3] 27)))
  have XE3 := hide (hE.later (Grow.alloc' wb3 (.cells #[.slice s3 (lN d).length c3, .slice t3 (lE d).length q3] 27)))
  have XG3 : Hid (Grow w3 (wb3.alloc (.cells #[.slice s3 (lN d).length c3, .slice t3 (lE d).length q3] 27))) := hide (Grow.trans' (Grow.trans' HA3.out hg) (Grow.alloc' _ _))
  have XB3 : Hid (BoxG (wb3.alloc (.cells #[.slice s3 (lN d).length c3, .slice t3 (lE d).length q3] 27)) wb3.heap.size ⟨s3, (lN d).length, c3, t3, (lE d).length, q3, [], []⟩) := hide (BoxG.new wb3 ⟨s3, (lN d).length, c3, t3, (lE d).length, q3, [], []⟩)
  clear hT hg hN hE OA3 HA3
  rw [HC2.out]
  go_upto_region 7 with fail
  generalize wb3.alloc (.cells #[.slice s3 (lN d).length c3, .slice t3 (lE d).length q3] 27) = w4 at *
  generalize wb3.heap.size = Q3 at *
  have G4 := hide (Grow.trans' G3.out XG3.out)
  go_wp2_with fail
  refine (rload_any s 1000 c d w4 (by have := HNB.out; omega) (HI.out.later G4.out)).mono ?_
  rintro _ wb4 hT
  obtain ⟨hg, s4, c4, t4, q4, rfl, hN, hE⟩ := hT.any
  have XN4 := hide (hN.later (Grow.alloc' wb4 (.cells #[.slice s4 (lN d).length c4, .slice t4 (lE d).length q4] 27)))
  have XE4 := hide (hE.later (Grow.alloc' wb4 (.cells #[.slice s4 (lN d).length c4, .slice t4 (lE d).length q4] 27)))
  have XG4 : Hid (Grow w4 (wb4.alloc (.cells #[.slice s4 (lN d).length c4, .slice t4 (lE d).length q4] 27))) := hide (Grow.trans' hg (Grow.alloc' _ _))
  have XB4 : Hid (BoxG (wb4.alloc (.cells #[.slice s4 (lN d).length c4, .slice t4 (lE d).length q4] 27)) wb4.heap.size ⟨s4, (lN d).length, c4, t4, (lE d).length, q4, [], []⟩) := hide (BoxG.new wb4 ⟨s4, (lN d).length, c4, t4, (lE d).length, q4, [], []⟩)
  clear hT hg hN hE
  rw [HC2.out]
  go_upto_region 8 with fail
  generalize wb4.alloc (.cells #[.slice s4 (lN d).length c4, .slice t4 (lE d).length q4] 27) = w5 at *
  generalize wb4.heap.size = Q4 at *
  have G5 := hide (Grow.trans' G4.out XG4.out)
  have Y3 := hide XG4.out
  have Y2 := hide (Grow.trans' XG3.out XG4.out)
  have Y1 := hide (Grow.trans' XG2.out Y2.out)
  obtain ⟨a0, a1⟩ := XB1.out.later Y1.out
  obtain ⟨b0, b1⟩ := XB2.out.later Y2.out
  dsimp only at a0 a1 b0 b1
  go_wp2_with fail
  refine (same_any s1 (tN d).length c1 t1 (tE d).length q1 (tN d) (tE d) s2 (tN d).length c2 t2 (tE d).length q2 (tN d) (tE d) w5 (by have := TN.out; omega) (by have := TE.out; omega) (XN1.out.later Y1.out) (XE1.out.later Y1.out) (XN2.out.later Y2.out) (XE2.out.later Y2.out) (sameG_self _ _)).mono ?_
  rintro _ w6 ⟨rfl, hg⟩
  have Z3 := hide (Grow.trans' Y3.out hg)
  have Z4 := hide hg
  have G6 := hide (Grow.trans' G5.out hg)
  obtain ⟨k0, k1⟩ := XB3.out.later Z3.out
  obtain ⟨h0, h1⟩ := XB4.out.later Z4.out
  dsimp only at k0 k1 h0 h1
  clear hg a0 a1 b0 b1
  go_wp2_with fail
  refine (same_any s3 (lN d).length c3 t3 (lE d).length q3 (lN d) (lE d) s4 (lN d).length c4 t4 (lE d).length q4 (lN d) (lE d) w6 (by have := LN.out; omega) (by have := LE.out; omega) (XN3.out.later Z3.out) (XE3.out.later Z3.out) (XN4.out.later Z4.out) (XE4.out.later Z4.out) (sameG_self _ _)).mono ?_
  rintro _ w7 ⟨rfl, hg⟩
  have G7 := hide (Grow.trans' G6.out hg)
  clear hg k0 k1 h0 h1
  go_wp2_with fail
  go_ret
  exact ⟨ret_bool (by simp), G7.out⟩
theorem GcodeTakes_any (s : Option Addr) (n c : Nat) (d : List UInt8) (w : World) (hI : IsBy w s n c d) :
    Calls Tryz.prog 3 #[.slice s n c] w fun r w' => r = .returned (.bool true) ∧ Grow w w' := by
  by_cases h : 1000 < n
  · exact takes_1 s n c (d.take 1000) w h hI.2.1 (hI.take' 1000 (by omega))
  · exact takes_0 s n c d w h hI.2.1 hI

set_option maxRecDepth 100000 in
theorem GcodeTakes_lifted (os : Os) (started : os.Started) (H : Type) (enc : TypeId × Value → H) :
    ReturnsInHanded {} Tryz.checked os 3 .any (Rows.gcodeTakesSpec.pre6 enc Tryz.prog Tryz.f3 Rows.gcodeTakesRow.domain false) (Rows.gcodeTakesSpec.post enc Tryz.prog Tryz.f3 false true false false) := by
  refine returnsInHanded_of_change (C := Tryz.checked) own started (by kernel_rfl) Tryz.func3
    (ChangeSpec.witness6 (enc := enc) (C := Tryz.checked) false ⟨#[], #[.slice none 0 0], []⟩ 8 (by kernel_rfl) (by kernel_rfl) (by kernel_rfl) (by kernel_rfl)) ?_
  intro W base args ds gs before hval0 hW hcnd _
  have hval : ∀ (j : Nat) t v, Tryz.f3.params[j]? = some t → args[j]? = some v → Value.okWide Tryz.prog W .any base t v := hval0
  have hW' := hW
  obtain ⟨p, q, hA0, hV, rfl, hfz, hnd⟩ := hW
  have hA : DataW.TrodAll enc Tryz.prog W 0 (fun _ => true) true Tryz.f3.params.toList args.toList ds p := hA0
  rw [Tryz.params3] at hA hval
  obtain ⟨v0, vs0, d0, ds0, p0, q0, hargs, rfl, rfl, h0, r0⟩ := trodAll_cons hA
  obtain ⟨rfl, rfl, rfl⟩ := trodAll_nil r0
  obtain rfl : args = #[v0] := by cases args; simp_all
  obtain ⟨rfl, rfl⟩ := trodVars_none hV
  have k0 := h0
  have lt0 : ∀ x ∈ p0, x.block < W.heap.size := by obtain ⟨m, hm⟩ := k0; exact DataW.trod_lt m _ _ _ hm
  obtain ⟨s0, len0, cap0, rfl⟩ := okWide_slice Tryz.underlying22 (hval 0 22 v0 rfl rfl)
  obtain ⟨z0, w0⟩ := rows_by byT (by kernel_rfl) h0
  clear hA0 hval0
  refine (GcodeTakes_any s0 len0 cap0 z0 W w0).mono fun e W' ⟨he, bel⟩ => ?_
  subst he
  exact ⟨_, rfl, _, _, _, [], _, [], hW', trodAll_mk1 (shut_bool Tryz.underlying4 _), (trodAll_cons_mk (Below.trod laidOut (by kernel_rfl) (of_decide_eq_true (by kernel_rfl)) k0 bel lt0) trodAll_mk0), rfl, bel.frame _, fun h => by cases h⟩

/-- The given statement. -/
theorem GcodeTakes_holds : Rows.GcodeTakesSaid :=
  OpenClaim.holds_of_wide 3 Tryz.f3 rfl rfl rfl rfl rfl rfl rfl ⟨rfl, rfl, rfl, rfl, rfl⟩ rfl rfl rfl rfl rfl (by kernel_rfl) Tryz.func3 (by kernel_rfl)
    (of_decide_eq_true (by kernel_rfl)) (by unfold Func.isWrapper; first | (rw [if_pos (by decide +kernel)]; kernel_rfl) | (rw [if_neg (by decide +kernel)]; exact ⟨rfl, rfl⟩))
    (fun os started H enc _ => GcodeTakes_lifted os started H enc)


end Go.Proofs.YtjebipagehhkjaaGreat
