/-
  What graph.Inner, and the document's own, do to the world: for every node each returns the plain summary, and what was there stays as it was.
-/
import Derived.Test.YtehianjfpmbfpaaGreatHBlk
namespace Go.Proofs.YtehianjfpmbfpaaGreat
set_option maxRecDepth 100000
open Go.RowKit
set_option linter.unusedVariables false
set_option linter.unusedSimpArgs false

set_option maxHeartbeats 1000000 in
theorem inn_zero_a (k a b d : Int) (h : insP k = 0) (w : World) :
    Calls Tryz.prog 81 #[.agg #[.int .i64 k, .int .i64 a, .int .i64 b, .int .i64 d]] w fun e w' => e = .returned (.agg #[.int .i64 0, .int .i64 0, .int .i64 0, .int .i64 0, .int .i64 0, .int .i64 0, .int .i64 0]) ∧ Grow w w' := by
  have C1 := hide (fun w => ins_at k h w)
  skip
  clear h 
  go_enter Tryz.func81, Tryz.ntmps81
  go_wp2_with fail
  refine (C1.out _).mono ?_
  rintro e w1 ⟨rfl, rfl⟩
  go_wp2_with fail
  skip
  skip
  skip
  refine bodyPost_ret (v := .agg #[.int .i64 0, .int .i64 0, .int .i64 0, .int .i64 0, .int .i64 0, .int .i64 0, .int .i64 0]) (by simp [results, Tryz.results81, go_sem]) rfl ⟨rfl, ?_⟩
  (repeat (first | exact Below.refl _ _ | assumption | refine Below.setCell ?_ (by simp; try omega) _ | refine Below.alloc ?_ (by simp; try omega) _))
set_option maxHeartbeats 1000000 in
theorem inn_zero_b (k a b d : Int) (h : insP k = 1) (h2 : hasP k = false) (w : World) :
    Calls Tryz.prog 81 #[.agg #[.int .i64 k, .int .i64 a, .int .i64 b, .int .i64 d]] w fun e w' => e = .returned (.agg #[.int .i64 0, .int .i64 0, .int .i64 0, .int .i64 0, .int .i64 0, .int .i64 0, .int .i64 0]) ∧ Grow w w' := by
  have C1 := hide (fun w => ins_at k h w)
  have C2 := hide (fun w => has_at k h2 w)
  clear h h2
  go_enter Tryz.func81, Tryz.ntmps81
  go_wp2_with fail
  refine (C1.out _).mono ?_
  rintro e w1 ⟨rfl, rfl⟩
  go_wp2_with fail
  refine (C2.out _).mono ?_
  rintro e w1 ⟨rfl, rfl⟩
  go_wp2_with fail
  refine bodyPost_ret (v := .agg #[.int .i64 0, .int .i64 0, .int .i64 0, .int .i64 0, .int .i64 0, .int .i64 0, .int .i64 0]) (by simp [results, Tryz.results81, go_sem]) rfl ⟨rfl, ?_⟩
  (repeat (first | exact Below.refl _ _ | assumption | refine Below.setCell ?_ (by simp; try omega) _ | refine Below.alloc ?_ (by simp; try omega) _))
set_option maxHeartbeats 1000000 in
theorem inn_8 (k a b d : Int) (h : k = 8) {i : Int} (hi : insP k = i) (hi0 : ¬ i = 0) (hh : hasP k = true) {z : Int} (hz : inDP ⟨k, a, b, d⟩ = z) (w : World) :
    Calls Tryz.prog 81 #[.agg #[.int .i64 k, .int .i64 a, .int .i64 b, .int .i64 d]] w fun e w' => e = .returned (.agg #[.int .i64 (enterS z).f, .int .i64 (enterS z).t, .int .i64 (enterS z).k, .int .i64 (enterS z).ep, .int .i64 (enterS z).x, .int .i64 (enterS z).y, .int .i64 (enterS z).z]) ∧ Grow w w' := by
  have hsz : (w.alloc (.cells #[.int .i64 k, .int .i64 a, .int .i64 b, .int .i64 d] 63)).heap.size = w.heap.size + 1 := by simp
  have KX : Hid (BoxN ((w.alloc (.cells #[.int .i64 k, .int .i64 a, .int .i64 b, .int .i64 d] 63)).alloc (.cells #[.int .i64 0, .int .i64 0, .int .i64 0, .int .i64 0, .int .i64 0, .int .i64 0, .int .i64 0] 68)) w.heap.size ⟨k, a, b, d⟩) := hide ((BoxN.new w ⟨k, a, b, d⟩).later (Grow.alloc' _ _))
  have G0 : Hid (Grow w ((w.alloc (.cells #[.int .i64 k, .int .i64 a, .int .i64 b, .int .i64 d] 63)).alloc (.cells #[.int .i64 0, .int .i64 0, .int .i64 0, .int .i64 0, .int .i64 0, .int .i64 0, .int .i64 0] 68))) := hide (Grow.trans' (Grow.alloc' _ _) (Grow.alloc' _ _))
  have KR : Hid (BlkS ((w.alloc (.cells #[.int .i64 k, .int .i64 a, .int .i64 b, .int .i64 d] 63)).alloc (.cells #[.int .i64 0, .int .i64 0, .int .i64 0, .int .i64 0, .int .i64 0, .int .i64 0, .int .i64 0] 68)) (w.heap.size + 1)) := hide (by rw [← hsz]; exact BlkS.new _)
  have C1 := hide (fun w => ins_at k hi w)
  have C2 := hide (fun w => has_at k hh w)
  have C3 := hide (fun w => inD_at k a b d hz w)
  obtain ⟨s, hs⟩ : ∃ s, s = enterS z := ⟨_, rfl⟩
  have C4 := hide (fun w => enter_any z w)
  rw [← hs] at C4 ⊢
  clear hi hh hz hs hsz
  subst h
  go_enter Tryz.func81, Tryz.ntmps81
  go_wp2_with fail
  refine (C1.out _).mono ?_
  rintro e w1 ⟨rfl, rfl⟩
  go_wp2_with fail
  refine (C2.out _).mono ?_
  rintro e w1 ⟨rfl, rfl⟩
  go_wp2_with fail
  refine (C3.out _).mono ?_
  rintro e w2 ⟨rfl, hb⟩
  have G2 := hide (Grow.trans' G0.out hb)
  have KR2 := hide (KR.out.later hb)
  obtain ⟨p0, p1, p2, p3⟩ := KX.out.later hb
  clear hb G0 KR KX C1 C2 C3
  dsimp only at p0 p1 p2 p3
  go_wp2_with fail
  refine (C4.out _).mono ?_
  rintro e w3 ⟨rfl, hb⟩
  have G3 := hide (Grow.trans' G2.out hb)
  have KR3 := hide (KR2.out.later hb)
  clear hb G2 KR2 C4 p0 p1 p2 p3
  go_wp2_with (refine wpList_storeS rfl _ _ rfl (w.heap.size + 1) s rfl rfl KR3.out ?_)
  exact bodyPost_ret (resultsS (fn := Tryz.f81) (i := 2) rfl _ _ (b := w.heap.size + 1) (t := s) rfl (KR3.out.box s)) rfl ⟨rfl, grow_setRow G3.out (Nat.le_succ _) _⟩
set_option maxHeartbeats 1000000 in
theorem inn_9 (k a b d : Int) (h : k = 9) {i : Int} (hi : insP k = i) (hi0 : ¬ i = 0) (hh : hasP k = true) {z : Int} (hz : inDP ⟨k, a, b, d⟩ = z) (w : World) :
    Calls Tryz.prog 81 #[.agg #[.int .i64 k, .int .i64 a, .int .i64 b, .int .i64 d]] w fun e w' => e = .returned (.agg #[.int .i64 (leaveS z).f, .int .i64 (leaveS z).t, .int .i64 (leaveS z).k, .int .i64 (leaveS z).ep, .int .i64 (leaveS z).x, .int .i64 (leaveS z).y, .int .i64 (leaveS z).z]) ∧ Grow w w' := by
  have hsz : (w.alloc (.cells #[.int .i64 k, .int .i64 a, .int .i64 b, .int .i64 d] 63)).heap.size = w.heap.size + 1 := by simp
  have KX : Hid (BoxN ((w.alloc (.cells #[.int .i64 k, .int .i64 a, .int .i64 b, .int .i64 d] 63)).alloc (.cells #[.int .i64 0, .int .i64 0, .int .i64 0, .int .i64 0, .int .i64 0, .int .i64 0, .int .i64 0] 68)) w.heap.size ⟨k, a, b, d⟩) := hide ((BoxN.new w ⟨k, a, b, d⟩).later (Grow.alloc' _ _))
  have G0 : Hid (Grow w ((w.alloc (.cells #[.int .i64 k, .int .i64 a, .int .i64 b, .int .i64 d] 63)).alloc (.cells #[.int .i64 0, .int .i64 0, .int .i64 0, .int .i64 0, .int .i64 0, .int .i64 0, .int .i64 0] 68))) := hide (Grow.trans' (Grow.alloc' _ _) (Grow.alloc' _ _))
  have KR : Hid (BlkS ((w.alloc (.cells #[.int .i64 k, .int .i64 a, .int .i64 b, .int .i64 d] 63)).alloc (.cells #[.int .i64 0, .int .i64 0, .int .i64 0, .int .i64 0, .int .i64 0, .int .i64 0, .int .i64 0] 68)) (w.heap.size + 1)) := hide (by rw [← hsz]; exact BlkS.new _)
  have C1 := hide (fun w => ins_at k hi w)
  have C2 := hide (fun w => has_at k hh w)
  have C3 := hide (fun w => inD_at k a b d hz w)
  obtain ⟨s, hs⟩ : ∃ s, s = leaveS z := ⟨_, rfl⟩
  have C4 := hide (fun w => leave_any z w)
  rw [← hs] at C4 ⊢
  clear hi hh hz hs hsz
  subst h
  go_enter Tryz.func81, Tryz.ntmps81
  go_wp2_with fail
  refine (C1.out _).mono ?_
  rintro e w1 ⟨rfl, rfl⟩
  go_wp2_with fail
  refine (C2.out _).mono ?_
  rintro e w1 ⟨rfl, rfl⟩
  go_wp2_with fail
  refine (C3.out _).mono ?_
  rintro e w2 ⟨rfl, hb⟩
  have G2 := hide (Grow.trans' G0.out hb)
  have KR2 := hide (KR.out.later hb)
  obtain ⟨p0, p1, p2, p3⟩ := KX.out.later hb
  clear hb G0 KR KX C1 C2 C3
  dsimp only at p0 p1 p2 p3
  go_wp2_with fail
  refine (C4.out _).mono ?_
  rintro e w3 ⟨rfl, hb⟩
  have G3 := hide (Grow.trans' G2.out hb)
  have KR3 := hide (KR2.out.later hb)
  clear hb G2 KR2 C4 p0 p1 p2 p3
  go_wp2_with (refine wpList_storeS rfl _ _ rfl (w.heap.size + 1) s rfl rfl KR3.out ?_)
  exact bodyPost_ret (resultsS (fn := Tryz.f81) (i := 2) rfl _ _ (b := w.heap.size + 1) (t := s) rfl (KR3.out.box s)) rfl ⟨rfl, grow_setRow G3.out (Nat.le_succ _) _⟩
set_option maxHeartbeats 1000000 in
theorem inn_10 (k a b d : Int) (h : k = 10) {i : Int} (hi : insP k = i) (hi0 : ¬ i = 0) (hh : hasP k = true) {z : Int} (hz : inDP ⟨k, a, b, d⟩ = z) (w : World) :
    Calls Tryz.prog 81 #[.agg #[.int .i64 k, .int .i64 a, .int .i64 b, .int .i64 d]] w fun e w' => e = .returned (.agg #[.int .i64 (feedS z).f, .int .i64 (feedS z).t, .int .i64 (feedS z).k, .int .i64 (feedS z).ep, .int .i64 (feedS z).x, .int .i64 (feedS z).y, .int .i64 (feedS z).z]) ∧ Grow w w' := by
  have hsz : (w.alloc (.cells #[.int .i64 k, .int .i64 a, .int .i64 b, .int .i64 d] 63)).heap.size = w.heap.size + 1 := by simp
  have KX : Hid (BoxN ((w.alloc (.cells #[.int .i64 k, .int .i64 a, .int .i64 b, .int .i64 d] 63)).alloc (.cells #[.int .i64 0, .int .i64 0, .int .i64 0, .int .i64 0, .int .i64 0, .int .i64 0, .int .i64 0] 68)) w.heap.size ⟨k, a, b, d⟩) := hide ((BoxN.new w ⟨k, a, b, d⟩).later (Grow.alloc' _ _))
  have G0 : Hid (Grow w ((w.alloc (.cells #[.int .i64 k, .int .i64 a, .int .i64 b, .int .i64 d] 63)).alloc (.cells #[.int .i64 0, .int .i64 0, .int .i64 0, .int .i64 0, .int .i64 0, .int .i64 0, .int .i64 0] 68))) := hide (Grow.trans' (Grow.alloc' _ _) (Grow.alloc' _ _))
  have KR : Hid (BlkS ((w.alloc (.cells #[.int .i64 k, .int .i64 a, .int .i64 b, .int .i64 d] 63)).alloc (.cells #[.int .i64 0, .int .i64 0, .int .i64 0, .int .i64 0, .int .i64 0, .int .i64 0, .int .i64 0] 68)) (w.heap.size + 1)) := hide (by rw [← hsz]; exact BlkS.new _)
  have C1 := hide (fun w => ins_at k hi w)
  have C2 := hide (fun w => has_at k hh w)
  have C3 := hide (fun w => inD_at k a b d hz w)
  obtain ⟨s, hs⟩ : ∃ s, s = feedS z := ⟨_, rfl⟩
  have C4 := hide (fun w => feed_any z w)
  rw [← hs] at C4 ⊢
  clear hi hh hz hs hsz
  subst h
  go_enter Tryz.func81, Tryz.ntmps81
  go_wp2_with fail
  refine (C1.out _).mono ?_
  rintro e w1 ⟨rfl, rfl⟩
  go_wp2_with fail
  refine (C2.out _).mono ?_
  rintro e w1 ⟨rfl, rfl⟩
  go_wp2_with fail
  refine (C3.out _).mono ?_
  rintro e w2 ⟨rfl, hb⟩
  have G2 := hide (Grow.trans' G0.out hb)
  have KR2 := hide (KR.out.later hb)
  obtain ⟨p0, p1, p2, p3⟩ := KX.out.later hb
  clear hb G0 KR KX C1 C2 C3
  dsimp only at p0 p1 p2 p3
  go_wp2_with fail
  refine (C4.out _).mono ?_
  rintro e w3 ⟨rfl, hb⟩
  have G3 := hide (Grow.trans' G2.out hb)
  have KR3 := hide (KR2.out.later hb)
  clear hb G2 KR2 C4 p0 p1 p2 p3
  go_wp2_with (refine wpList_storeS rfl _ _ rfl (w.heap.size + 1) s rfl rfl KR3.out ?_)
  exact bodyPost_ret (resultsS (fn := Tryz.f81) (i := 2) rfl _ _ (b := w.heap.size + 1) (t := s) rfl (KR3.out.box s)) rfl ⟨rfl, grow_setRow G3.out (Nat.le_succ _) _⟩
set_option maxHeartbeats 1000000 in
theorem inn_s (k a b d : Int) (h : ¬ k = 8 ∧ ¬ k = 9 ∧ ¬ k = 10) {i : Int} (hi : insP k = i) (hi0 : ¬ i = 0) (hh : hasP k = true) {z : Int} (hz : inDP ⟨k, a, b, d⟩ = z) (w : World) :
    Calls Tryz.prog 81 #[.agg #[.int .i64 k, .int .i64 a, .int .i64 b, .int .i64 d]] w fun e w' => e = .returned (.agg #[.int .i64 (sameS z).f, .int .i64 (sameS z).t, .int .i64 (sameS z).k, .int .i64 (sameS z).ep, .int .i64 (sameS z).x, .int .i64 (sameS z).y, .int .i64 (sameS z).z]) ∧ Grow w w' := by
  have hsz : (w.alloc (.cells #[.int .i64 k, .int .i64 a, .int .i64 b, .int .i64 d] 63)).heap.size = w.heap.size + 1 := by simp
  have KX : Hid (BoxN ((w.alloc (.cells #[.int .i64 k, .int .i64 a, .int .i64 b, .int .i64 d] 63)).alloc (.cells #[.int .i64 0, .int .i64 0, .int .i64 0, .int .i64 0, .int .i64 0, .int .i64 0, .int .i64 0] 68)) w.heap.size ⟨k, a, b, d⟩) := hide ((BoxN.new w ⟨k, a, b, d⟩).later (Grow.alloc' _ _))
  have G0 : Hid (Grow w ((w.alloc (.cells #[.int .i64 k, .int .i64 a, .int .i64 b, .int .i64 d] 63)).alloc (.cells #[.int .i64 0, .int .i64 0, .int .i64 0, .int .i64 0, .int .i64 0, .int .i64 0, .int .i64 0] 68))) := hide (Grow.trans' (Grow.alloc' _ _) (Grow.alloc' _ _))
  have KR : Hid (BlkS ((w.alloc (.cells #[.int .i64 k, .int .i64 a, .int .i64 b, .int .i64 d] 63)).alloc (.cells #[.int .i64 0, .int .i64 0, .int .i64 0, .int .i64 0, .int .i64 0, .int .i64 0, .int .i64 0] 68)) (w.heap.size + 1)) := hide (by rw [← hsz]; exact BlkS.new _)
  have C1 := hide (fun w => ins_at k hi w)
  have C2 := hide (fun w => has_at k hh w)
  have C3 := hide (fun w => inD_at k a b d hz w)
  obtain ⟨s, hs⟩ : ∃ s, s = sameS z := ⟨_, rfl⟩
  have C4 := hide (fun w => same_any z w)
  rw [← hs] at C4 ⊢
  clear hi hh hz hs hsz
  obtain ⟨h1, h2, h3⟩ := h
  go_enter Tryz.func81, Tryz.ntmps81
  go_wp2_with fail
  refine (C1.out _).mono ?_
  rintro e w1 ⟨rfl, rfl⟩
  go_wp2_with fail
  refine (C2.out _).mono ?_
  rintro e w1 ⟨rfl, rfl⟩
  go_wp2_with fail
  refine (C3.out _).mono ?_
  rintro e w2 ⟨rfl, hb⟩
  have G2 := hide (Grow.trans' G0.out hb)
  have KR2 := hide (KR.out.later hb)
  obtain ⟨p0, p1, p2, p3⟩ := KX.out.later hb
  clear hb G0 KR KX C1 C2 C3
  dsimp only at p0 p1 p2 p3
  go_wp2_with fail
  refine (C4.out _).mono ?_
  rintro e w3 ⟨rfl, hb⟩
  have G3 := hide (Grow.trans' G2.out hb)
  have KR3 := hide (KR2.out.later hb)
  clear hb G2 KR2 C4 p0 p1 p2 p3
  go_wp2_with (refine wpList_storeS rfl _ _ rfl (w.heap.size + 1) s rfl rfl KR3.out ?_)
  exact bodyPost_ret (resultsS (fn := Tryz.f81) (i := 2) rfl _ _ (b := w.heap.size + 1) (t := s) rfl (KR3.out.box s)) rfl ⟨rfl, grow_setRow G3.out (Nat.le_succ _) _⟩
theorem inn_any (k a b d : Int) (w : World) :
    Calls Tryz.prog 81 #[.agg #[.int .i64 k, .int .i64 a, .int .i64 b, .int .i64 d]] w fun e w' => e = .returned (.agg #[.int .i64 (innP ⟨k, a, b, d⟩).f, .int .i64 (innP ⟨k, a, b, d⟩).t, .int .i64 (innP ⟨k, a, b, d⟩).k, .int .i64 (innP ⟨k, a, b, d⟩).ep, .int .i64 (innP ⟨k, a, b, d⟩).x, .int .i64 (innP ⟨k, a, b, d⟩).y, .int .i64 (innP ⟨k, a, b, d⟩).z]) ∧ Grow w w' := by
  have hc : (k < 2 ∨ 11 < k) ∨ k = 11 ∨ k = 8 ∨ k = 9 ∨ k = 10 ∨ (2 ≤ k ∧ k ≤ 7) := by omega
  have hp : 2 ≤ k → k ≤ 10 → ¬ insP k = 0 ∧ hasP k = true := by
    intro h1 h2
    refine ⟨?_, by simp [hasP]; omega⟩
    unfold insP
    repeat' split
    all_goals omega
  rcases hc with h | h | h | h | h | h
  · have e : innP ⟨k, a, b, d⟩ = ⟨0, 0, 0, 0, 0, 0, 0⟩ := by
      unfold innP
      simp only
      rw [if_neg (by omega), if_neg (by omega), if_neg (by omega), if_neg (by omega)]
    rw [e]
    exact inn_zero_a k a b d (by unfold insP; rw [if_neg (by omega), if_neg (by omega)]) w
  · have e : innP ⟨k, a, b, d⟩ = ⟨0, 0, 0, 0, 0, 0, 0⟩ := by
      unfold innP
      simp only
      rw [if_neg (by omega), if_neg (by omega), if_neg (by omega), if_neg (by omega)]
    rw [e]
    exact inn_zero_b k a b d (by rw [h]; rfl) (by rw [h]; rfl) w
  · have e : innP ⟨k, a, b, d⟩ = enterS (inDP ⟨k, a, b, d⟩) := by unfold innP; rw [if_pos h]
    rw [e]
    exact inn_8 k a b d h rfl (hp (by omega) (by omega)).1 (hp (by omega) (by omega)).2 rfl w
  · have e : innP ⟨k, a, b, d⟩ = leaveS (inDP ⟨k, a, b, d⟩) := by unfold innP; rw [if_neg (show ¬ k = 8 by omega), if_pos h]
    rw [e]
    exact inn_9 k a b d h rfl (hp (by omega) (by omega)).1 (hp (by omega) (by omega)).2 rfl w
  · have e : innP ⟨k, a, b, d⟩ = feedS d := by unfold innP; rw [if_neg (show ¬ k = 8 by omega), if_neg (show ¬ k = 9 by omega), if_pos h]
    rw [e]
    exact inn_10 k a b d h rfl (hp (by omega) (by omega)).1 (hp (by omega) (by omega)).2 (by unfold inDP; rw [if_neg (show ¬ k = 8 by omega), if_neg (show ¬ k = 9 by omega)]) w
  · have e : innP ⟨k, a, b, d⟩ = sameS d := by unfold innP; rw [if_neg (show ¬ k = 8 by omega), if_neg (show ¬ k = 9 by omega), if_neg (show ¬ k = 10 by omega), if_pos h]
    rw [e]
    exact inn_s k a b d ⟨by omega, by omega, by omega⟩ rfl (hp (by omega) (by omega)).1 (hp (by omega) (by omega)).2 (by unfold inDP; rw [if_neg (show ¬ k = 8 by omega), if_neg (show ¬ k = 9 by omega)]) w
set_option maxHeartbeats 1000000 in
theorem rinn_8 (k a b d : Int) (h : k = 8) {z : Int} (hz : inDP ⟨k, a, b, d⟩ = z) (w : World) :
    Calls Tryz.prog 26 #[.agg #[.int .i64 k, .int .i64 a, .int .i64 b, .int .i64 d]] w fun e w' => e = .returned (.agg #[.int .i64 (enterS z).f, .int .i64 (enterS z).t, .int .i64 (enterS z).k, .int .i64 (enterS z).ep, .int .i64 (enterS z).x, .int .i64 (enterS z).y, .int .i64 (enterS z).z]) ∧ Grow w w' := by
  have hsz : (w.alloc (.cells #[.int .i64 k, .int .i64 a, .int .i64 b, .int .i64 d] 63)).heap.size = w.heap.size + 1 := by simp
  have G0 : Hid (Grow w ((w.alloc (.cells #[.int .i64 k, .int .i64 a, .int .i64 b, .int .i64 d] 63)).alloc (.cells #[.int .i64 0, .int .i64 0, .int .i64 0, .int .i64 0, .int .i64 0, .int .i64 0, .int .i64 0] 68))) := hide (Grow.trans' (Grow.alloc' _ _) (Grow.alloc' _ _))
  have KR : Hid (BlkS ((w.alloc (.cells #[.int .i64 k, .int .i64 a, .int .i64 b, .int .i64 d] 63)).alloc (.cells #[.int .i64 0, .int .i64 0, .int .i64 0, .int .i64 0, .int .i64 0, .int .i64 0, .int .i64 0] 68)) (w.heap.size + 1)) := hide (by rw [← hsz]; exact BlkS.new _)
  have C3 := hide (fun w => rinD_at k a b d hz w)
  obtain ⟨s, hs⟩ : ∃ s, s = enterS z := ⟨_, rfl⟩
  have C4 := hide (fun w => refEnter_any z w)
  rw [← hs] at C4 ⊢
  clear hz hs hsz
  subst h
  go_enter Tryz.func26, Tryz.ntmps26
  go_wp2_with fail
  refine (C3.out _).mono ?_
  rintro e w2 ⟨rfl, hb⟩
  have G2 := hide (Grow.trans' G0.out hb)
  have KR2 := hide (KR.out.later hb)
  clear hb G0 KR C3
  go_wp2_with fail
  refine (C4.out _).mono ?_
  rintro e w3 ⟨rfl, hb⟩
  have G3 := hide (Grow.trans' G2.out hb)
  have KR3 := hide (KR2.out.later hb)
  clear hb G2 KR2 C4
  go_wp2_with (refine wpList_storeS rfl _ _ rfl (w.heap.size + 1) s rfl rfl KR3.out ?_)
  exact bodyPost_ret (resultsS (fn := Tryz.f26) (i := 2) rfl _ _ (b := w.heap.size + 1) (t := s) rfl (KR3.out.box s)) rfl ⟨rfl, grow_setRow G3.out (Nat.le_succ _) _⟩
set_option maxHeartbeats 1000000 in
theorem rinn_9 (k a b d : Int) (h : k = 9) {z : Int} (hz : inDP ⟨k, a, b, d⟩ = z) (w : World) :
    Calls Tryz.prog 26 #[.agg #[.int .i64 k, .int .i64 a, .int .i64 b, .int .i64 d]] w fun e w' => e = .returned (.agg #[.int .i64 (leaveS z).f, .int .i64 (leaveS z).t, .int .i64 (leaveS z).k, .int .i64 (leaveS z).ep, .int .i64 (leaveS z).x, .int .i64 (leaveS z).y, .int .i64 (leaveS z).z]) ∧ Grow w w' := by
  have hsz : (w.alloc (.cells #[.int .i64 k, .int .i64 a, .int .i64 b, .int .i64 d] 63)).heap.size = w.heap.size + 1 := by simp
  have G0 : Hid (Grow w ((w.alloc (.cells #[.int .i64 k, .int .i64 a, .int .i64 b, .int .i64 d] 63)).alloc (.cells #[.int .i64 0, .int .i64 0, .int .i64 0, .int .i64 0, .int .i64 0, .int .i64 0, .int .i64 0] 68))) := hide (Grow.trans' (Grow.alloc' _ _) (Grow.alloc' _ _))
  have KR : Hid (BlkS ((w.alloc (.cells #[.int .i64 k, .int .i64 a, .int .i64 b, .int .i64 d] 63)).alloc (.cells #[.int .i64 0, .int .i64 0, .int .i64 0, .int .i64 0, .int .i64 0, .int .i64 0, .int .i64 0] 68)) (w.heap.size + 1)) := hide (by rw [← hsz]; exact BlkS.new _)
  have C3 := hide (fun w => rinD_at k a b d hz w)
  obtain ⟨s, hs⟩ : ∃ s, s = leaveS z := ⟨_, rfl⟩
  have C4 := hide (fun w => refLeave_any z w)
  rw [← hs] at C4 ⊢
  clear hz hs hsz
  subst h
  go_enter Tryz.func26, Tryz.ntmps26
  go_wp2_with fail
  refine (C3.out _).mono ?_
  rintro e w2 ⟨rfl, hb⟩
  have G2 := hide (Grow.trans' G0.out hb)
  have KR2 := hide (KR.out.later hb)
  clear hb G0 KR C3
  go_wp2_with fail
  refine (C4.out _).mono ?_
  rintro e w3 ⟨rfl, hb⟩
  have G3 := hide (Grow.trans' G2.out hb)
  have KR3 := hide (KR2.out.later hb)
  clear hb G2 KR2 C4
  go_wp2_with (refine wpList_storeS rfl _ _ rfl (w.heap.size + 1) s rfl rfl KR3.out ?_)
  exact bodyPost_ret (resultsS (fn := Tryz.f26) (i := 2) rfl _ _ (b := w.heap.size + 1) (t := s) rfl (KR3.out.box s)) rfl ⟨rfl, grow_setRow G3.out (Nat.le_succ _) _⟩
set_option maxHeartbeats 1000000 in
theorem rinn_10 (k a b d : Int) (h : k = 10) (w : World) :
    Calls Tryz.prog 26 #[.agg #[.int .i64 k, .int .i64 a, .int .i64 b, .int .i64 d]] w fun e w' => e = .returned (.agg #[.int .i64 (feedS d).f, .int .i64 (feedS d).t, .int .i64 (feedS d).k, .int .i64 (feedS d).ep, .int .i64 (feedS d).x, .int .i64 (feedS d).y, .int .i64 (feedS d).z]) ∧ Grow w w' := by
  have hsz : (w.alloc (.cells #[.int .i64 k, .int .i64 a, .int .i64 b, .int .i64 d] 63)).heap.size = w.heap.size + 1 := by simp
  have G0 : Hid (Grow w ((w.alloc (.cells #[.int .i64 k, .int .i64 a, .int .i64 b, .int .i64 d] 63)).alloc (.cells #[.int .i64 0, .int .i64 0, .int .i64 0, .int .i64 0, .int .i64 0, .int .i64 0, .int .i64 0] 68))) := hide (Grow.trans' (Grow.alloc' _ _) (Grow.alloc' _ _))
  have KR : Hid (BlkS ((w.alloc (.cells #[.int .i64 k, .int .i64 a, .int .i64 b, .int .i64 d] 63)).alloc (.cells #[.int .i64 0, .int .i64 0, .int .i64 0, .int .i64 0, .int .i64 0, .int .i64 0, .int .i64 0] 68)) (w.heap.size + 1)) := hide (by rw [← hsz]; exact BlkS.new _)
  obtain ⟨s, hs⟩ : ∃ s, s = feedS d := ⟨_, rfl⟩
  have C4 := hide (fun w => refFeed_any d w)
  rw [← hs] at C4 ⊢
  clear hs hsz
  subst h
  go_enter Tryz.func26, Tryz.ntmps26
  go_wp2_with fail
  refine (C4.out _).mono ?_
  rintro e w3 ⟨rfl, hb⟩
  have G3 := hide (Grow.trans' G0.out hb)
  have KR3 := hide (KR.out.later hb)
  clear hb G0 KR C4
  go_wp2_with (refine wpList_storeS rfl _ _ rfl (w.heap.size + 1) s rfl rfl KR3.out ?_)
  exact bodyPost_ret (resultsS (fn := Tryz.f26) (i := 2) rfl _ _ (b := w.heap.size + 1) (t := s) rfl (KR3.out.box s)) rfl ⟨rfl, grow_setRow G3.out (Nat.le_succ _) _⟩
set_option maxHeartbeats 1000000 in
theorem rinn_s (k a b d : Int) (h : ¬ k = 8 ∧ ¬ k = 9 ∧ ¬ k = 10 ∧ 2 ≤ k ∧ k ≤ 7) (w : World) :
    Calls Tryz.prog 26 #[.agg #[.int .i64 k, .int .i64 a, .int .i64 b, .int .i64 d]] w fun e w' => e = .returned (.agg #[.int .i64 (sameS d).f, .int .i64 (sameS d).t, .int .i64 (sameS d).k, .int .i64 (sameS d).ep, .int .i64 (sameS d).x, .int .i64 (sameS d).y, .int .i64 (sameS d).z]) ∧ Grow w w' := by
  have hsz : (w.alloc (.cells #[.int .i64 k, .int .i64 a, .int .i64 b, .int .i64 d] 63)).heap.size = w.heap.size + 1 := by simp
  have G0 : Hid (Grow w ((w.alloc (.cells #[.int .i64 k, .int .i64 a, .int .i64 b, .int .i64 d] 63)).alloc (.cells #[.int .i64 0, .int .i64 0, .int .i64 0, .int .i64 0, .int .i64 0, .int .i64 0, .int .i64 0] 68))) := hide (Grow.trans' (Grow.alloc' _ _) (Grow.alloc' _ _))
  have KR : Hid (BlkS ((w.alloc (.cells #[.int .i64 k, .int .i64 a, .int .i64 b, .int .i64 d] 63)).alloc (.cells #[.int .i64 0, .int .i64 0, .int .i64 0, .int .i64 0, .int .i64 0, .int .i64 0, .int .i64 0] 68)) (w.heap.size + 1)) := hide (by rw [← hsz]; exact BlkS.new _)
  obtain ⟨s, hs⟩ : ∃ s, s = sameS d := ⟨_, rfl⟩
  have C4 := hide (fun w => refSame_any d w)
  rw [← hs] at C4 ⊢
  clear hs hsz
  obtain ⟨h1, h2, h3, h4, h5⟩ := h
  go_enter Tryz.func26, Tryz.ntmps26
  go_wp2_with fail
  refine (C4.out _).mono ?_
  rintro e w3 ⟨rfl, hb⟩
  have G3 := hide (Grow.trans' G0.out hb)
  have KR3 := hide (KR.out.later hb)
  clear hb G0 KR C4
  go_wp2_with (refine wpList_storeS rfl _ _ rfl (w.heap.size + 1) s rfl rfl KR3.out ?_)
  exact bodyPost_ret (resultsS (fn := Tryz.f26) (i := 2) rfl _ _ (b := w.heap.size + 1) (t := s) rfl (KR3.out.box s)) rfl ⟨rfl, grow_setRow G3.out (Nat.le_succ _) _⟩
set_option maxHeartbeats 1000000 in
theorem rinn_zero_0 (k a b d : Int) (h1 : ¬ k = 8) (h2 : ¬ k = 9) (h3 : ¬ k = 10) (h4 : ¬ 2 ≤ k) (w : World) :
    Calls Tryz.prog 26 #[.agg #[.int .i64 k, .int .i64 a, .int .i64 b, .int .i64 d]] w fun e w' => e = .returned (.agg #[.int .i64 0, .int .i64 0, .int .i64 0, .int .i64 0, .int .i64 0, .int .i64 0, .int .i64 0]) ∧ Grow w w' := by
  go_enter Tryz.func26, Tryz.ntmps26
  go_wp2_with fail
  refine bodyPost_ret (v := .agg #[.int .i64 0, .int .i64 0, .int .i64 0, .int .i64 0, .int .i64 0, .int .i64 0, .int .i64 0]) (by simp [results, Tryz.results26, go_sem]) rfl ⟨rfl, ?_⟩
  (repeat (first | exact Below.refl _ _ | assumption | refine Below.setCell ?_ (by simp; try omega) _ | refine Below.alloc ?_ (by simp; try omega) _))
set_option maxHeartbeats 1000000 in
theorem rinn_zero_1 (k a b d : Int) (h1 : ¬ k = 8) (h2 : ¬ k = 9) (h3 : ¬ k = 10) (h4 : 2 ≤ k) (h5 : ¬ k ≤ 7) (w : World) :
    Calls Tryz.prog 26 #[.agg #[.int .i64 k, .int .i64 a, .int .i64 b, .int .i64 d]] w fun e w' => e = .returned (.agg #[.int .i64 0, .int .i64 0, .int .i64 0, .int .i64 0, .int .i64 0, .int .i64 0, .int .i64 0]) ∧ Grow w w' := by
  go_enter Tryz.func26, Tryz.ntmps26
  go_wp2_with fail
  refine bodyPost_ret (v := .agg #[.int .i64 0, .int .i64 0, .int .i64 0, .int .i64 0, .int .i64 0, .int .i64 0, .int .i64 0]) (by simp [results, Tryz.results26, go_sem]) rfl ⟨rfl, ?_⟩
  (repeat (first | exact Below.refl _ _ | assumption | refine Below.setCell ?_ (by simp; try omega) _ | refine Below.alloc ?_ (by simp; try omega) _))
theorem rinn_any (k a b d : Int) (w : World) :
    Calls Tryz.prog 26 #[.agg #[.int .i64 k, .int .i64 a, .int .i64 b, .int .i64 d]] w fun e w' => e = .returned (.agg #[.int .i64 (innP ⟨k, a, b, d⟩).f, .int .i64 (innP ⟨k, a, b, d⟩).t, .int .i64 (innP ⟨k, a, b, d⟩).k, .int .i64 (innP ⟨k, a, b, d⟩).ep, .int .i64 (innP ⟨k, a, b, d⟩).x, .int .i64 (innP ⟨k, a, b, d⟩).y, .int .i64 (innP ⟨k, a, b, d⟩).z]) ∧ Grow w w' := by
  have hc : (¬ k = 8 ∧ ¬ k = 9 ∧ ¬ k = 10 ∧ ¬ 2 ≤ k) ∨ (¬ k = 8 ∧ ¬ k = 9 ∧ ¬ k = 10 ∧ 2 ≤ k ∧ ¬ k ≤ 7) ∨ k = 8 ∨ k = 9 ∨ k = 10 ∨ (2 ≤ k ∧ k ≤ 7) := by omega
  rcases hc with h | h | h | h | h | h
  · have e : innP ⟨k, a, b, d⟩ = ⟨0, 0, 0, 0, 0, 0, 0⟩ := by
      unfold innP
      simp only
      rw [if_neg (by omega), if_neg (by omega), if_neg (by omega), if_neg (by omega)]
    rw [e]
    exact rinn_zero_0 k a b d h.1 h.2.1 h.2.2.1 h.2.2.2 w
  · have e : innP ⟨k, a, b, d⟩ = ⟨0, 0, 0, 0, 0, 0, 0⟩ := by
      unfold innP
      simp only
      rw [if_neg (by omega), if_neg (by omega), if_neg (by omega), if_neg (by omega)]
    rw [e]
    exact rinn_zero_1 k a b d h.1 h.2.1 h.2.2.1 h.2.2.2.1 h.2.2.2.2 w
  · have e : innP ⟨k, a, b, d⟩ = enterS (inDP ⟨k, a, b, d⟩) := by unfold innP; rw [if_pos h]
    rw [e]
    exact rinn_8 k a b d h rfl w
  · have e : innP ⟨k, a, b, d⟩ = leaveS (inDP ⟨k, a, b, d⟩) := by unfold innP; rw [if_neg (show ¬ k = 8 by omega), if_pos h]
    rw [e]
    exact rinn_9 k a b d h rfl w
  · have e : innP ⟨k, a, b, d⟩ = feedS d := by unfold innP; rw [if_neg (show ¬ k = 8 by omega), if_neg (show ¬ k = 9 by omega), if_pos h]
    rw [e]
    exact rinn_10 k a b d h w
  · have e : innP ⟨k, a, b, d⟩ = sameS d := by unfold innP; rw [if_neg (show ¬ k = 8 by omega), if_neg (show ¬ k = 9 by omega), if_neg (show ¬ k = 10 by omega), if_pos h]
    rw [e]
    exact rinn_s k a b d ⟨by omega, by omega, by omega, h.1, h.2⟩ w

end Go.Proofs.YtehianjfpmbfpaaGreat
