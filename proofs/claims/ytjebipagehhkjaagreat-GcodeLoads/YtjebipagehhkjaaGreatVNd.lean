/-
  What valid.Node with its two parts does to the world: for every node it returns its plain answer, and what was there stays as it was.
-/
import Derived.Test.YtjebipagehhkjaaGreatVCon
import Derived.Test.YtjebipagehhkjaaGreatVPl
import Derived.Test.YtjebipagehhkjaaGreatHBlk
namespace Go.Proofs.YtjebipagehhkjaaGreat
set_option maxRecDepth 100000
open Go.RowKit
set_option linter.unusedVariables false
set_option linter.unusedSimpArgs false

/-- May a node of this kind have this depth? -/
def depK (k d : Int) : Bool := if k = 1 ∨ k = 11 ∨ k = 7 then decide (d = 0) else if k = 8 ∨ k = 10 then decide (0 < d) else if k = 9 then decide (d < 3) else true
/-- May a node of this kind have these numbers? -/
def numK (k a b : Int) : Bool :=
  if k = 2 then mayMapB a b
  else if k = 3 then mayFilB a b
  else if k = 6 then mayRedB a && decide (b = 0)
  else if k = 7 then mayW a b
  else if k = 10 then decide (1 ≤ a) && decide (a ≤ 6) && decide (b = 0)
  else if k = 1 ∨ k = 4 ∨ k = 5 ∨ k = 8 ∨ k = 9 ∨ k = 11 then decide (a = 0) && decide (b = 0)
  else false
theorem kind_cases (k : Int) : k = 1 ∨ k = 2 ∨ k = 3 ∨ k = 4 ∨ k = 5 ∨ k = 6 ∨ k = 7 ∨ k = 8 ∨ k = 9 ∨ k = 10 ∨ k = 11 ∨ (k ≠ 1 ∧ k ≠ 2 ∧ k ≠ 3 ∧ k ≠ 4 ∧ k ≠ 5 ∧ k ≠ 6 ∧ k ≠ 7 ∧ k ≠ 8 ∧ k ≠ 9 ∧ k ≠ 10 ∧ k ≠ 11) := by omega
theorem nodeB_parts (k a b d : Int) : nodeB ⟨k, a, b, d⟩ = (depthB d && depK k d && numK k a b) := by
  rw [Bool.eq_iff_iff]
  rcases kind_cases k with rfl | rfl | rfl | rfl | rfl | rfl | rfl | rfl | rfl | rfl | rfl | ⟨h1, h2, h3, h4, h5, h6, h7, h8, h9, h10, h11⟩
  all_goals (simp [nodeB, depK, numK, *]; try grind)
theorem mayDep_1 (a b d : Int) {p : Bool} (hp : decide (d = 0) = p) (w : World) :
    Calls Tryz.prog 71 #[.agg #[.int .i64 1, .int .i64 a, .int .i64 b, .int .i64 d]] w fun e w' => e = .returned (.bool p) ∧ Grow w w' := by
  subst hp
  go_enter Tryz.func71, Tryz.ntmps71
  go_wp2_with fail
  go_ret
  exact ⟨ret_bool (by simp), Grow.alloc' _ _⟩
theorem mayDep_11 (a b d : Int) {p : Bool} (hp : decide (d = 0) = p) (w : World) :
    Calls Tryz.prog 71 #[.agg #[.int .i64 11, .int .i64 a, .int .i64 b, .int .i64 d]] w fun e w' => e = .returned (.bool p) ∧ Grow w w' := by
  subst hp
  go_enter Tryz.func71, Tryz.ntmps71
  go_wp2_with fail
  go_ret
  exact ⟨ret_bool (by simp), Grow.alloc' _ _⟩
theorem mayDep_7 (a b d : Int) {p : Bool} (hp : decide (d = 0) = p) (w : World) :
    Calls Tryz.prog 71 #[.agg #[.int .i64 7, .int .i64 a, .int .i64 b, .int .i64 d]] w fun e w' => e = .returned (.bool p) ∧ Grow w w' := by
  subst hp
  go_enter Tryz.func71, Tryz.ntmps71
  go_wp2_with fail
  go_ret
  exact ⟨ret_bool (by simp), Grow.alloc' _ _⟩
theorem mayDep_8 (a b d : Int) {p : Bool} (hp : decide (0 < d) = p) (w : World) :
    Calls Tryz.prog 71 #[.agg #[.int .i64 8, .int .i64 a, .int .i64 b, .int .i64 d]] w fun e w' => e = .returned (.bool p) ∧ Grow w w' := by
  subst hp
  go_enter Tryz.func71, Tryz.ntmps71
  go_wp2_with fail
  go_ret
  exact ⟨ret_bool (by simp), Grow.alloc' _ _⟩
theorem mayDep_10 (a b d : Int) {p : Bool} (hp : decide (0 < d) = p) (w : World) :
    Calls Tryz.prog 71 #[.agg #[.int .i64 10, .int .i64 a, .int .i64 b, .int .i64 d]] w fun e w' => e = .returned (.bool p) ∧ Grow w w' := by
  subst hp
  go_enter Tryz.func71, Tryz.ntmps71
  go_wp2_with fail
  go_ret
  exact ⟨ret_bool (by simp), Grow.alloc' _ _⟩
theorem mayDep_9 (a b d : Int) {p : Bool} (hp : decide (d < 3) = p) (w : World) :
    Calls Tryz.prog 71 #[.agg #[.int .i64 9, .int .i64 a, .int .i64 b, .int .i64 d]] w fun e w' => e = .returned (.bool p) ∧ Grow w w' := by
  subst hp
  go_enter Tryz.func71, Tryz.ntmps71
  go_wp2_with fail
  go_ret
  exact ⟨ret_bool (by simp), Grow.alloc' _ _⟩
theorem mayDep_o (k a b d : Int) (h1 : ¬ k = 1) (h2 : ¬ k = 11) (h3 : ¬ k = 7) (h4 : ¬ k = 8) (h5 : ¬ k = 10) (h6 : ¬ k = 9) (w : World) :
    Calls Tryz.prog 71 #[.agg #[.int .i64 k, .int .i64 a, .int .i64 b, .int .i64 d]] w fun e w' => e = .returned (.bool true) ∧ Grow w w' := by
  go_enter Tryz.func71, Tryz.ntmps71
  go_wp2_with fail
  go_ret
  exact ⟨rfl, Grow.alloc' _ _⟩
theorem mayDep_any (k a b d : Int) {p : Bool} (hp : depK k d = p) (w : World) :
    Calls Tryz.prog 71 #[.agg #[.int .i64 k, .int .i64 a, .int .i64 b, .int .i64 d]] w fun e w' => e = .returned (.bool p) ∧ Grow w w' := by
  rcases kind_cases k with rfl | rfl | rfl | rfl | rfl | rfl | rfl | rfl | rfl | rfl | rfl | ⟨h1, h2, h3, h4, h5, h6, h7, h8, h9, h10, h11⟩
  · exact mayDep_1 a b d (by simpa [depK] using hp) w
  · have : p = true := by simpa [depK] using hp.symm
    subst this
    exact mayDep_o 2 a b d (by omega) (by omega) (by omega) (by omega) (by omega) (by omega) w
  · have : p = true := by simpa [depK] using hp.symm
    subst this
    exact mayDep_o 3 a b d (by omega) (by omega) (by omega) (by omega) (by omega) (by omega) w
  · have : p = true := by simpa [depK] using hp.symm
    subst this
    exact mayDep_o 4 a b d (by omega) (by omega) (by omega) (by omega) (by omega) (by omega) w
  · have : p = true := by simpa [depK] using hp.symm
    subst this
    exact mayDep_o 5 a b d (by omega) (by omega) (by omega) (by omega) (by omega) (by omega) w
  · have : p = true := by simpa [depK] using hp.symm
    subst this
    exact mayDep_o 6 a b d (by omega) (by omega) (by omega) (by omega) (by omega) (by omega) w
  · exact mayDep_7 a b d (by simpa [depK] using hp) w
  · exact mayDep_8 a b d (by simpa [depK] using hp) w
  · exact mayDep_9 a b d (by simpa [depK] using hp) w
  · exact mayDep_10 a b d (by simpa [depK] using hp) w
  · exact mayDep_11 a b d (by simpa [depK] using hp) w
  · have : p = true := by simpa [depK, *] using hp.symm
    subst this
    exact mayDep_o k a b d h1 h11 h7 h8 h10 h9 w
theorem mayNum_2 (a b d : Int) {p : Bool} (hp : mayMapB a b = p) (w : World) :
    Calls Tryz.prog 72 #[.agg #[.int .i64 2, .int .i64 a, .int .i64 b, .int .i64 d]] w fun e w' => e = .returned (.bool p) ∧ Grow w w' := by
  have C := hide (fun w => mayMap_at a b hp w)
  clear hp
  go_enter Tryz.func72, Tryz.ntmps72
  go_wp2_with fail
  refine (C.out _).mono ?_
  rintro e w1 ⟨rfl, hb⟩
  have G1 := hide (Grow.trans' (Grow.alloc' _ _) hb)
  clear hb
  go_wp2_with fail
  go_ret
  exact ⟨rfl, G1.out⟩
theorem mayNum_3 (a b d : Int) {p : Bool} (hp : mayFilB a b = p) (w : World) :
    Calls Tryz.prog 72 #[.agg #[.int .i64 3, .int .i64 a, .int .i64 b, .int .i64 d]] w fun e w' => e = .returned (.bool p) ∧ Grow w w' := by
  have C := hide (fun w => mayFil_at a b hp w)
  clear hp
  go_enter Tryz.func72, Tryz.ntmps72
  go_wp2_with fail
  refine (C.out _).mono ?_
  rintro e w1 ⟨rfl, hb⟩
  have G1 := hide (Grow.trans' (Grow.alloc' _ _) hb)
  clear hb
  go_wp2_with fail
  go_ret
  exact ⟨rfl, G1.out⟩
theorem mayNum_7 (a b d : Int) {p : Bool} (hp : mayW a b = p) (w : World) :
    Calls Tryz.prog 72 #[.agg #[.int .i64 7, .int .i64 a, .int .i64 b, .int .i64 d]] w fun e w' => e = .returned (.bool p) ∧ Grow w w' := by
  have C := hide (fun w => may_at a b hp w)
  clear hp
  go_enter Tryz.func72, Tryz.ntmps72
  go_wp2_with fail
  refine (C.out _).mono ?_
  rintro e w1 ⟨rfl, rfl⟩
  have G1 : Hid (Grow w (w.alloc (.cells #[.int .i64 7, .int .i64 a, .int .i64 b, .int .i64 d] 37))) := hide (Grow.alloc' _ _)
  go_wp2_with fail
  go_ret
  exact ⟨rfl, G1.out⟩
set_option maxHeartbeats 1000000 in
theorem mayNum_6_0 (a b d : Int) (hp : mayRedB a = false) (w : World) :
    Calls Tryz.prog 72 #[.agg #[.int .i64 6, .int .i64 a, .int .i64 b, .int .i64 d]] w fun e w' => e = .returned (.bool false) ∧ Grow w w' := by
  have C := hide (fun w => mayRed_at a hp w)
  clear hp
  go_enter Tryz.func72, Tryz.ntmps72
  go_wp2_with fail
  refine (C.out _).mono ?_
  rintro e w1 ⟨rfl, rfl⟩
  go_wp2_with fail
  go_ret
  exact ⟨ret_bool (by simp), Grow.alloc' _ _⟩
set_option maxHeartbeats 1000000 in
theorem mayNum_6_1 (a b d : Int) (hp : mayRedB a = true) (w : World) :
    Calls Tryz.prog 72 #[.agg #[.int .i64 6, .int .i64 a, .int .i64 b, .int .i64 d]] w fun e w' => e = .returned (.bool (decide (b = 0))) ∧ Grow w w' := by
  have C := hide (fun w => mayRed_at a hp w)
  clear hp
  go_enter Tryz.func72, Tryz.ntmps72
  go_wp2_with fail
  refine (C.out _).mono ?_
  rintro e w1 ⟨rfl, rfl⟩
  go_wp2_with fail
  go_ret
  exact ⟨ret_bool (by simp), Grow.alloc' _ _⟩
set_option maxHeartbeats 1000000 in
theorem mayNum_10 (a b d : Int) (w : World) :
    Calls Tryz.prog 72 #[.agg #[.int .i64 10, .int .i64 a, .int .i64 b, .int .i64 d]] w fun e w' => e = .returned (.bool (decide (1 ≤ a) && decide (a ≤ 6) && decide (b = 0))) ∧ Grow w w' := by
  cases h1 : decide (1 ≤ a) <;> cases h2 : decide (a ≤ 6)
  all_goals
    go_enter Tryz.func72, Tryz.ntmps72
    go_wp2_with fail
    go_ret
    exact ⟨ret_bool (by simp), Grow.alloc' _ _⟩
set_option maxHeartbeats 1000000 in
theorem mayNum_1 (a b d : Int) (w : World) :
    Calls Tryz.prog 72 #[.agg #[.int .i64 1, .int .i64 a, .int .i64 b, .int .i64 d]] w fun e w' => e = .returned (.bool (decide (a = 0) && decide (b = 0))) ∧ Grow w w' := by
  by_cases h1 : a = 0
  all_goals
    go_enter Tryz.func72, Tryz.ntmps72
    go_wp2_with fail
    go_ret
    exact ⟨ret_bool (by simp [*]), Grow.alloc' _ _⟩
set_option maxHeartbeats 1000000 in
theorem mayNum_4 (a b d : Int) (w : World) :
    Calls Tryz.prog 72 #[.agg #[.int .i64 4, .int .i64 a, .int .i64 b, .int .i64 d]] w fun e w' => e = .returned (.bool (decide (a = 0) && decide (b = 0))) ∧ Grow w w' := by
  by_cases h1 : a = 0
  all_goals
    go_enter Tryz.func72, Tryz.ntmps72
    go_wp2_with fail
    go_ret
    exact ⟨ret_bool (by simp [*]), Grow.alloc' _ _⟩
set_option maxHeartbeats 1000000 in
theorem mayNum_5 (a b d : Int) (w : World) :
    Calls Tryz.prog 72 #[.agg #[.int .i64 5, .int .i64 a, .int .i64 b, .int .i64 d]] w fun e w' => e = .returned (.bool (decide (a = 0) && decide (b = 0))) ∧ Grow w w' := by
  by_cases h1 : a = 0
  all_goals
    go_enter Tryz.func72, Tryz.ntmps72
    go_wp2_with fail
    go_ret
    exact ⟨ret_bool (by simp [*]), Grow.alloc' _ _⟩
set_option maxHeartbeats 1000000 in
theorem mayNum_8 (a b d : Int) (w : World) :
    Calls Tryz.prog 72 #[.agg #[.int .i64 8, .int .i64 a, .int .i64 b, .int .i64 d]] w fun e w' => e = .returned (.bool (decide (a = 0) && decide (b = 0))) ∧ Grow w w' := by
  by_cases h1 : a = 0
  all_goals
    go_enter Tryz.func72, Tryz.ntmps72
    go_wp2_with fail
    go_ret
    exact ⟨ret_bool (by simp [*]), Grow.alloc' _ _⟩
set_option maxHeartbeats 1000000 in
theorem mayNum_9 (a b d : Int) (w : World) :
    Calls Tryz.prog 72 #[.agg #[.int .i64 9, .int .i64 a, .int .i64 b, .int .i64 d]] w fun e w' => e = .returned (.bool (decide (a = 0) && decide (b = 0))) ∧ Grow w w' := by
  by_cases h1 : a = 0
  all_goals
    go_enter Tryz.func72, Tryz.ntmps72
    go_wp2_with fail
    go_ret
    exact ⟨ret_bool (by simp [*]), Grow.alloc' _ _⟩
set_option maxHeartbeats 1000000 in
theorem mayNum_11 (a b d : Int) (w : World) :
    Calls Tryz.prog 72 #[.agg #[.int .i64 11, .int .i64 a, .int .i64 b, .int .i64 d]] w fun e w' => e = .returned (.bool (decide (a = 0) && decide (b = 0))) ∧ Grow w w' := by
  by_cases h1 : a = 0
  all_goals
    go_enter Tryz.func72, Tryz.ntmps72
    go_wp2_with fail
    go_ret
    exact ⟨ret_bool (by simp [*]), Grow.alloc' _ _⟩
set_option maxHeartbeats 1000000 in
theorem mayNum_o (k a b d : Int) (h1 : k ≠ 1) (h2 : k ≠ 2) (h3 : k ≠ 3) (h4 : k ≠ 4) (h5 : k ≠ 5) (h6 : k ≠ 6) (h7 : k ≠ 7) (h8 : k ≠ 8) (h9 : k ≠ 9) (h10 : k ≠ 10) (h11 : k ≠ 11) (w : World) :
    Calls Tryz.prog 72 #[.agg #[.int .i64 k, .int .i64 a, .int .i64 b, .int .i64 d]] w fun e w' => e = .returned (.bool false) ∧ Grow w w' := by
  go_enter Tryz.func72, Tryz.ntmps72
  go_wp2_with fail
  go_ret
  exact ⟨rfl, Grow.alloc' _ _⟩
theorem mayNum_any (k a b d : Int) {p : Bool} (hp : numK k a b = p) (w : World) :
    Calls Tryz.prog 72 #[.agg #[.int .i64 k, .int .i64 a, .int .i64 b, .int .i64 d]] w fun e w' => e = .returned (.bool p) ∧ Grow w w' := by
  subst hp
  rcases kind_cases k with rfl | rfl | rfl | rfl | rfl | rfl | rfl | rfl | rfl | rfl | rfl | ⟨h1, h2, h3, h4, h5, h6, h7, h8, h9, h10, h11⟩
  · exact mayNum_1 a b d  w
  · exact mayNum_2 a b d rfl w
  · exact mayNum_3 a b d rfl w
  · exact mayNum_4 a b d  w
  · exact mayNum_5 a b d  w
  · cases h : mayRedB a
    · simpa [numK, h] using mayNum_6_0 a b d h w
    · simpa [numK, h] using mayNum_6_1 a b d h w
  · exact mayNum_7 a b d rfl w
  · exact mayNum_8 a b d  w
  · exact mayNum_9 a b d  w
  · exact mayNum_10 a b d  w
  · exact mayNum_11 a b d  w
  · have : numK k a b = false := by simp [numK, *]
    rw [this]
    exact mayNum_o k a b d h1 h2 h3 h4 h5 h6 h7 h8 h9 h10 h11 w
set_option maxHeartbeats 1000000 in
theorem node_any (k a b d : Int) {p : Bool} (hp : nodeB ⟨k, a, b, d⟩ = p) (w : World) :
    Calls Tryz.prog 45 #[.agg #[.int .i64 k, .int .i64 a, .int .i64 b, .int .i64 d]] w fun e w' => e = .returned (.bool p) ∧ Grow w w' := by
  subst hp
  rw [nodeB_parts]
  have GG : Hid (Grow w (w.alloc (.cells #[.int .i64 k, .int .i64 a, .int .i64 b, .int .i64 d] 37))) := hide (Grow.alloc' _ _)
  have KN : Hid (BoxN (w.alloc (.cells #[.int .i64 k, .int .i64 a, .int .i64 b, .int .i64 d] 37)) w.heap.size ⟨k, a, b, d⟩) := hide (BoxN.new w ⟨k, a, b, d⟩)
  by_cases h1 : 0 ≤ d
  rotate_left
  · have hd : depthB d = false := by simp [depthB, h1]
    rw [hd]
    clear hd
    go_enter Tryz.func45, Tryz.ntmps45
    go_wp2_with fail
    go_ret
    exact ⟨ret_bool (by simp), GG.out⟩
  by_cases h2 : d ≤ 3
  rotate_left
  · have hd : depthB d = false := by simp [depthB, h2]
    rw [hd]
    clear hd
    go_enter Tryz.func45, Tryz.ntmps45
    go_wp2_with fail
    go_ret
    exact ⟨ret_bool (by simp), GG.out⟩
  have hd : depthB d = true := by simp [depthB, h1, h2]
  rw [hd]
  clear hd
  obtain ⟨q, hq⟩ : ∃ q, depK k d = q := ⟨_, rfl⟩
  obtain ⟨r, hr⟩ : ∃ r, numK k a b = r := ⟨_, rfl⟩
  rw [hq, hr]
  have C1 := hide (fun w => mayDep_any k a b d hq w)
  have C2 := hide (fun w => mayNum_any k a b d hr w)
  clear hq hr
  cases q
  · go_enter Tryz.func45, Tryz.ntmps45
    go_wp2_with fail
    refine (C1.out _).mono ?_
    rintro e w1 ⟨rfl, hb⟩
    have G1 := hide (Grow.trans' GG.out hb)
    obtain ⟨k0, k1, k2, k3⟩ := KN.out.later hb
    dsimp only at k0 k1 k2 k3
    clear hb GG KN C1
    go_wp2_with fail
    go_ret
    exact ⟨ret_bool (by simp), G1.out⟩
  · go_enter Tryz.func45, Tryz.ntmps45
    go_wp2_with fail
    refine (C1.out _).mono ?_
    rintro e w1 ⟨rfl, hb⟩
    have G1 := hide (Grow.trans' GG.out hb)
    obtain ⟨k0, k1, k2, k3⟩ := KN.out.later hb
    dsimp only at k0 k1 k2 k3
    clear hb GG KN C1
    go_wp2_with fail
    refine (C2.out _).mono ?_
    rintro e w2 ⟨rfl, hb⟩
    have G2 := hide (Grow.trans' G1.out hb)
    clear hb
    go_wp2_with fail
    go_ret
    exact ⟨ret_bool (by simp), G2.out⟩

end Go.Proofs.YtjebipagehhkjaaGreat
