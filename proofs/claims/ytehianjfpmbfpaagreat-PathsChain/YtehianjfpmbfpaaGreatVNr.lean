/-
  What the document's own Node does to the world: for every node it returns its plain answer, and what was there stays as it was.
-/
import Derived.Test.YtehianjfpmbfpaaGreatVNd
import Derived.Test.YtehianjfpmbfpaaGreatVCon
import Derived.Test.YtehianjfpmbfpaaGreatVPl
import Derived.Test.YtehianjfpmbfpaaGreatHBlk
namespace Go.Proofs.YtehianjfpmbfpaaGreat
set_option maxRecDepth 100000
open Go.RowKit
set_option linter.unusedVariables false
set_option linter.unusedSimpArgs false

theorem rnode_lo (k a b d : Int) (h1 : d < 0) (w : World) :
    Calls Tryz.prog 51 #[.agg #[.int .i64 k, .int .i64 a, .int .i64 b, .int .i64 d]] w fun e w' => e = .returned (.bool false) ∧ Grow w w' := by
  go_enter Tryz.func51, Tryz.ntmps51
  go_wp2_with fail
  go_ret
  exact ⟨rfl, Grow.alloc' _ _⟩
theorem rnode_hi (k a b d : Int) (h1 : ¬ d < 0) (h2 : 3 < d) (w : World) :
    Calls Tryz.prog 51 #[.agg #[.int .i64 k, .int .i64 a, .int .i64 b, .int .i64 d]] w fun e w' => e = .returned (.bool false) ∧ Grow w w' := by
  go_enter Tryz.func51, Tryz.ntmps51
  go_wp2_with fail
  go_ret
  exact ⟨rfl, Grow.alloc' _ _⟩
set_option maxHeartbeats 1000000 in
theorem rnode_2 (a b d : Int) (h1 : ¬ d < 0) (h2 : ¬ 3 < d) {p : Bool} (hp : mayMapB a b = p) (w : World) :
    Calls Tryz.prog 51 #[.agg #[.int .i64 2, .int .i64 a, .int .i64 b, .int .i64 d]] w fun e w' => e = .returned (.bool p) ∧ Grow w w' := by
  have C := hide (fun w => refMayMap_at a b hp w)
  clear hp
  rcases (by omega : a = 0 ∨ ¬ a = 0) with rfl | ha
  all_goals
    go_enter Tryz.func51, Tryz.ntmps51
    go_wp2_with fail
    refine (C.out _).mono ?_
    rintro e w1 ⟨rfl, rfl⟩
    go_wp2_with fail
    go_ret
    exact ⟨rfl, Grow.alloc' _ _⟩
set_option maxHeartbeats 1000000 in
theorem rnode_3 (a b d : Int) (h1 : ¬ d < 0) (h2 : ¬ 3 < d) {p : Bool} (hp : mayFilB a b = p) (w : World) :
    Calls Tryz.prog 51 #[.agg #[.int .i64 3, .int .i64 a, .int .i64 b, .int .i64 d]] w fun e w' => e = .returned (.bool p) ∧ Grow w w' := by
  have C := hide (fun w => refMayFil_at a b hp w)
  clear hp
  rcases (by omega : a = 0 ∨ ¬ a = 0) with rfl | ha
  all_goals
    go_enter Tryz.func51, Tryz.ntmps51
    go_wp2_with fail
    refine (C.out _).mono ?_
    rintro e w1 ⟨rfl, rfl⟩
    go_wp2_with fail
    go_ret
    exact ⟨rfl, Grow.alloc' _ _⟩
set_option maxHeartbeats 1000000 in
theorem rnode_6 (a b d : Int) (h1 : ¬ d < 0) (h2 : ¬ 3 < d) {p : Bool} (hp : mayRedB a = p) (w : World) :
    Calls Tryz.prog 51 #[.agg #[.int .i64 6, .int .i64 a, .int .i64 b, .int .i64 d]] w fun e w' => e = .returned (.bool (p && decide (b = 0))) ∧ Grow w w' := by
  have C := hide (fun w => refMayRed_at a hp w)
  clear hp
  rcases (by omega : a = 0 ∨ ¬ a = 0) with rfl | ha <;> cases p
  all_goals
    go_enter Tryz.func51, Tryz.ntmps51
    go_wp2_with fail
    refine (C.out _).mono ?_
    rintro e w1 ⟨rfl, rfl⟩
    go_wp2_with fail
    go_ret
    exact ⟨ret_bool (by simp), Grow.alloc' _ _⟩
set_option maxHeartbeats 1000000 in
theorem rnode_7 (a b d : Int) (h1 : ¬ d < 0) (h2 : ¬ 3 < d) {p : Bool} (hp : mayW a b = p) (w : World) :
    Calls Tryz.prog 51 #[.agg #[.int .i64 7, .int .i64 a, .int .i64 b, .int .i64 d]] w fun e w' => e = .returned (.bool (p && decide (d = 0))) ∧ Grow w w' := by
  have C := hide (fun w => rmay_at a b hp w)
  clear hp
  rcases (by omega : a = 0 ∨ ¬ a = 0) with rfl | ha <;> cases p
  all_goals
    go_enter Tryz.func51, Tryz.ntmps51
    go_wp2_with fail
    refine (C.out _).mono ?_
    rintro e w1 ⟨rfl, rfl⟩
    go_wp2_with fail
    go_ret
    exact ⟨ret_bool (by simp), Grow.alloc' _ _⟩
set_option maxHeartbeats 1000000 in
theorem rnode_1 (a b d : Int) (h1 : ¬ d < 0) (h2 : ¬ 3 < d) (w : World) :
    Calls Tryz.prog 51 #[.agg #[.int .i64 1, .int .i64 a, .int .i64 b, .int .i64 d]] w fun e w' => e = .returned (.bool (decide (a = 0) && decide (b = 0) && decide (d = 0))) ∧ Grow w w' := by
  rcases (by omega : a = 0 ∨ ¬ a = 0) with rfl | ha <;> rcases (by omega : b = 0 ∨ ¬ b = 0) with rfl | hb
  all_goals
    go_enter Tryz.func51, Tryz.ntmps51
    go_wp2_with fail
    go_ret
    exact ⟨ret_bool (by simp [*]), Grow.alloc' _ _⟩
set_option maxHeartbeats 1000000 in
theorem rnode_11 (a b d : Int) (h1 : ¬ d < 0) (h2 : ¬ 3 < d) (w : World) :
    Calls Tryz.prog 51 #[.agg #[.int .i64 11, .int .i64 a, .int .i64 b, .int .i64 d]] w fun e w' => e = .returned (.bool (decide (a = 0) && decide (b = 0) && decide (d = 0))) ∧ Grow w w' := by
  rcases (by omega : a = 0 ∨ ¬ a = 0) with rfl | ha <;> rcases (by omega : b = 0 ∨ ¬ b = 0) with rfl | hb
  all_goals
    go_enter Tryz.func51, Tryz.ntmps51
    go_wp2_with fail
    go_ret
    exact ⟨ret_bool (by simp [*]), Grow.alloc' _ _⟩
set_option maxHeartbeats 1000000 in
theorem rnode_8 (a b d : Int) (h1 : ¬ d < 0) (h2 : ¬ 3 < d) (w : World) :
    Calls Tryz.prog 51 #[.agg #[.int .i64 8, .int .i64 a, .int .i64 b, .int .i64 d]] w fun e w' => e = .returned (.bool (decide (a = 0) && decide (b = 0) && decide (0 < d))) ∧ Grow w w' := by
  rcases (by omega : a = 0 ∨ ¬ a = 0) with rfl | ha <;> rcases (by omega : b = 0 ∨ ¬ b = 0) with rfl | hb
  all_goals
    go_enter Tryz.func51, Tryz.ntmps51
    go_wp2_with fail
    go_ret
    exact ⟨ret_bool (by simp [*]), Grow.alloc' _ _⟩
set_option maxHeartbeats 1000000 in
theorem rnode_9 (a b d : Int) (h1 : ¬ d < 0) (h2 : ¬ 3 < d) (w : World) :
    Calls Tryz.prog 51 #[.agg #[.int .i64 9, .int .i64 a, .int .i64 b, .int .i64 d]] w fun e w' => e = .returned (.bool (decide (a = 0) && decide (b = 0) && decide (d < 3))) ∧ Grow w w' := by
  rcases (by omega : a = 0 ∨ ¬ a = 0) with rfl | ha <;> rcases (by omega : b = 0 ∨ ¬ b = 0) with rfl | hb
  all_goals
    go_enter Tryz.func51, Tryz.ntmps51
    go_wp2_with fail
    go_ret
    exact ⟨ret_bool (by simp [*]), Grow.alloc' _ _⟩
set_option maxHeartbeats 1000000 in
theorem rnode_4 (a b d : Int) (h1 : ¬ d < 0) (h2 : ¬ 3 < d) (w : World) :
    Calls Tryz.prog 51 #[.agg #[.int .i64 4, .int .i64 a, .int .i64 b, .int .i64 d]] w fun e w' => e = .returned (.bool (decide (a = 0) && decide (b = 0) && decide (True))) ∧ Grow w w' := by
  rcases (by omega : a = 0 ∨ ¬ a = 0) with rfl | ha <;> rcases (by omega : b = 0 ∨ ¬ b = 0) with rfl | hb
  all_goals
    go_enter Tryz.func51, Tryz.ntmps51
    go_wp2_with fail
    go_ret
    exact ⟨ret_bool (by simp [*]), Grow.alloc' _ _⟩
set_option maxHeartbeats 1000000 in
theorem rnode_5 (a b d : Int) (h1 : ¬ d < 0) (h2 : ¬ 3 < d) (w : World) :
    Calls Tryz.prog 51 #[.agg #[.int .i64 5, .int .i64 a, .int .i64 b, .int .i64 d]] w fun e w' => e = .returned (.bool (decide (a = 0) && decide (b = 0) && decide (True))) ∧ Grow w w' := by
  rcases (by omega : a = 0 ∨ ¬ a = 0) with rfl | ha <;> rcases (by omega : b = 0 ∨ ¬ b = 0) with rfl | hb
  all_goals
    go_enter Tryz.func51, Tryz.ntmps51
    go_wp2_with fail
    go_ret
    exact ⟨ret_bool (by simp [*]), Grow.alloc' _ _⟩
set_option maxHeartbeats 2000000 in
theorem rnode_10 (a b d : Int) (h1 : ¬ d < 0) (h2 : ¬ 3 < d) (w : World) :
    Calls Tryz.prog 51 #[.agg #[.int .i64 10, .int .i64 a, .int .i64 b, .int .i64 d]] w fun e w' => e = .returned (.bool (decide (0 < d) && decide (1 ≤ a) && decide (a ≤ 6) && decide (b = 0))) ∧ Grow w w' := by
  rcases (by omega : a = 0 ∨ ¬ a = 0) with rfl | ha
  · cases h3 : decide (0 < d)
    all_goals
      go_enter Tryz.func51, Tryz.ntmps51
      go_wp2_with fail
      go_ret
      exact ⟨ret_bool (by simp), Grow.alloc' _ _⟩
  · cases h3 : decide (0 < d) <;> cases h4 : decide (1 ≤ a) <;> cases h5 : decide (a ≤ 6)
    all_goals try (exfalso; simp at *; omega)
    all_goals
      go_enter Tryz.func51, Tryz.ntmps51
      go_wp2_with fail
      go_ret
      exact ⟨ret_bool (by simp), Grow.alloc' _ _⟩
set_option maxHeartbeats 1000000 in
theorem rnode_o (k : Int) (a b d : Int) (h1 : ¬ d < 0) (h2 : ¬ 3 < d) (g1 : k ≠ 1) (g2 : k ≠ 2) (g3 : k ≠ 3) (g4 : k ≠ 4) (g5 : k ≠ 5) (g6 : k ≠ 6) (g7 : k ≠ 7) (g8 : k ≠ 8) (g9 : k ≠ 9) (g10 : k ≠ 10) (g11 : k ≠ 11) (w : World) :
    Calls Tryz.prog 51 #[.agg #[.int .i64 k, .int .i64 a, .int .i64 b, .int .i64 d]] w fun e w' => e = .returned (.bool false) ∧ Grow w w' := by
  rcases (by omega : a = 0 ∨ ¬ a = 0) with rfl | ha
  all_goals
    go_enter Tryz.func51, Tryz.ntmps51
    go_wp2_with fail
    go_ret
    exact ⟨rfl, Grow.alloc' _ _⟩
theorem rnode_any (k a b d : Int) {p : Bool} (hp : nodeB ⟨k, a, b, d⟩ = p) (w : World) :
    Calls Tryz.prog 51 #[.agg #[.int .i64 k, .int .i64 a, .int .i64 b, .int .i64 d]] w fun e w' => e = .returned (.bool p) ∧ Grow w w' := by
  subst hp
  by_cases h1 : d < 0
  · have : nodeB ⟨k, a, b, d⟩ = false := by
      have : ¬ 0 ≤ d := by omega
      simp [nodeB_parts, depthB, this]
    rw [this]
    exact rnode_lo k a b d h1 w
  by_cases h2 : 3 < d
  · have : nodeB ⟨k, a, b, d⟩ = false := by
      have : ¬ d ≤ 3 := by omega
      simp [nodeB_parts, depthB, this]
    rw [this]
    exact rnode_hi k a b d h1 h2 w
  have hd : depthB d = true := by simp [depthB]; omega
  unfold nodeB
  dsimp only
  rw [hd, Bool.true_and]
  rcases kind_cases k with rfl | rfl | rfl | rfl | rfl | rfl | rfl | rfl | rfl | rfl | rfl | ⟨g1, g2, g3, g4, g5, g6, g7, g8, g9, g10, g11⟩
  · simpa [Bool.and_assoc] using rnode_1 a b d h1 h2  w
  · simpa [Bool.and_assoc] using rnode_2 a b d h1 h2 rfl w
  · simpa [Bool.and_assoc] using rnode_3 a b d h1 h2 rfl w
  · simpa [Bool.and_assoc] using rnode_4 a b d h1 h2  w
  · simpa [Bool.and_assoc] using rnode_5 a b d h1 h2  w
  · simpa [Bool.and_assoc] using rnode_6 a b d h1 h2 rfl w
  · simpa [Bool.and_assoc] using rnode_7 a b d h1 h2 rfl w
  · simpa [Bool.and_assoc] using rnode_8 a b d h1 h2  w
  · simpa [Bool.and_assoc] using rnode_9 a b d h1 h2  w
  · simpa [Bool.and_assoc] using rnode_10 a b d h1 h2  w
  · simpa [Bool.and_assoc] using rnode_11 a b d h1 h2  w
  · simpa [*] using rnode_o k a b d h1 h2 g1 g2 g3 g4 g5 g6 g7 g8 g9 g10 g11 w

end Go.Proofs.YtehianjfpmbfpaaGreat
