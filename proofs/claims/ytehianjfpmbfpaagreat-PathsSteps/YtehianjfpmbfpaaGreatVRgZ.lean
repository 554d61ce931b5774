import Derived.Test.YtehianjfpmbfpaaGreatHPlZ
import Derived.Test.YtehianjfpmbfpaaGreatVPlZ
import Derived.Laws.EntriesVeiled
import Derived.Laws.CopyOwn
import Derived.Lib.QuietBelow
import Derived.Test.YtehianjfpmbfpaaGreatHBlkZ
import Derived.Test.YtehianjfpmbfpaaGreatVRpZ
import Derived.Test.YtehianjfpmbfpaaGreatVRrZ
section
/-
  What fn's and window's May functions, and the document's own, do to the world: each returns its plain answer, and what was there stays as it was.
-/
namespace Go.Proofs.YtehianjfpmbfpaaGreat
set_option maxRecDepth 100000
open Go.RowKit Go.Sort
set_option linter.unusedVariables false
set_option linter.unusedSimpArgs false

theorem refSmall_at (b : Int) {p : Bool} (hp : (decide (-1000 ≤ b) && decide (b ≤ 1000)) = p) (w : World) :
    Calls Tryz.prog 95 #[.int .i64 b] w fun e w' => e = .returned (.bool p) ∧ w' = w := by
  subst hp
  by_cases h1 : -1000 ≤ b <;> by_cases h2 : b ≤ 1000
  all_goals
    go_enter Tryz.func95, Tryz.ntmps95
    go_wp2
  all_goals go_ret
  all_goals exact ⟨ret_bool (by simp; try omega), rfl⟩
set_option maxHeartbeats 1000000 in
theorem refMayMap_any (a b : Int) (w : World) :
    Calls Tryz.prog 72 #[.int .i64 a, .int .i64 b] w fun e w' => e = .returned (.bool (mayMapB a b)) ∧ w' = w := by
  obtain ⟨p, hp⟩ : ∃ p, (decide (-1000 ≤ b) && decide (b ≤ 1000)) = p := ⟨_, rfl⟩
  have HP := hide hp
  have HM : Hid (mayMapB a b = (decide (1 ≤ a) && decide (a ≤ 5) && p && (decide (a ≠ 3) || decide (1 ≤ b)))) := hide (by rw [← hp]; simp [mayMapB, Bool.and_assoc])
  clear hp
  rw [HM.out]
  clear HM
  by_cases h1 : 1 ≤ a
  · by_cases h2 : a ≤ 5
    · cases p
      · go_enter Tryz.func72, Tryz.ntmps72
        go_wp2_with fail
        refine (refSmall_at b HP.out _).mono ?_
        rintro e w1 ⟨rfl, rfl⟩
        go_wp2_with fail
        go_ret
        exact ⟨ret_bool (by simp), rfl⟩
      · by_cases h3 : a = 3
        · subst h3
          by_cases h4 : 1 ≤ b
          all_goals
            go_enter Tryz.func72, Tryz.ntmps72
            go_wp2_with fail
            refine (refSmall_at b HP.out _).mono ?_
            rintro e w1 ⟨rfl, rfl⟩
            go_wp2_with fail
            go_ret
            exact ⟨ret_bool (by simp; try omega), rfl⟩
        · go_enter Tryz.func72, Tryz.ntmps72
          go_wp2_with fail
          refine (refSmall_at b HP.out _).mono ?_
          rintro e w1 ⟨rfl, rfl⟩
          go_wp2_with fail
          go_ret
          exact ⟨ret_bool (by simp; try omega), rfl⟩
    · go_enter Tryz.func72, Tryz.ntmps72
      go_wp2_with fail
      go_ret
      exact ⟨ret_bool (by simp; intros; omega), rfl⟩
  · go_enter Tryz.func72, Tryz.ntmps72
    go_wp2_with fail
    go_ret
    exact ⟨ret_bool (by simp; intros; omega), rfl⟩
theorem refMayMap_at (a b : Int) {p : Bool} (hp : mayMapB a b = p) (w : World) :
    Calls Tryz.prog 72 #[.int .i64 a, .int .i64 b] w fun e w' => e = .returned (.bool p) ∧ w' = w := by rw [← hp]; exact refMayMap_any a b w
set_option maxHeartbeats 1000000 in
theorem refMayFil_any (a b : Int) (w : World) :
    Calls Tryz.prog 73 #[.int .i64 a, .int .i64 b] w fun e w' => e = .returned (.bool (mayFilB a b)) ∧ w' = w := by
  obtain ⟨p, hp⟩ : ∃ p, (decide (-1000 ≤ b) && decide (b ≤ 1000)) = p := ⟨_, rfl⟩
  have HP := hide hp
  have HM : Hid (mayFilB a b = (decide (1 ≤ a) && decide (a ≤ 4) && p && (decide (a ≠ 3) || decide (1 ≤ b)))) := hide (by rw [← hp]; simp [mayFilB, Bool.and_assoc])
  clear hp
  rw [HM.out]
  clear HM
  by_cases h1 : 1 ≤ a
  · by_cases h2 : a ≤ 4
    · cases p
      · go_enter Tryz.func73, Tryz.ntmps73
        go_wp2_with fail
        refine (refSmall_at b HP.out _).mono ?_
        rintro e w1 ⟨rfl, rfl⟩
        go_wp2_with fail
        go_ret
        exact ⟨ret_bool (by simp), rfl⟩
      · by_cases h3 : a = 3
        · subst h3
          by_cases h4 : 1 ≤ b
          all_goals
            go_enter Tryz.func73, Tryz.ntmps73
            go_wp2_with fail
            refine (refSmall_at b HP.out _).mono ?_
            rintro e w1 ⟨rfl, rfl⟩
            go_wp2_with fail
            go_ret
            exact ⟨ret_bool (by simp; try omega), rfl⟩
        · go_enter Tryz.func73, Tryz.ntmps73
          go_wp2_with fail
          refine (refSmall_at b HP.out _).mono ?_
          rintro e w1 ⟨rfl, rfl⟩
          go_wp2_with fail
          go_ret
          exact ⟨ret_bool (by simp; try omega), rfl⟩
    · go_enter Tryz.func73, Tryz.ntmps73
      go_wp2_with fail
      go_ret
      exact ⟨ret_bool (by simp; intros; omega), rfl⟩
  · go_enter Tryz.func73, Tryz.ntmps73
    go_wp2_with fail
    go_ret
    exact ⟨ret_bool (by simp; intros; omega), rfl⟩
theorem refMayFil_at (a b : Int) {p : Bool} (hp : mayFilB a b = p) (w : World) :
    Calls Tryz.prog 73 #[.int .i64 a, .int .i64 b] w fun e w' => e = .returned (.bool p) ∧ w' = w := by rw [← hp]; exact refMayFil_any a b w
theorem refMayRed_at (a : Int) {p : Bool} (hp : mayRedB a = p) (w : World) :
    Calls Tryz.prog 74 #[.int .i64 a] w fun e w' => e = .returned (.bool p) ∧ w' = w := by
  subst hp
  unfold mayRedB
  by_cases h1 : 1 ≤ a <;> by_cases h2 : a ≤ 4
  all_goals
    go_enter Tryz.func74, Tryz.ntmps74
    go_wp2
  all_goals go_ret
  all_goals exact ⟨ret_bool (by simp; try omega), rfl⟩
theorem rmay_at (a b : Int) {p : Bool} (hp : mayW a b = p) (w : World) :
    Calls Tryz.prog 75 #[.int .i64 a, .int .i64 b] w fun e w' => e = .returned (.bool p) ∧ w' = w := by
  subst hp
  by_cases h1 : 1 ≤ a <;> by_cases h2 : a ≤ 20 <;> by_cases h3 : 1 ≤ b <;> by_cases h4 : b ≤ a
  all_goals
    go_enter Tryz.func75, Tryz.ntmps75
    go_wp2
  all_goals go_ret
  all_goals exact ⟨ret_bool (by simp [mayW]; try omega), rfl⟩

end Go.Proofs.YtehianjfpmbfpaaGreat
end

section
/-
  What valid.Node with its two parts does to the world: for every node it returns its plain answer, and what was there stays as it was.
-/
namespace Go.Proofs.YtehianjfpmbfpaaGreat
set_option maxRecDepth 100000
open Go.RowKit
set_option linter.unusedVariables false
set_option linter.unusedSimpArgs false

/-- May a node of this kind have this depth? -/
def depK (k d : Int) : Bool := if k = 1 ∨ k = 11 ∨ k = 7 then decide (d = 0) else if k = 8 ∨ k = 10 then decide (0 < d) else if k = 9 then decide (d < 3) else true
/-- May a node of this kind have these numbers? -/
def numK (k a b : Int) : Bool :=
  if k = 2 then mayMapB a b
  else if k = 3 then mayFilB a b
  else if k = 6 then mayRedB a && decide (b = 0)
  else if k = 7 then mayW a b
  else if k = 10 then decide (1 ≤ a) && decide (a ≤ 6) && decide (b = 0)
  else if k = 1 ∨ k = 4 ∨ k = 5 ∨ k = 8 ∨ k = 9 ∨ k = 11 then decide (a = 0) && decide (b = 0)
  else false
theorem kind_cases (k : Int) : k = 1 ∨ k = 2 ∨ k = 3 ∨ k = 4 ∨ k = 5 ∨ k = 6 ∨ k = 7 ∨ k = 8 ∨ k = 9 ∨ k = 10 ∨ k = 11 ∨ (k ≠ 1 ∧ k ≠ 2 ∧ k ≠ 3 ∧ k ≠ 4 ∧ k ≠ 5 ∧ k ≠ 6 ∧ k ≠ 7 ∧ k ≠ 8 ∧ k ≠ 9 ∧ k ≠ 10 ∧ k ≠ 11) := by omega
theorem nodeB_parts (k a b d : Int) : nodeB ⟨k, a, b, d⟩ = (depthB d && depK k d && numK k a b) := by
  rw [Bool.eq_iff_iff]
  rcases kind_cases k with rfl | rfl | rfl | rfl | rfl | rfl | rfl | rfl | rfl | rfl | rfl | ⟨h1, h2, h3, h4, h5, h6, h7, h8, h9, h10, h11⟩
  all_goals (simp [nodeB, depK, numK, *]; try grind)
end Go.Proofs.YtehianjfpmbfpaaGreat
end

section
/-
  What the document's own Node does to the world: for every node it returns its plain answer, and what was there stays as it was.
-/
namespace Go.Proofs.YtehianjfpmbfpaaGreat
set_option maxRecDepth 100000
open Go.RowKit
set_option linter.unusedVariables false
set_option linter.unusedSimpArgs false

theorem rnode_lo (k a b d : Int) (h1 : d < 0) (w : World) :
    Calls Tryz.prog 51 #[.agg #[.int .i64 k, .int .i64 a, .int .i64 b, .int .i64 d]] w fun e w' => e = .returned (.bool false) ∧ Grow w w' := by
  go_enter Tryz.func51, Tryz.ntmps51
  go_wp2_with fail
  go_ret
  exact ⟨rfl, Grow.alloc' _ _⟩
theorem rnode_hi (k a b d : Int) (h1 : ¬ d < 0) (h2 : 3 < d) (w : World) :
    Calls Tryz.prog 51 #[.agg #[.int .i64 k, .int .i64 a, .int .i64 b, .int .i64 d]] w fun e w' => e = .returned (.bool false) ∧ Grow w w' := by
  go_enter Tryz.func51, Tryz.ntmps51
  go_wp2_with fail
  go_ret
  exact ⟨rfl, Grow.alloc' _ _⟩
set_option maxHeartbeats 1000000 in
theorem rnode_2 (a b d : Int) (h1 : ¬ d < 0) (h2 : ¬ 3 < d) {p : Bool} (hp : mayMapB a b = p) (w : World) :
    Calls Tryz.prog 51 #[.agg #[.int .i64 2, .int .i64 a, .int .i64 b, .int .i64 d]] w fun e w' => e = .returned (.bool p) ∧ Grow w w' := by
  have C := hide (fun w => refMayMap_at a b hp w)
  clear hp
  rcases (by omega : a = 0 ∨ ¬ a = 0) with rfl | ha
  all_goals
    go_enter Tryz.func51, Tryz.ntmps51
    go_wp2_with fail
    refine (C.out _).mono ?_
    rintro e w1 ⟨rfl, rfl⟩
    go_wp2_with fail
    go_ret
    exact ⟨rfl, Grow.alloc' _ _⟩
set_option maxHeartbeats 1000000 in
theorem rnode_3 (a b d : Int) (h1 : ¬ d < 0) (h2 : ¬ 3 < d) {p : Bool} (hp : mayFilB a b = p) (w : World) :
    Calls Tryz.prog 51 #[.agg #[.int .i64 3, .int .i64 a, .int .i64 b, .int .i64 d]] w fun e w' => e = .returned (.bool p) ∧ Grow w w' := by
  have C := hide (fun w => refMayFil_at a b hp w)
  clear hp
  rcases (by omega : a = 0 ∨ ¬ a = 0) with rfl | ha
  all_goals
    go_enter Tryz.func51, Tryz.ntmps51
    go_wp2_with fail
    refine (C.out _).mono ?_
    rintro e w1 ⟨rfl, rfl⟩
    go_wp2_with fail
    go_ret
    exact ⟨rfl, Grow.alloc' _ _⟩
set_option maxHeartbeats 1000000 in
theorem rnode_6 (a b d : Int) (h1 : ¬ d < 0) (h2 : ¬ 3 < d) {p : Bool} (hp : mayRedB a = p) (w : World) :
    Calls Tryz.prog 51 #[.agg #[.int .i64 6, .int .i64 a, .int .i64 b, .int .i64 d]] w fun e w' => e = .returned (.bool (p && decide (b = 0))) ∧ Grow w w' := by
  have C := hide (fun w => refMayRed_at a hp w)
  clear hp
  rcases (by omega : a = 0 ∨ ¬ a = 0) with rfl | ha <;> cases p
  all_goals
    go_enter Tryz.func51, Tryz.ntmps51
    go_wp2_with fail
    refine (C.out _).mono ?_
    rintro e w1 ⟨rfl, rfl⟩
    go_wp2_with fail
    go_ret
    exact ⟨ret_bool (by simp), Grow.alloc' _ _⟩
set_option maxHeartbeats 1000000 in
theorem rnode_7 (a b d : Int) (h1 : ¬ d < 0) (h2 : ¬ 3 < d) {p : Bool} (hp : mayW a b = p) (w : World) :
    Calls Tryz.prog 51 #[.agg #[.int .i64 7, .int .i64 a, .int .i64 b, .int .i64 d]] w fun e w' => e = .returned (.bool (p && decide (d = 0))) ∧ Grow w w' := by
  have C := hide (fun w => rmay_at a b hp w)
  clear hp
  rcases (by omega : a = 0 ∨ ¬ a = 0) with rfl | ha <;> cases p
  all_goals
    go_enter Tryz.func51, Tryz.ntmps51
    go_wp2_with fail
    refine (C.out _).mono ?_
    rintro e w1 ⟨rfl, rfl⟩
    go_wp2_with fail
    go_ret
    exact ⟨ret_bool (by simp), Grow.alloc' _ _⟩
set_option maxHeartbeats 1000000 in
theorem rnode_1 (a b d : Int) (h1 : ¬ d < 0) (h2 : ¬ 3 < d) (w : World) :
    Calls Tryz.prog 51 #[.agg #[.int .i64 1, .int .i64 a, .int .i64 b, .int .i64 d]] w fun e w' => e = .returned (.bool (decide (a = 0) && decide (b = 0) && decide (d = 0))) ∧ Grow w w' := by
  rcases (by omega : a = 0 ∨ ¬ a = 0) with rfl | ha <;> rcases (by omega : b = 0 ∨ ¬ b = 0) with rfl | hb
  all_goals
    go_enter Tryz.func51, Tryz.ntmps51
    go_wp2_with fail
    go_ret
    exact ⟨ret_bool (by simp [*]), Grow.alloc' _ _⟩
set_option maxHeartbeats 1000000 in
theorem rnode_11 (a b d : Int) (h1 : ¬ d < 0) (h2 : ¬ 3 < d) (w : World) :
    Calls Tryz.prog 51 #[.agg #[.int .i64 11, .int .i64 a, .int .i64 b, .int .i64 d]] w fun e w' => e = .returned (.bool (decide (a = 0) && decide (b = 0) && decide (d = 0))) ∧ Grow w w' := by
  rcases (by omega : a = 0 ∨ ¬ a = 0) with rfl | ha <;> rcases (by omega : b = 0 ∨ ¬ b = 0) with rfl | hb
  all_goals
    go_enter Tryz.func51, Tryz.ntmps51
    go_wp2_with fail
    go_ret
    exact ⟨ret_bool (by simp [*]), Grow.alloc' _ _⟩
set_option maxHeartbeats 1000000 in
theorem rnode_8 (a b d : Int) (h1 : ¬ d < 0) (h2 : ¬ 3 < d) (w : World) :
    Calls Tryz.prog 51 #[.agg #[.int .i64 8, .int .i64 a, .int .i64 b, .int .i64 d]] w fun e w' => e = .returned (.bool (decide (a = 0) && decide (b = 0) && decide (0 < d))) ∧ Grow w w' := by
  rcases (by omega : a = 0 ∨ ¬ a = 0) with rfl | ha <;> rcases (by omega : b = 0 ∨ ¬ b = 0) with rfl | hb
  all_goals
    go_enter Tryz.func51, Tryz.ntmps51
    go_wp2_with fail
    go_ret
    exact ⟨ret_bool (by simp [*]), Grow.alloc' _ _⟩
set_option maxHeartbeats 1000000 in
theorem rnode_9 (a b d : Int) (h1 : ¬ d < 0) (h2 : ¬ 3 < d) (w : World) :
    Calls Tryz.prog 51 #[.agg #[.int .i64 9, .int .i64 a, .int .i64 b, .int .i64 d]] w fun e w' => e = .returned (.bool (decide (a = 0) && decide (b = 0) && decide (d < 3))) ∧ Grow w w' := by
  rcases (by omega : a = 0 ∨ ¬ a = 0) with rfl | ha <;> rcases (by omega : b = 0 ∨ ¬ b = 0) with rfl | hb
  all_goals
    go_enter Tryz.func51, Tryz.ntmps51
    go_wp2_with fail
    go_ret
    exact ⟨ret_bool (by simp [*]), Grow.alloc' _ _⟩
set_option maxHeartbeats 1000000 in
theorem rnode_4 (a b d : Int) (h1 : ¬ d < 0) (h2 : ¬ 3 < d) (w : World) :
    Calls Tryz.prog 51 #[.agg #[.int .i64 4, .int .i64 a, .int .i64 b, .int .i64 d]] w fun e w' => e = .returned (.bool (decide (a = 0) && decide (b = 0) && decide (True))) ∧ Grow w w' := by
  rcases (by omega : a = 0 ∨ ¬ a = 0) with rfl | ha <;> rcases (by omega : b = 0 ∨ ¬ b = 0) with rfl | hb
  all_goals
    go_enter Tryz.func51, Tryz.ntmps51
    go_wp2_with fail
    go_ret
    exact ⟨ret_bool (by simp [*]), Grow.alloc' _ _⟩
set_option maxHeartbeats 1000000 in
theorem rnode_5 (a b d : Int) (h1 : ¬ d < 0) (h2 : ¬ 3 < d) (w : World) :
    Calls Tryz.prog 51 #[.agg #[.int .i64 5, .int .i64 a, .int .i64 b, .int .i64 d]] w fun e w' => e = .returned (.bool (decide (a = 0) && decide (b = 0) && decide (True))) ∧ Grow w w' := by
  rcases (by omega : a = 0 ∨ ¬ a = 0) with rfl | ha <;> rcases (by omega : b = 0 ∨ ¬ b = 0) with rfl | hb
  all_goals
    go_enter Tryz.func51, Tryz.ntmps51
    go_wp2_with fail
    go_ret
    exact ⟨ret_bool (by simp [*]), Grow.alloc' _ _⟩
set_option maxHeartbeats 2000000 in
theorem rnode_10 (a b d : Int) (h1 : ¬ d < 0) (h2 : ¬ 3 < d) (w : World) :
    Calls Tryz.prog 51 #[.agg #[.int .i64 10, .int .i64 a, .int .i64 b, .int .i64 d]] w fun e w' => e = .returned (.bool (decide (0 < d) && decide (1 ≤ a) && decide (a ≤ 6) && decide (b = 0))) ∧ Grow w w' := by
  rcases (by omega : a = 0 ∨ ¬ a = 0) with rfl | ha
  · cases h3 : decide (0 < d)
    all_goals
      go_enter Tryz.func51, Tryz.ntmps51
      go_wp2_with fail
      go_ret
      exact ⟨ret_bool (by simp), Grow.alloc' _ _⟩
  · cases h3 : decide (0 < d) <;> cases h4 : decide (1 ≤ a) <;> cases h5 : decide (a ≤ 6)
    all_goals try (exfalso; simp at *; omega)
    all_goals
      go_enter Tryz.func51, Tryz.ntmps51
      go_wp2_with fail
      go_ret
      exact ⟨ret_bool (by simp), Grow.alloc' _ _⟩
set_option maxHeartbeats 1000000 in
theorem rnode_o (k : Int) (a b d : Int) (h1 : ¬ d < 0) (h2 : ¬ 3 < d) (g1 : k ≠ 1) (g2 : k ≠ 2) (g3 : k ≠ 3) (g4 : k ≠ 4) (g5 : k ≠ 5) (g6 : k ≠ 6) (g7 : k ≠ 7) (g8 : k ≠ 8) (g9 : k ≠ 9) (g10 : k ≠ 10) (g11 : k ≠ 11) (w : World) :
    Calls Tryz.prog 51 #[.agg #[.int .i64 k, .int .i64 a, .int .i64 b, .int .i64 d]] w fun e w' => e = .returned (.bool false) ∧ Grow w w' := by
  rcases (by omega : a = 0 ∨ ¬ a = 0) with rfl | ha
  all_goals
    go_enter Tryz.func51, Tryz.ntmps51
    go_wp2_with fail
    go_ret
    exact ⟨rfl, Grow.alloc' _ _⟩
theorem rnode_any (k a b d : Int) {p : Bool} (hp : nodeB ⟨k, a, b, d⟩ = p) (w : World) :
    Calls Tryz.prog 51 #[.agg #[.int .i64 k, .int .i64 a, .int .i64 b, .int .i64 d]] w fun e w' => e = .returned (.bool p) ∧ Grow w w' := by
  subst hp
  by_cases h1 : d < 0
  · have : nodeB ⟨k, a, b, d⟩ = false := by
      have : ¬ 0 ≤ d := by omega
      simp [nodeB_parts, depthB, this]
    rw [this]
    exact rnode_lo k a b d h1 w
  by_cases h2 : 3 < d
  · have : nodeB ⟨k, a, b, d⟩ = false := by
      have : ¬ d ≤ 3 := by omega
      simp [nodeB_parts, depthB, this]
    rw [this]
    exact rnode_hi k a b d h1 h2 w
  have hd : depthB d = true := by simp [depthB]; omega
  unfold nodeB
  dsimp only
  rw [hd, Bool.true_and]
  rcases kind_cases k with rfl | rfl | rfl | rfl | rfl | rfl | rfl | rfl | rfl | rfl | rfl | ⟨g1, g2, g3, g4, g5, g6, g7, g8, g9, g10, g11⟩
  · simpa [Bool.and_assoc] using rnode_1 a b d h1 h2  w
  · simpa [Bool.and_assoc] using rnode_2 a b d h1 h2 rfl w
  · simpa [Bool.and_assoc] using rnode_3 a b d h1 h2 rfl w
  · simpa [Bool.and_assoc] using rnode_4 a b d h1 h2  w
  · simpa [Bool.and_assoc] using rnode_5 a b d h1 h2  w
  · simpa [Bool.and_assoc] using rnode_6 a b d h1 h2 rfl w
  · simpa [Bool.and_assoc] using rnode_7 a b d h1 h2 rfl w
  · simpa [Bool.and_assoc] using rnode_8 a b d h1 h2  w
  · simpa [Bool.and_assoc] using rnode_9 a b d h1 h2  w
  · simpa [Bool.and_assoc] using rnode_10 a b d h1 h2  w
  · simpa [Bool.and_assoc] using rnode_11 a b d h1 h2  w
  · simpa [*] using rnode_o k a b d h1 h2 g1 g2 g3 g4 g5 g6 g7 g8 g9 g10 g11 w

end Go.Proofs.YtehianjfpmbfpaaGreat
end

section
/-
  What the document's own Graph does to the world: of every graph it returns the first thing that is wrong; what was there stays as it was.
-/
namespace Go.Proofs.YtehianjfpmbfpaaGreat
set_option maxRecDepth 100000
open Go.RowKit Go.Sort
set_option linter.unusedVariables false
set_option linter.unusedSimpArgs false

theorem errG_big {N : List Nd} {E : List Ed} (h : ¬ (1 ≤ N.length ∧ N.length ≤ 12 ∧ E.length ≤ 24)) : errG N E = 3 := by unfold errG; rw [if_pos h]
theorem errG_ed {N : List Nd} {E : List Ed} (h1 : 1 ≤ N.length ∧ N.length ≤ 12 ∧ E.length ≤ 24) (h2 : N.all nodeB = true) (h3 : errEd N E ≠ 0) : errG N E = errEd N E := by
  unfold errG errEd at *
  rw [if_neg (fun x => x h1), if_neg (fun x => x h2)]
  by_cases a : E.all (edgeB N) = true
  · by_cases b : E.all (depE N) = true
    · simp [a, b] at h3
    · simp [a, b]
  · simp [a]
theorem errEd_zero {N : List Nd} {E : List Ed} (h : errEd N E = 0) : E.all (edgeB N) = true ∧ E.all (depE N) = true := by
  unfold errEd at h
  by_cases a : E.all (edgeB N) = true
  · by_cases b : E.all (depE N) = true
    · exact ⟨a, b⟩
    · simp [a, b] at h
  · simp [a] at h
theorem errG_po {N : List Nd} {E : List Ed} (h1 : 1 ≤ N.length ∧ N.length ≤ 12 ∧ E.length ≤ 24) (h2 : N.all nodeB = true) (h3 : errEd N E = 0) (h4 : errPo N E ≠ 0) : errG N E = errPo N E := by
  obtain ⟨a, b⟩ := errEd_zero h3
  unfold errG errPo at *
  rw [if_neg (fun x => x h1), if_neg (fun x => x h2), if_neg (fun x => x a), if_neg (fun x => x b)]
  by_cases c : (locs N).all (portOk E) = true
  · by_cases d : (locs N).all (routeOk N E) = true
    · simp [c, d] at h4
    · simp [c, d]
  · simp [c]
theorem errG_cy {N : List Nd} {E : List Ed} (h1 : 1 ≤ N.length ∧ N.length ≤ 12 ∧ E.length ≤ 24) (h2 : N.all nodeB = true) (h3 : errEd N E = 0) (h4 : errPo N E = 0) : errG N E = if (List.range N.length).any (cycB N E) = true then 14 else 0 := by
  obtain ⟨a, b⟩ := errEd_zero h3
  have cd : (locs N).all (portOk E) = true ∧ (locs N).all (routeOk N E) = true := by
    unfold errPo at h4
    by_cases c : (locs N).all (portOk E) = true
    · by_cases d : (locs N).all (routeOk N E) = true
      · exact ⟨c, d⟩
      · simp [c, d] at h4
    · simp [c] at h4
  unfold errG
  rw [if_neg (fun x => x h1), if_neg (fun x => x h2), if_neg (fun x => x a), if_neg (fun x => x b), if_neg (fun x => x cd.1), if_neg (fun x => x cd.2)]
set_option maxHeartbeats 16000000 in
theorem rgraph_any (gs : Option Addr) (gn gc : Nat) (gt : Option Addr) (gm gq : Nat) (N : List Nd) (E : List Ed) (w : World) (hg : IsNds w gs gn gc N) (he : IsEds w gt gm gq E) {r : Int} (hr : errG N E = r) :
    Calls Tryz.prog 30 #[.agg #[.slice gs gn gc, .slice gt gm gq]] w fun e w' => e = .returned (.int .i64 r) ∧ Grow w w' := by
  have HR := hide hr
  have hN : N.length = gn := hg.1
  have hE : E.length = gm := he.1
  have GG : Hid (Grow w (w.alloc (.cells #[.slice gs gn gc, .slice gt gm gq] 25))) := hide (Grow.alloc' _ _)
  have KG : Hid (BoxG (w.alloc (.cells #[.slice gs gn gc, .slice gt gm gq] 25)) w.heap.size ⟨gs, gn, gc, gt, gm, gq, [], []⟩) := hide (BoxG.new w ⟨gs, gn, gc, gt, gm, gq, [], []⟩)
  have HN := hide (hg.later GG.out)
  have HE := hide (he.later GG.out)
  clear hg he hr
  have HNL := hide hN
  have HEL := hide hE
  by_cases h1 : gn < 1
  · have HT : Hid (r = 3) := hide (by rw [← HR.out]; exact errG_big (by omega))
    have i1 : (gn : Int) < 1 := by omega
    go_enter Tryz.func30, Tryz.ntmps30
    go_wp2_with fail
    go_ret
    exact ⟨ret_int HT.out.symm, GG.out⟩
  by_cases h2 : 12 < gn
  · have HT : Hid (r = 3) := hide (by rw [← HR.out]; exact errG_big (by omega))
    have i1 : ¬ (gn : Int) < 1 := by omega
    have i2 : (12 : Int) < (gn : Int) := by omega
    go_enter Tryz.func30, Tryz.ntmps30
    go_wp2_with fail
    go_ret
    exact ⟨ret_int HT.out.symm, GG.out⟩
  by_cases h3 : 24 < gm
  · have HT : Hid (r = 3) := hide (by rw [← HR.out]; exact errG_big (by omega))
    have i1 : ¬ (gn : Int) < 1 := by omega
    have i2 : ¬ (12 : Int) < (gn : Int) := by omega
    have i3 : (24 : Int) < (gm : Int) := by omega
    go_enter Tryz.func30, Tryz.ntmps30
    go_wp2_with fail
    go_ret
    exact ⟨ret_int HT.out.symm, GG.out⟩
  have HBIG : Hid (1 ≤ N.length ∧ N.length ≤ 12 ∧ E.length ≤ 24) := hide (by omega)
  have HNn : Hid (gn ≤ 20) := hide (by omega)
  have HMm : Hid (gm ≤ 40) := hide (by omega)
  have i1 : ¬ (gn : Int) < 1 := by omega
  have i2 : ¬ (12 : Int) < (gn : Int) := by omega
  have i3 : ¬ (24 : Int) < (gm : Int) := by omega
  go_enter Tryz.func30, Tryz.ntmps30
  go_wp2_with fail
  generalize (w.alloc (.cells #[.slice gs gn gc, .slice gt gm gq] 25)) = w0 at *
  generalize w.heap.size = P at *
  go_loopw [3] (fun i wr => ∃ j : Nat, j ≤ gn ∧ i = .int .i64 (j : Int) ∧ Grow w0 wr ∧ ∀ q (h : q < N.length), q < j → nodeB N[q] = true) (fun i _ => gn - (intOf i).toNat)
  case atStart => exact ⟨0, Nat.zero_le _, rfl, Grow.rfl' _, fun q _ h => by omega⟩
  case round =>
    obtain ⟨j, hj, rfl, hg, hall⟩ := hrel
    generalize wr = wi at *
    have HG2 := hide hg
    have HA := hide hall
    obtain ⟨k0, k1⟩ := KG.out.later hg
    dsimp only at k0 k1
    clear hall
    by_cases hjt : j < gn
    · have hkd : j < N.length := by rw [HNL.out]; exact hjt
      have hne : ¬ N = [] := fun h => by rw [h] at hkd; simp at hkd
      obtain ⟨b, o, rfl, hr1⟩ := HN.out.2.2.resolve_left hne
      obtain ⟨p0, p1, p2, p3⟩ := (hr1.later hg).at j hkd
      obtain ⟨x, hx⟩ : ∃ x, x = N[j] := ⟨_, rfl⟩
      rw [← hx] at p0 p1 p2 p3
      have HX : Hid (∀ h : j < N.length, N[j]'h = x) := hide (fun h => hx.symm)
      have HKD := hide hkd
      obtain ⟨xk, xa, xb, xd⟩ := x
      dsimp only at p0 p1 p2 p3
      obtain ⟨q, hq⟩ : ∃ q, nodeB ⟨xk, xa, xb, xd⟩ = q := ⟨_, rfl⟩
      have C1 := hide (fun w => rnode_any xk xa xb xd hq w)
      have HQ := hide hq
      have hj1 : (0 : Int) ≤ (j : Int) := by omega
      have hj2 : (j : Int) < (gn : Int) := by omega
      clear hne hr1 hkd hx hg hq
      go_wp2_with fail
      refine (C1.out _).mono ?_
      rintro _ w5 ⟨rfl, hb⟩
      have G5 := hide (Grow.trans' HG2.out hb)
      clear hb p0 p1 p2 p3 k0 k1
      cases q
      · have HT : Hid (r = 10) := hide (by rw [← HR.out]; exact errG_node HBIG.out (not_all HKD.out (by rw [HX.out]; exact HQ.out)))
        go_wp2_with fail
        go_ret
        exact ⟨ret_int HT.out.symm, Grow.trans' GG.out G5.out⟩
      · go_wp2_with fail
        go_roundw
        case rel =>
          refine ⟨j + 1, by omega, by go_num, G5.out, fun q h hq => ?_⟩
          by_cases hqj : q < j
          · exact HA.out q h hqj
          · have : q = j := by omega
            subst this
            rw [HX.out]
            exact HQ.out
        case measure => simp [intOf]; omega
    · have hj2 : ¬ (j : Int) < (gn : Int) := by omega
      have HALL : Hid (N.all nodeB = true) := hide (all_upto fun q hq => HA.out q hq (by rw [HNL.out] at hq; omega))
      obtain ⟨e, hev⟩ : ∃ e, errEd N E = e := ⟨_, rfl⟩
      have C2 := hide (redges_raw gs gn gc gt gm gq N E wi HNn.out HMm.out (HN.out.later hg) (HE.out.later hg) hev)
      have HEV := hide hev
      clear hg hev
      go_wp2_with fail
      refine (C2.out).mono ?_
      rintro _ w5 ⟨rfl, hb⟩
      have G5 := hide (Grow.trans' HG2.out hb)
      have KG5 := hide (KG.out.later G5.out)
      obtain ⟨k0', k1'⟩ := KG5.out
      dsimp only at k0' k1'
      clear hb k0 k1 C2 HG2 HA
      by_cases he0 : e = 0
      rotate_left
      · have HT : Hid (r = e) := hide (by rw [← HR.out, errG_ed HBIG.out HALL.out (by rw [HEV.out]; exact he0)]; exact HEV.out)
        have he1 : (e == 0) = false := by simpa using he0
        go_wp2_with fail
        go_ret
        exact ⟨ret_int HT.out.symm, Grow.trans' GG.out G5.out⟩
      subst he0
      have hed := (errEd_zero HEV.out).1
      have HIN : Hid (InN N E) := hide (fun e he => by
        have := edge_is (List.all_eq_true.1 hed e he)
        exact ⟨this.1.1, this.1.2.1, this.2.1.1, this.2.1.2.1⟩)
      obtain ⟨e, hev⟩ : ∃ e, errPo N E = e := ⟨_, rfl⟩
      have C3 := hide (rports_raw gs gn gc gt gm gq N E w5 HNn.out HMm.out HIN.out (HN.out.later G5.out) (HE.out.later G5.out) hev)
      have HPV := hide hev
      clear hev hed
      go_wp2_with fail
      refine (C3.out).mono ?_
      rintro _ w6 ⟨rfl, hb⟩
      have G6 := hide (Grow.trans' G5.out hb)
      clear hb k0' k1' C3 KG5
      by_cases he0 : e = 0
      rotate_left
      · have HT : Hid (r = e) := hide (by rw [← HR.out, errG_po HBIG.out HALL.out HEV.out (by rw [HPV.out]; exact he0)]; exact HPV.out)
        have he1 : (e == 0) = false := by simpa using he0
        go_wp2_with fail
        go_ret
        exact ⟨ret_int HT.out.symm, Grow.trans' GG.out G6.out⟩
      subst he0
      have HR2 : Hid (r = if (List.range N.length).any (cycB N E) = true then 14 else 0) := hide (by rw [← HR.out]; exact errG_cy HBIG.out HALL.out HEV.out HPV.out)
      have KG6 := hide (KG.out.later G6.out)
      have HN6 := hide (HN.out.later G6.out)
      have HE6 := hide (HE.out.later G6.out)
      have GG6 := hide (Grow.trans' GG.out G6.out)
      clear G5 G6
      go_wp2_with fail
      go_loopw [6] (fun i wr => ∃ j : Nat, j ≤ gn ∧ i = .int .i64 (j : Int) ∧ Grow w6 wr ∧ ∀ q, q < j → cycB N E q = false) (fun i _ => gn - (intOf i).toNat)
      case atStart => exact ⟨0, Nat.zero_le _, rfl, Grow.rfl' _, fun q h => by omega⟩
      case round =>
        obtain ⟨k, hk, rfl, hg, hall⟩ := hrel
        generalize wr = wk at *
        have HG2 := hide hg
        have HA := hide hall
        obtain ⟨k0, k1⟩ := KG6.out.later hg
        dsimp only at k0 k1
        clear hall
        by_cases hjt : k < gn
        · have hkd : k < N.length := by rw [HNL.out]; exact hjt
          have hne : ¬ N = [] := fun h => by rw [h] at hkd; simp at hkd
          obtain ⟨b, o, rfl, hr1⟩ := HN6.out.2.2.resolve_left hne
          obtain ⟨p0, p1, p2, p3⟩ := (hr1.later hg).at k hkd
          rw [← nth_get N k hkd] at p0 p1 p2 p3
          obtain ⟨xk, hx⟩ : ∃ xk, xk = (nth N k).k := ⟨_, rfl⟩
          rw [← hx] at p0
          have HX := hide hx
          have HKD := hide hkd
          obtain ⟨q, hq⟩ : ∃ q, roundB N E k = q := ⟨_, rfl⟩
          have C4 := hide (rround_raw (some ⟨b, o, none⟩) gn gc gt gm gq N E k wk HNn.out HMm.out hkd HIN.out (HN6.out.later hg) (HE6.out.later hg) hq)
          have HQ := hide hq
          have hk1 : (0 : Int) ≤ (k : Int) := by omega
          have hk2 : (k : Int) < (gn : Int) := by omega
          clear hne hr1 hkd hx hg hq p1 p2 p3
          by_cases hk10 : xk = 10
          · have HY : Hid (cycB N E k = false) := hide (by unfold cycB; rw [← HX.out, hk10]; rfl)
            rw [hk10] at p0
            clear hk10
            go_wp2_with fail
            go_roundw
            case rel =>
              refine ⟨k + 1, by omega, by go_num, HG2.out, fun q hq => ?_⟩
              by_cases hqj : q < k
              · exact HA.out q hqj
              · have : q = k := by omega
                subst this
                exact HY.out
            case measure => simp [intOf]; omega
          · have HK := hide hk10
            go_wp2_with fail
            refine (C4.out).mono ?_
            rintro _ w7 ⟨rfl, hb⟩
            have G7 := hide (Grow.trans' HG2.out hb)
            have HC : Hid (cycB N E k = q) := hide (by unfold cycB; rw [← HX.out, decide_eq_true HK.out, Bool.true_and]; exact HQ.out)
            clear hb p0 k0 k1
            cases q
            · go_wp2_with fail
              go_roundw
              case rel =>
                refine ⟨k + 1, by omega, by go_num, G7.out, fun q hq => ?_⟩
                by_cases hqj : q < k
                · exact HA.out q hqj
                · have : q = k := by omega
                  subst this
                  exact HC.out
              case measure => simp [intOf]; omega
            · have HT : Hid (r = 14) := hide (by
                rw [HR2.out, if_pos (List.any_eq_true.2 ⟨k, List.mem_range.2 HKD.out, HC.out⟩)])
              go_wp2_with fail
              go_ret
              exact ⟨ret_int HT.out.symm, Grow.trans' GG6.out G7.out⟩
        · have hk2 : ¬ (k : Int) < (gn : Int) := by omega
          have HT : Hid (r = 0) := hide (by
            rw [HR2.out, if_neg]
            intro h
            obtain ⟨j, hj, h2⟩ := List.any_eq_true.1 h
            have := HA.out j (by have := List.mem_range.1 hj; rw [HNL.out] at this; omega)
            rw [h2] at this
            cases this)
          clear hg
          go_wp2_with fail
          go_ret
          exact ⟨ret_int HT.out.symm, Grow.trans' GG6.out HG2.out⟩
theorem rgraph_raw (gs : Option Addr) (gn gc : Nat) (gt : Option Addr) (gm gq : Nat) (N : List Nd) (E : List Ed) (w : World) (hn : gn ≤ 20) (hm : gm ≤ 40) (hg : IsNds w gs gn gc N) (he : IsEds w gt gm gq E) {r : Int} (hr : errG N E = r) :
    Calls Tryz.prog 30 #[.agg #[.slice gs gn gc, .slice gt gm gq]] w fun e w' => e = .returned (.int .i64 r) ∧ Grow w w' := rgraph_any gs gn gc gt gm gq N E w hg he hr

end Go.Proofs.YtehianjfpmbfpaaGreat
end
