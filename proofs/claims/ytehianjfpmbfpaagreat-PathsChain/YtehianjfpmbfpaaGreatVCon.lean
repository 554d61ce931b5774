/-
  What fn's and window's May functions, and the document's own, do to the world: each returns its plain answer, and what was there stays as it was.
-/
import Derived.Test.YtehianjfpmbfpaaGreatHSum
import Derived.Test.YtehianjfpmbfpaaGreatVMy
import Derived.Test.YtehianjfpmbfpaaGreatWPl
import Derived.Laws.EntriesVeiled
import Derived.Laws.CopyOwn
import Derived.Lib.QuietBelow
namespace Go.Proofs.YtehianjfpmbfpaaGreat
set_option maxRecDepth 100000
open Go.RowKit Go.Sort
set_option linter.unusedVariables false
set_option linter.unusedSimpArgs false

theorem refSmall_at (b : Int) {p : Bool} (hp : (decide (-1000 ≤ b) && decide (b ≤ 1000)) = p) (w : World) :
    Calls Tryz.prog 95 #[.int .i64 b] w fun e w' => e = .returned (.bool p) ∧ w' = w := by
  subst hp
  by_cases h1 : -1000 ≤ b <;> by_cases h2 : b ≤ 1000
  all_goals
    go_enter Tryz.func95, Tryz.ntmps95
    go_wp2
  all_goals go_ret
  all_goals exact ⟨ret_bool (by simp; try omega), rfl⟩
set_option maxHeartbeats 1000000 in
theorem refMayMap_any (a b : Int) (w : World) :
    Calls Tryz.prog 72 #[.int .i64 a, .int .i64 b] w fun e w' => e = .returned (.bool (mayMapB a b)) ∧ w' = w := by
  obtain ⟨p, hp⟩ : ∃ p, (decide (-1000 ≤ b) && decide (b ≤ 1000)) = p := ⟨_, rfl⟩
  have HP := hide hp
  have HM : Hid (mayMapB a b = (decide (1 ≤ a) && decide (a ≤ 5) && p && (decide (a ≠ 3) || decide (1 ≤ b)))) := hide (by rw [← hp]; simp [mayMapB, Bool.and_assoc])
  clear hp
  rw [HM.out]
  clear HM
  by_cases h1 : 1 ≤ a
  · by_cases h2 : a ≤ 5
    · cases p
      · go_enter Tryz.func72, Tryz.ntmps72
        go_wp2_with fail
        refine (refSmall_at b HP.out _).mono ?_
        rintro e w1 ⟨rfl, rfl⟩
        go_wp2_with fail
        go_ret
        exact ⟨ret_bool (by simp), rfl⟩
      · by_cases h3 : a = 3
        · subst h3
          by_cases h4 : 1 ≤ b
          all_goals
            go_enter Tryz.func72, Tryz.ntmps72
            go_wp2_with fail
            refine (refSmall_at b HP.out _).mono ?_
            rintro e w1 ⟨rfl, rfl⟩
            go_wp2_with fail
            go_ret
            exact ⟨ret_bool (by simp; try omega), rfl⟩
        · go_enter Tryz.func72, Tryz.ntmps72
          go_wp2_with fail
          refine (refSmall_at b HP.out _).mono ?_
          rintro e w1 ⟨rfl, rfl⟩
          go_wp2_with fail
          go_ret
          exact ⟨ret_bool (by simp; try omega), rfl⟩
    · go_enter Tryz.func72, Tryz.ntmps72
      go_wp2_with fail
      go_ret
      exact ⟨ret_bool (by simp; intros; omega), rfl⟩
  · go_enter Tryz.func72, Tryz.ntmps72
    go_wp2_with fail
    go_ret
    exact ⟨ret_bool (by simp; intros; omega), rfl⟩
theorem refMayMap_at (a b : Int) {p : Bool} (hp : mayMapB a b = p) (w : World) :
    Calls Tryz.prog 72 #[.int .i64 a, .int .i64 b] w fun e w' => e = .returned (.bool p) ∧ w' = w := by rw [← hp]; exact refMayMap_any a b w
set_option maxHeartbeats 1000000 in
theorem refMayFil_any (a b : Int) (w : World) :
    Calls Tryz.prog 73 #[.int .i64 a, .int .i64 b] w fun e w' => e = .returned (.bool (mayFilB a b)) ∧ w' = w := by
  obtain ⟨p, hp⟩ : ∃ p, (decide (-1000 ≤ b) && decide (b ≤ 1000)) = p := ⟨_, rfl⟩
  have HP := hide hp
  have HM : Hid (mayFilB a b = (decide (1 ≤ a) && decide (a ≤ 4) && p && (decide (a ≠ 3) || decide (1 ≤ b)))) := hide (by rw [← hp]; simp [mayFilB, Bool.and_assoc])
  clear hp
  rw [HM.out]
  clear HM
  by_cases h1 : 1 ≤ a
  · by_cases h2 : a ≤ 4
    · cases p
      · go_enter Tryz.func73, Tryz.ntmps73
        go_wp2_with fail
        refine (refSmall_at b HP.out _).mono ?_
        rintro e w1 ⟨rfl, rfl⟩
        go_wp2_with fail
        go_ret
        exact ⟨ret_bool (by simp), rfl⟩
      · by_cases h3 : a = 3
        · subst h3
          by_cases h4 : 1 ≤ b
          all_goals
            go_enter Tryz.func73, Tryz.ntmps73
            go_wp2_with fail
            refine (refSmall_at b HP.out _).mono ?_
            rintro e w1 ⟨rfl, rfl⟩
            go_wp2_with fail
            go_ret
            exact ⟨ret_bool (by simp; try omega), rfl⟩
        · go_enter Tryz.func73, Tryz.ntmps73
          go_wp2_with fail
          refine (refSmall_at b HP.out _).mono ?_
          rintro e w1 ⟨rfl, rfl⟩
          go_wp2_with fail
          go_ret
          exact ⟨ret_bool (by simp; try omega), rfl⟩
    · go_enter Tryz.func73, Tryz.ntmps73
      go_wp2_with fail
      go_ret
      exact ⟨ret_bool (by simp; intros; omega), rfl⟩
  · go_enter Tryz.func73, Tryz.ntmps73
    go_wp2_with fail
    go_ret
    exact ⟨ret_bool (by simp; intros; omega), rfl⟩
theorem refMayFil_at (a b : Int) {p : Bool} (hp : mayFilB a b = p) (w : World) :
    Calls Tryz.prog 73 #[.int .i64 a, .int .i64 b] w fun e w' => e = .returned (.bool p) ∧ w' = w := by rw [← hp]; exact refMayFil_any a b w
theorem refMayRed_at (a : Int) {p : Bool} (hp : mayRedB a = p) (w : World) :
    Calls Tryz.prog 74 #[.int .i64 a] w fun e w' => e = .returned (.bool p) ∧ w' = w := by
  subst hp
  unfold mayRedB
  by_cases h1 : 1 ≤ a <;> by_cases h2 : a ≤ 4
  all_goals
    go_enter Tryz.func74, Tryz.ntmps74
    go_wp2
  all_goals go_ret
  all_goals exact ⟨ret_bool (by simp; try omega), rfl⟩
theorem rmay_at (a b : Int) {p : Bool} (hp : mayW a b = p) (w : World) :
    Calls Tryz.prog 75 #[.int .i64 a, .int .i64 b] w fun e w' => e = .returned (.bool p) ∧ w' = w := by
  subst hp
  by_cases h1 : 1 ≤ a <;> by_cases h2 : a ≤ 20 <;> by_cases h3 : 1 ≤ b <;> by_cases h4 : b ≤ a
  all_goals
    go_enter Tryz.func75, Tryz.ntmps75
    go_wp2
  all_goals go_ret
  all_goals exact ⟨ret_bool (by simp [mayW]; try omega), rfl⟩

end Go.Proofs.YtehianjfpmbfpaaGreat
