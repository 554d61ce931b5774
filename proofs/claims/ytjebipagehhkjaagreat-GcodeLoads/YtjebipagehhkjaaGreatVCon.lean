/-
  What fn's and window's May functions, and the document's own, do to the world: each returns its plain answer, and what was there stays as it was.
-/
import Derived.Test.YtjebipagehhkjaaGreatHSum
import Derived.Test.YtjebipagehhkjaaGreatVMy
import Derived.Test.YtjebipagehhkjaaGreatWPl
import Derived.Laws.EntriesVeiled
import Derived.Laws.CopyOwn
import Derived.Lib.QuietBelow
namespace Go.Proofs.YtjebipagehhkjaaGreat
set_option maxRecDepth 100000
open Go.RowKit Go.Sort
set_option linter.unusedVariables false
set_option linter.unusedSimpArgs false

theorem isNumber_at (a m : Int) {p : Bool} (hp : (decide (1 ≤ a) && decide (a < m)) = p) (w : World) :
    Calls Tryz.prog 91 #[.int .i64 a, .int .i64 m] w fun e w' => e = .returned (.bool p) ∧ w' = w := by
  subst hp
  by_cases h1 : 1 ≤ a <;> by_cases h2 : a < m
  all_goals
    go_enter Tryz.func91, Tryz.ntmps91
    go_wp2
  all_goals go_ret
  all_goals exact ⟨ret_bool (by simp; try omega), rfl⟩
theorem isB_at (b m : Int) {p : Bool} (hp : (decide (m ≤ b) && decide (b ≤ 1000)) = p) (w : World) :
    Calls Tryz.prog 92 #[.int .i64 b, .int .i64 m] w fun e w' => e = .returned (.bool p) ∧ w' = w := by
  subst hp
  by_cases h1 : m ≤ b <;> by_cases h2 : b ≤ 1000
  all_goals
    go_enter Tryz.func92, Tryz.ntmps92
    go_wp2
  all_goals go_ret
  all_goals exact ⟨ret_bool (by simp; try omega), rfl⟩
theorem mappings_any (w : World) : Calls Tryz.prog 93 #[] w fun e w' => e = .returned (.agg #[.int .i64 0, .nilFunc, .int .i64 (-1000), .func (.func 98) #[] #[], .int .i64 (-1000), .func (.func 100) #[] #[], .int .i64 1, .func (.func 101) #[] #[], .int .i64 (-1000), .func (.func 103) #[] #[], .int .i64 (-1000), .func (.func 104) #[] #[]]) ∧ Grow w w' := by
  go_enter Tryz.func93, Tryz.ntmps93
  go_wp2
  refine bodyPost_ret (v := .agg #[.int .i64 0, .nilFunc, .int .i64 (-1000), .func (.func 98) #[] #[], .int .i64 (-1000), .func (.func 100) #[] #[], .int .i64 1, .func (.func 101) #[] #[], .int .i64 (-1000), .func (.func 103) #[] #[], .int .i64 (-1000), .func (.func 104) #[] #[]]) (by simp [results, Tryz.results93, go_sem]) rfl ⟨rfl, Grow.alloc' _ _⟩
theorem mapAt_1 (w : World) : (Instr.index 104 (.agg #[.int .i64 0, .nilFunc, .int .i64 (-1000), .func (.func 98) #[] #[], .int .i64 (-1000), .func (.func 100) #[] #[], .int .i64 1, .func (.func 101) #[] #[], .int .i64 (-1000), .func (.func 103) #[] #[], .int .i64 (-1000), .func (.func 104) #[] #[]]) (.int .i64 1)).run Tryz.prog w = .ok (.agg #[.int .i64 (-1000), .func (.func 98) #[] #[]]) w := by kernel_rfl
theorem mapAt_2 (w : World) : (Instr.index 104 (.agg #[.int .i64 0, .nilFunc, .int .i64 (-1000), .func (.func 98) #[] #[], .int .i64 (-1000), .func (.func 100) #[] #[], .int .i64 1, .func (.func 101) #[] #[], .int .i64 (-1000), .func (.func 103) #[] #[], .int .i64 (-1000), .func (.func 104) #[] #[]]) (.int .i64 2)).run Tryz.prog w = .ok (.agg #[.int .i64 (-1000), .func (.func 100) #[] #[]]) w := by kernel_rfl
theorem mapAt_3 (w : World) : (Instr.index 104 (.agg #[.int .i64 0, .nilFunc, .int .i64 (-1000), .func (.func 98) #[] #[], .int .i64 (-1000), .func (.func 100) #[] #[], .int .i64 1, .func (.func 101) #[] #[], .int .i64 (-1000), .func (.func 103) #[] #[], .int .i64 (-1000), .func (.func 104) #[] #[]]) (.int .i64 3)).run Tryz.prog w = .ok (.agg #[.int .i64 1, .func (.func 101) #[] #[]]) w := by kernel_rfl
theorem mapAt_4 (w : World) : (Instr.index 104 (.agg #[.int .i64 0, .nilFunc, .int .i64 (-1000), .func (.func 98) #[] #[], .int .i64 (-1000), .func (.func 100) #[] #[], .int .i64 1, .func (.func 101) #[] #[], .int .i64 (-1000), .func (.func 103) #[] #[], .int .i64 (-1000), .func (.func 104) #[] #[]]) (.int .i64 4)).run Tryz.prog w = .ok (.agg #[.int .i64 (-1000), .func (.func 103) #[] #[]]) w := by kernel_rfl
theorem mapAt_5 (w : World) : (Instr.index 104 (.agg #[.int .i64 0, .nilFunc, .int .i64 (-1000), .func (.func 98) #[] #[], .int .i64 (-1000), .func (.func 100) #[] #[], .int .i64 1, .func (.func 101) #[] #[], .int .i64 (-1000), .func (.func 103) #[] #[], .int .i64 (-1000), .func (.func 104) #[] #[]]) (.int .i64 5)).run Tryz.prog w = .ok (.agg #[.int .i64 (-1000), .func (.func 104) #[] #[]]) w := by kernel_rfl
theorem mapF_0 (m : Int) (f : Value) (w : World) : (Instr.field 103 (.agg #[.int .i64 m, f]) 0).run Tryz.prog w = .ok (.int .i64 m) w := by kernel_rfl
theorem mapF_1 (m : Int) (g : Fn) (w : World) : (Instr.field 103 (.agg #[.int .i64 m, .func g #[] #[]]) 1).run Tryz.prog w = .ok (.func g #[] #[]) w := by kernel_rfl
attribute [local go_sem ↓] mapAt_1 mapAt_2 mapAt_3 mapAt_4 mapAt_5 mapF_0 mapF_1
theorem mayMap_no (a b : Int) (ha : ¬ (1 ≤ a ∧ a ≤ 5)) (w : World) :
    Calls Tryz.prog 86 #[.int .i64 a, .int .i64 b] w fun e w' => e = .returned (.bool (mayMapB a b)) ∧ Grow w w' := by
  have HM := hide (show mayMapB a b = false by
    have : ¬ 1 ≤ a ∨ ¬ a ≤ 5 := by omega
    rcases this with h | h <;> simp [mayMapB, h])
  have C := hide (isNumber_at a 6 (p := false) (by
    have : ¬ 1 ≤ a ∨ ¬ a < 6 := by omega
    rcases this with h | h <;> simp [h]) w)
  rw [HM.out]
  clear ha
  go_enter Tryz.func86, Tryz.ntmps86
  go_wp2_with fail
  refine (C.out).mono ?_
  rintro e w1 ⟨rfl, rfl⟩
  go_wp2_with fail
  go_ret
  exact ⟨rfl, Grow.rfl' _⟩
theorem mayMap_1 (b : Int) (w : World) :
    Calls Tryz.prog 86 #[.int .i64 1, .int .i64 b] w fun e w' => e = .returned (.bool (mayMapB 1 b)) ∧ Grow w w' := by
  obtain ⟨p, hp⟩ : ∃ p, (decide ((-1000 : Int) ≤ b) && decide (b ≤ 1000)) = p := ⟨_, rfl⟩
  have hm : mayMapB 1 b = p := by
    rw [← hp, Bool.eq_iff_iff]
    simp [mayMapB]
    try omega
  rw [hm]
  have HP := hide hp
  clear hp hm
  go_enter Tryz.func86, Tryz.ntmps86
  go_wp2_with fail
  refine (isNumber_at 1 6 (p := true) rfl _).mono ?_
  rintro e w1 ⟨rfl, rfl⟩
  go_wp2_with fail
  refine (mappings_any _).mono ?_
  rintro e w2 ⟨rfl, hb⟩
  have G2 := hide hb
  clear hb
  go_wp2_with fail
  refine (isB_at b _ HP.out _).mono ?_
  rintro e w3 ⟨rfl, rfl⟩
  go_wp2_with fail
  go_ret
  exact ⟨rfl, G2.out⟩
theorem mayMap_2 (b : Int) (w : World) :
    Calls Tryz.prog 86 #[.int .i64 2, .int .i64 b] w fun e w' => e = .returned (.bool (mayMapB 2 b)) ∧ Grow w w' := by
  obtain ⟨p, hp⟩ : ∃ p, (decide ((-1000 : Int) ≤ b) && decide (b ≤ 1000)) = p := ⟨_, rfl⟩
  have hm : mayMapB 2 b = p := by
    rw [← hp, Bool.eq_iff_iff]
    simp [mayMapB]
    try omega
  rw [hm]
  have HP := hide hp
  clear hp hm
  go_enter Tryz.func86, Tryz.ntmps86
  go_wp2_with fail
  refine (isNumber_at 2 6 (p := true) rfl _).mono ?_
  rintro e w1 ⟨rfl, rfl⟩
  go_wp2_with fail
  refine (mappings_any _).mono ?_
  rintro e w2 ⟨rfl, hb⟩
  have G2 := hide hb
  clear hb
  go_wp2_with fail
  refine (isB_at b _ HP.out _).mono ?_
  rintro e w3 ⟨rfl, rfl⟩
  go_wp2_with fail
  go_ret
  exact ⟨rfl, G2.out⟩
theorem mayMap_3 (b : Int) (w : World) :
    Calls Tryz.prog 86 #[.int .i64 3, .int .i64 b] w fun e w' => e = .returned (.bool (mayMapB 3 b)) ∧ Grow w w' := by
  obtain ⟨p, hp⟩ : ∃ p, (decide ((1 : Int) ≤ b) && decide (b ≤ 1000)) = p := ⟨_, rfl⟩
  have hm : mayMapB 3 b = p := by
    rw [← hp, Bool.eq_iff_iff]
    simp [mayMapB]
    try omega
  rw [hm]
  have HP := hide hp
  clear hp hm
  go_enter Tryz.func86, Tryz.ntmps86
  go_wp2_with fail
  refine (isNumber_at 3 6 (p := true) rfl _).mono ?_
  rintro e w1 ⟨rfl, rfl⟩
  go_wp2_with fail
  refine (mappings_any _).mono ?_
  rintro e w2 ⟨rfl, hb⟩
  have G2 := hide hb
  clear hb
  go_wp2_with fail
  refine (isB_at b _ HP.out _).mono ?_
  rintro e w3 ⟨rfl, rfl⟩
  go_wp2_with fail
  go_ret
  exact ⟨rfl, G2.out⟩
theorem mayMap_4 (b : Int) (w : World) :
    Calls Tryz.prog 86 #[.int .i64 4, .int .i64 b] w fun e w' => e = .returned (.bool (mayMapB 4 b)) ∧ Grow w w' := by
  obtain ⟨p, hp⟩ : ∃ p, (decide ((-1000 : Int) ≤ b) && decide (b ≤ 1000)) = p := ⟨_, rfl⟩
  have hm : mayMapB 4 b = p := by
    rw [← hp, Bool.eq_iff_iff]
    simp [mayMapB]
    try omega
  rw [hm]
  have HP := hide hp
  clear hp hm
  go_enter Tryz.func86, Tryz.ntmps86
  go_wp2_with fail
  refine (isNumber_at 4 6 (p := true) rfl _).mono ?_
  rintro e w1 ⟨rfl, rfl⟩
  go_wp2_with fail
  refine (mappings_any _).mono ?_
  rintro e w2 ⟨rfl, hb⟩
  have G2 := hide hb
  clear hb
  go_wp2_with fail
  refine (isB_at b _ HP.out _).mono ?_
  rintro e w3 ⟨rfl, rfl⟩
  go_wp2_with fail
  go_ret
  exact ⟨rfl, G2.out⟩
theorem mayMap_5 (b : Int) (w : World) :
    Calls Tryz.prog 86 #[.int .i64 5, .int .i64 b] w fun e w' => e = .returned (.bool (mayMapB 5 b)) ∧ Grow w w' := by
  obtain ⟨p, hp⟩ : ∃ p, (decide ((-1000 : Int) ≤ b) && decide (b ≤ 1000)) = p := ⟨_, rfl⟩
  have hm : mayMapB 5 b = p := by
    rw [← hp, Bool.eq_iff_iff]
    simp [mayMapB]
    try omega
  rw [hm]
  have HP := hide hp
  clear hp hm
  go_enter Tryz.func86, Tryz.ntmps86
  go_wp2_with fail
  refine (isNumber_at 5 6 (p := true) rfl _).mono ?_
  rintro e w1 ⟨rfl, rfl⟩
  go_wp2_with fail
  refine (mappings_any _).mono ?_
  rintro e w2 ⟨rfl, hb⟩
  have G2 := hide hb
  clear hb
  go_wp2_with fail
  refine (isB_at b _ HP.out _).mono ?_
  rintro e w3 ⟨rfl, rfl⟩
  go_wp2_with fail
  go_ret
  exact ⟨rfl, G2.out⟩
theorem mayMap_any (a b : Int) (w : World) :
    Calls Tryz.prog 86 #[.int .i64 a, .int .i64 b] w fun e w' => e = .returned (.bool (mayMapB a b)) ∧ Grow w w' := by
  by_cases ha : 1 ≤ a ∧ a ≤ 5
  · have : a = 1 ∨ a = 2 ∨ a = 3 ∨ a = 4 ∨ a = 5 := by omega
    rcases this with rfl | rfl | rfl | rfl | rfl
    · exact mayMap_1 b w
    · exact mayMap_2 b w
    · exact mayMap_3 b w
    · exact mayMap_4 b w
    · exact mayMap_5 b w
  · exact mayMap_no a b ha w
theorem mayMap_at (a b : Int) {p : Bool} (h : mayMapB a b = p) (w : World) :
    Calls Tryz.prog 86 #[.int .i64 a, .int .i64 b] w fun e w' => e = .returned (.bool p) ∧ Grow w w' := by rw [← h]; exact mayMap_any a b w
theorem predicates_any (w : World) : Calls Tryz.prog 94 #[] w fun e w' => e = .returned (.agg #[.int .i64 0, .nilFunc, .int .i64 (-1000), .func (.func 105) #[] #[], .int .i64 (-1000), .func (.func 106) #[] #[], .int .i64 1, .func (.func 107) #[] #[], .int .i64 (-1000), .func (.func 108) #[] #[]]) ∧ Grow w w' := by
  go_enter Tryz.func94, Tryz.ntmps94
  go_wp2
  refine bodyPost_ret (v := .agg #[.int .i64 0, .nilFunc, .int .i64 (-1000), .func (.func 105) #[] #[], .int .i64 (-1000), .func (.func 106) #[] #[], .int .i64 1, .func (.func 107) #[] #[], .int .i64 (-1000), .func (.func 108) #[] #[]]) (by simp [results, Tryz.results94, go_sem]) rfl ⟨rfl, Grow.alloc' _ _⟩
theorem predAt_1 (w : World) : (Instr.index 109 (.agg #[.int .i64 0, .nilFunc, .int .i64 (-1000), .func (.func 105) #[] #[], .int .i64 (-1000), .func (.func 106) #[] #[], .int .i64 1, .func (.func 107) #[] #[], .int .i64 (-1000), .func (.func 108) #[] #[]]) (.int .i64 1)).run Tryz.prog w = .ok (.agg #[.int .i64 (-1000), .func (.func 105) #[] #[]]) w := by kernel_rfl
theorem predAt_2 (w : World) : (Instr.index 109 (.agg #[.int .i64 0, .nilFunc, .int .i64 (-1000), .func (.func 105) #[] #[], .int .i64 (-1000), .func (.func 106) #[] #[], .int .i64 1, .func (.func 107) #[] #[], .int .i64 (-1000), .func (.func 108) #[] #[]]) (.int .i64 2)).run Tryz.prog w = .ok (.agg #[.int .i64 (-1000), .func (.func 106) #[] #[]]) w := by kernel_rfl
theorem predAt_3 (w : World) : (Instr.index 109 (.agg #[.int .i64 0, .nilFunc, .int .i64 (-1000), .func (.func 105) #[] #[], .int .i64 (-1000), .func (.func 106) #[] #[], .int .i64 1, .func (.func 107) #[] #[], .int .i64 (-1000), .func (.func 108) #[] #[]]) (.int .i64 3)).run Tryz.prog w = .ok (.agg #[.int .i64 1, .func (.func 107) #[] #[]]) w := by kernel_rfl
theorem predAt_4 (w : World) : (Instr.index 109 (.agg #[.int .i64 0, .nilFunc, .int .i64 (-1000), .func (.func 105) #[] #[], .int .i64 (-1000), .func (.func 106) #[] #[], .int .i64 1, .func (.func 107) #[] #[], .int .i64 (-1000), .func (.func 108) #[] #[]]) (.int .i64 4)).run Tryz.prog w = .ok (.agg #[.int .i64 (-1000), .func (.func 108) #[] #[]]) w := by kernel_rfl
theorem predF_0 (m : Int) (f : Value) (w : World) : (Instr.field 108 (.agg #[.int .i64 m, f]) 0).run Tryz.prog w = .ok (.int .i64 m) w := by kernel_rfl
theorem predF_1 (m : Int) (g : Fn) (w : World) : (Instr.field 108 (.agg #[.int .i64 m, .func g #[] #[]]) 1).run Tryz.prog w = .ok (.func g #[] #[]) w := by kernel_rfl
attribute [local go_sem ↓] predAt_1 predAt_2 predAt_3 predAt_4 predF_0 predF_1
theorem mayFil_no (a b : Int) (ha : ¬ (1 ≤ a ∧ a ≤ 4)) (w : World) :
    Calls Tryz.prog 87 #[.int .i64 a, .int .i64 b] w fun e w' => e = .returned (.bool (mayFilB a b)) ∧ Grow w w' := by
  have HM := hide (show mayFilB a b = false by
    have : ¬ 1 ≤ a ∨ ¬ a ≤ 4 := by omega
    rcases this with h | h <;> simp [mayFilB, h])
  have C := hide (isNumber_at a 5 (p := false) (by
    have : ¬ 1 ≤ a ∨ ¬ a < 5 := by omega
    rcases this with h | h <;> simp [h]) w)
  rw [HM.out]
  clear ha
  go_enter Tryz.func87, Tryz.ntmps87
  go_wp2_with fail
  refine (C.out).mono ?_
  rintro e w1 ⟨rfl, rfl⟩
  go_wp2_with fail
  go_ret
  exact ⟨rfl, Grow.rfl' _⟩
theorem mayFil_1 (b : Int) (w : World) :
    Calls Tryz.prog 87 #[.int .i64 1, .int .i64 b] w fun e w' => e = .returned (.bool (mayFilB 1 b)) ∧ Grow w w' := by
  obtain ⟨p, hp⟩ : ∃ p, (decide ((-1000 : Int) ≤ b) && decide (b ≤ 1000)) = p := ⟨_, rfl⟩
  have hm : mayFilB 1 b = p := by
    rw [← hp, Bool.eq_iff_iff]
    simp [mayFilB]
    try omega
  rw [hm]
  have HP := hide hp
  clear hp hm
  go_enter Tryz.func87, Tryz.ntmps87
  go_wp2_with fail
  refine (isNumber_at 1 5 (p := true) rfl _).mono ?_
  rintro e w1 ⟨rfl, rfl⟩
  go_wp2_with fail
  refine (predicates_any _).mono ?_
  rintro e w2 ⟨rfl, hb⟩
  have G2 := hide hb
  clear hb
  go_wp2_with fail
  refine (isB_at b _ HP.out _).mono ?_
  rintro e w3 ⟨rfl, rfl⟩
  go_wp2_with fail
  go_ret
  exact ⟨rfl, G2.out⟩
theorem mayFil_2 (b : Int) (w : World) :
    Calls Tryz.prog 87 #[.int .i64 2, .int .i64 b] w fun e w' => e = .returned (.bool (mayFilB 2 b)) ∧ Grow w w' := by
  obtain ⟨p, hp⟩ : ∃ p, (decide ((-1000 : Int) ≤ b) && decide (b ≤ 1000)) = p := ⟨_, rfl⟩
  have hm : mayFilB 2 b = p := by
    rw [← hp, Bool.eq_iff_iff]
    simp [mayFilB]
    try omega
  rw [hm]
  have HP := hide hp
  clear hp hm
  go_enter Tryz.func87, Tryz.ntmps87
  go_wp2_with fail
  refine (isNumber_at 2 5 (p := true) rfl _).mono ?_
  rintro e w1 ⟨rfl, rfl⟩
  go_wp2_with fail
  refine (predicates_any _).mono ?_
  rintro e w2 ⟨rfl, hb⟩
  have G2 := hide hb
  clear hb
  go_wp2_with fail
  refine (isB_at b _ HP.out _).mono ?_
  rintro e w3 ⟨rfl, rfl⟩
  go_wp2_with fail
  go_ret
  exact ⟨rfl, G2.out⟩
theorem mayFil_3 (b : Int) (w : World) :
    Calls Tryz.prog 87 #[.int .i64 3, .int .i64 b] w fun e w' => e = .returned (.bool (mayFilB 3 b)) ∧ Grow w w' := by
  obtain ⟨p, hp⟩ : ∃ p, (decide ((1 : Int) ≤ b) && decide (b ≤ 1000)) = p := ⟨_, rfl⟩
  have hm : mayFilB 3 b = p := by
    rw [← hp, Bool.eq_iff_iff]
    simp [mayFilB]
    try omega
  rw [hm]
  have HP := hide hp
  clear hp hm
  go_enter Tryz.func87, Tryz.ntmps87
  go_wp2_with fail
  refine (isNumber_at 3 5 (p := true) rfl _).mono ?_
  rintro e w1 ⟨rfl, rfl⟩
  go_wp2_with fail
  refine (predicates_any _).mono ?_
  rintro e w2 ⟨rfl, hb⟩
  have G2 := hide hb
  clear hb
  go_wp2_with fail
  refine (isB_at b _ HP.out _).mono ?_
  rintro e w3 ⟨rfl, rfl⟩
  go_wp2_with fail
  go_ret
  exact ⟨rfl, G2.out⟩
theorem mayFil_4 (b : Int) (w : World) :
    Calls Tryz.prog 87 #[.int .i64 4, .int .i64 b] w fun e w' => e = .returned (.bool (mayFilB 4 b)) ∧ Grow w w' := by
  obtain ⟨p, hp⟩ : ∃ p, (decide ((-1000 : Int) ≤ b) && decide (b ≤ 1000)) = p := ⟨_, rfl⟩
  have hm : mayFilB 4 b = p := by
    rw [← hp, Bool.eq_iff_iff]
    simp [mayFilB]
    try omega
  rw [hm]
  have HP := hide hp
  clear hp hm
  go_enter Tryz.func87, Tryz.ntmps87
  go_wp2_with fail
  refine (isNumber_at 4 5 (p := true) rfl _).mono ?_
  rintro e w1 ⟨rfl, rfl⟩
  go_wp2_with fail
  refine (predicates_any _).mono ?_
  rintro e w2 ⟨rfl, hb⟩
  have G2 := hide hb
  clear hb
  go_wp2_with fail
  refine (isB_at b _ HP.out _).mono ?_
  rintro e w3 ⟨rfl, rfl⟩
  go_wp2_with fail
  go_ret
  exact ⟨rfl, G2.out⟩
theorem mayFil_any (a b : Int) (w : World) :
    Calls Tryz.prog 87 #[.int .i64 a, .int .i64 b] w fun e w' => e = .returned (.bool (mayFilB a b)) ∧ Grow w w' := by
  by_cases ha : 1 ≤ a ∧ a ≤ 4
  · have : a = 1 ∨ a = 2 ∨ a = 3 ∨ a = 4 := by omega
    rcases this with rfl | rfl | rfl | rfl
    · exact mayFil_1 b w
    · exact mayFil_2 b w
    · exact mayFil_3 b w
    · exact mayFil_4 b w
  · exact mayFil_no a b ha w
theorem mayFil_at (a b : Int) {p : Bool} (h : mayFilB a b = p) (w : World) :
    Calls Tryz.prog 87 #[.int .i64 a, .int .i64 b] w fun e w' => e = .returned (.bool p) ∧ Grow w w' := by rw [← h]; exact mayFil_any a b w
theorem mayRed_at (a : Int) {p : Bool} (hp : mayRedB a = p) (w : World) :
    Calls Tryz.prog 88 #[.int .i64 a] w fun e w' => e = .returned (.bool p) ∧ w' = w := by
  have C := hide (isNumber_at a 5 (p := p) (by rw [← hp, Bool.eq_iff_iff]; simp [mayRedB]; omega) w)
  clear hp
  go_enter Tryz.func88, Tryz.ntmps88
  go_wp2_with fail
  refine (C.out).mono ?_
  rintro e w1 ⟨rfl, rfl⟩
  go_wp2_with fail
  go_ret
  exact ⟨rfl, rfl⟩
theorem refSmall_at (b : Int) {p : Bool} (hp : (decide (-1000 ≤ b) && decide (b ≤ 1000)) = p) (w : World) :
    Calls Tryz.prog 67 #[.int .i64 b] w fun e w' => e = .returned (.bool p) ∧ w' = w := by
  subst hp
  by_cases h1 : -1000 ≤ b <;> by_cases h2 : b ≤ 1000
  all_goals
    go_enter Tryz.func67, Tryz.ntmps67
    go_wp2
  all_goals go_ret
  all_goals exact ⟨ret_bool (by simp; try omega), rfl⟩
set_option maxHeartbeats 1000000 in
theorem refMayMap_any (a b : Int) (w : World) :
    Calls Tryz.prog 30 #[.int .i64 a, .int .i64 b] w fun e w' => e = .returned (.bool (mayMapB a b)) ∧ w' = w := by
  obtain ⟨p, hp⟩ : ∃ p, (decide (-1000 ≤ b) && decide (b ≤ 1000)) = p := ⟨_, rfl⟩
  have HP := hide hp
  have HM : Hid (mayMapB a b = (decide (1 ≤ a) && decide (a ≤ 5) && p && (decide (a ≠ 3) || decide (1 ≤ b)))) := hide (by rw [← hp]; simp [mayMapB, Bool.and_assoc])
  clear hp
  rw [HM.out]
  clear HM
  by_cases h1 : 1 ≤ a
  · by_cases h2 : a ≤ 5
    · cases p
      · go_enter Tryz.func30, Tryz.ntmps30
        go_wp2_with fail
        refine (refSmall_at b HP.out _).mono ?_
        rintro e w1 ⟨rfl, rfl⟩
        go_wp2_with fail
        go_ret
        exact ⟨ret_bool (by simp), rfl⟩
      · by_cases h3 : a = 3
        · subst h3
          by_cases h4 : 1 ≤ b
          all_goals
            go_enter Tryz.func30, Tryz.ntmps30
            go_wp2_with fail
            refine (refSmall_at b HP.out _).mono ?_
            rintro e w1 ⟨rfl, rfl⟩
            go_wp2_with fail
            go_ret
            exact ⟨ret_bool (by simp; try omega), rfl⟩
        · go_enter Tryz.func30, Tryz.ntmps30
          go_wp2_with fail
          refine (refSmall_at b HP.out _).mono ?_
          rintro e w1 ⟨rfl, rfl⟩
          go_wp2_with fail
          go_ret
          exact ⟨ret_bool (by simp; try omega), rfl⟩
    · go_enter Tryz.func30, Tryz.ntmps30
      go_wp2_with fail
      go_ret
      exact ⟨ret_bool (by simp; intros; omega), rfl⟩
  · go_enter Tryz.func30, Tryz.ntmps30
    go_wp2_with fail
    go_ret
    exact ⟨ret_bool (by simp; intros; omega), rfl⟩
theorem refMayMap_at (a b : Int) {p : Bool} (hp : mayMapB a b = p) (w : World) :
    Calls Tryz.prog 30 #[.int .i64 a, .int .i64 b] w fun e w' => e = .returned (.bool p) ∧ w' = w := by rw [← hp]; exact refMayMap_any a b w
set_option maxHeartbeats 1000000 in
theorem refMayFil_any (a b : Int) (w : World) :
    Calls Tryz.prog 31 #[.int .i64 a, .int .i64 b] w fun e w' => e = .returned (.bool (mayFilB a b)) ∧ w' = w := by
  obtain ⟨p, hp⟩ : ∃ p, (decide (-1000 ≤ b) && decide (b ≤ 1000)) = p := ⟨_, rfl⟩
  have HP := hide hp
  have HM : Hid (mayFilB a b = (decide (1 ≤ a) && decide (a ≤ 4) && p && (decide (a ≠ 3) || decide (1 ≤ b)))) := hide (by rw [← hp]; simp [mayFilB, Bool.and_assoc])
  clear hp
  rw [HM.out]
  clear HM
  by_cases h1 : 1 ≤ a
  · by_cases h2 : a ≤ 4
    · cases p
      · go_enter Tryz.func31, Tryz.ntmps31
        go_wp2_with fail
        refine (refSmall_at b HP.out _).mono ?_
        rintro e w1 ⟨rfl, rfl⟩
        go_wp2_with fail
        go_ret
        exact ⟨ret_bool (by simp), rfl⟩
      · by_cases h3 : a = 3
        · subst h3
          by_cases h4 : 1 ≤ b
          all_goals
            go_enter Tryz.func31, Tryz.ntmps31
            go_wp2_with fail
            refine (refSmall_at b HP.out _).mono ?_
            rintro e w1 ⟨rfl, rfl⟩
            go_wp2_with fail
            go_ret
            exact ⟨ret_bool (by simp; try omega), rfl⟩
        · go_enter Tryz.func31, Tryz.ntmps31
          go_wp2_with fail
          refine (refSmall_at b HP.out _).mono ?_
          rintro e w1 ⟨rfl, rfl⟩
          go_wp2_with fail
          go_ret
          exact ⟨ret_bool (by simp; try omega), rfl⟩
    · go_enter Tryz.func31, Tryz.ntmps31
      go_wp2_with fail
      go_ret
      exact ⟨ret_bool (by simp; intros; omega), rfl⟩
  · go_enter Tryz.func31, Tryz.ntmps31
    go_wp2_with fail
    go_ret
    exact ⟨ret_bool (by simp; intros; omega), rfl⟩
theorem refMayFil_at (a b : Int) {p : Bool} (hp : mayFilB a b = p) (w : World) :
    Calls Tryz.prog 31 #[.int .i64 a, .int .i64 b] w fun e w' => e = .returned (.bool p) ∧ w' = w := by rw [← hp]; exact refMayFil_any a b w
theorem refMayRed_at (a : Int) {p : Bool} (hp : mayRedB a = p) (w : World) :
    Calls Tryz.prog 32 #[.int .i64 a] w fun e w' => e = .returned (.bool p) ∧ w' = w := by
  subst hp
  unfold mayRedB
  by_cases h1 : 1 ≤ a <;> by_cases h2 : a ≤ 4
  all_goals
    go_enter Tryz.func32, Tryz.ntmps32
    go_wp2
  all_goals go_ret
  all_goals exact ⟨ret_bool (by simp; try omega), rfl⟩
theorem mayStep_at (b : Int) {p : Bool} (hp : (decide (1 ≤ b) && decide (b ≤ 20)) = p) (w : World) :
    Calls Tryz.prog 95 #[.int .i64 b] w fun e w' => e = .returned (.bool p) ∧ w' = w := by
  subst hp
  by_cases h1 : 1 ≤ b <;> by_cases h2 : b ≤ 20
  all_goals
    go_enter Tryz.func95, Tryz.ntmps95
    go_wp2
  all_goals go_ret
  all_goals exact ⟨ret_bool (by simp; try omega), rfl⟩
theorem may_at (a b : Int) {p : Bool} (hp : mayW a b = p) (w : World) :
    Calls Tryz.prog 89 #[.int .i64 a, .int .i64 b] w fun e w' => e = .returned (.bool p) ∧ w' = w := by
  subst hp
  obtain ⟨q, hq⟩ : ∃ q, (decide (1 ≤ b) && decide (b ≤ 20)) = q := ⟨_, rfl⟩
  have C := hide (mayStep_at b hq w)
  have HQ := hide hq
  clear hq
  by_cases h1 : a ≤ 20
  · cases q
    · go_enter Tryz.func89, Tryz.ntmps89
      go_wp2_with fail
      refine (C.out).mono ?_
      rintro e w1 ⟨rfl, rfl⟩
      go_wp2_with fail
      go_ret
      refine ⟨ret_bool ?_, rfl⟩
      have := HQ.out
      simp [mayW] at this ⊢
      omega
    · by_cases h2 : b ≤ a
      all_goals
        go_enter Tryz.func89, Tryz.ntmps89
        go_wp2_with fail
        refine (C.out).mono ?_
        rintro e w1 ⟨rfl, rfl⟩
        go_wp2_with fail
        go_ret
        refine ⟨ret_bool ?_, rfl⟩
        have := HQ.out
        simp [mayW] at this ⊢
        omega
  · go_enter Tryz.func89, Tryz.ntmps89
    go_wp2_with fail
    go_ret
    exact ⟨ret_bool (by simp [mayW]; omega), rfl⟩
theorem rmay_at (a b : Int) {p : Bool} (hp : mayW a b = p) (w : World) :
    Calls Tryz.prog 33 #[.int .i64 a, .int .i64 b] w fun e w' => e = .returned (.bool p) ∧ w' = w := by
  subst hp
  by_cases h1 : 1 ≤ a <;> by_cases h2 : a ≤ 20 <;> by_cases h3 : 1 ≤ b <;> by_cases h4 : b ≤ a
  all_goals
    go_enter Tryz.func33, Tryz.ntmps33
    go_wp2
  all_goals go_ret
  all_goals exact ⟨ret_bool (by simp [mayW]; try omega), rfl⟩

end Go.Proofs.YtjebipagehhkjaaGreat
