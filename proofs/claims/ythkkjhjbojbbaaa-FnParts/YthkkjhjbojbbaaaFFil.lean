/-
  What fn.MayFilter, fn.Filter, fn.MayReduce and fn.Route do to the world: each returns its plain answer, and what was there stays as it was.
-/
import Derived.Test.YthkkjhjbojbbaaaFCon
import Derived.Lib.QuietBelow
namespace Go.Proofs.Ythkkjhjbojbbaaa
set_option maxRecDepth 100000
open Go.RowKit Go.Sort
set_option linter.unusedVariables false
set_option linter.unusedSimpArgs false

theorem predicates_any (w : World) : Calls Try.prog 33 #[] w fun e w' => e = .returned (.agg #[.int .i64 0, .nilFunc, .int .i64 (-1000), .func (.func 47) #[] #[], .int .i64 (-1000), .func (.func 48) #[] #[], .int .i64 1, .func (.func 49) #[] #[], .int .i64 (-1000), .func (.func 50) #[] #[]]) ∧ Grow w w' := by
  go_enter Try.func33, Try.ntmps33
  go_wp2
  refine bodyPost_ret (v := .agg #[.int .i64 0, .nilFunc, .int .i64 (-1000), .func (.func 47) #[] #[], .int .i64 (-1000), .func (.func 48) #[] #[], .int .i64 1, .func (.func 49) #[] #[], .int .i64 (-1000), .func (.func 50) #[] #[]]) (by simp [results, Try.results33, go_sem]) rfl ⟨rfl, Grow.alloc' _ _⟩
theorem predAt_1 (w : World) : (Instr.index 50 (.agg #[.int .i64 0, .nilFunc, .int .i64 (-1000), .func (.func 47) #[] #[], .int .i64 (-1000), .func (.func 48) #[] #[], .int .i64 1, .func (.func 49) #[] #[], .int .i64 (-1000), .func (.func 50) #[] #[]]) (.int .i64 1)).run Try.prog w = .ok (.agg #[.int .i64 (-1000), .func (.func 47) #[] #[]]) w := by kernel_rfl
theorem predAt_2 (w : World) : (Instr.index 50 (.agg #[.int .i64 0, .nilFunc, .int .i64 (-1000), .func (.func 47) #[] #[], .int .i64 (-1000), .func (.func 48) #[] #[], .int .i64 1, .func (.func 49) #[] #[], .int .i64 (-1000), .func (.func 50) #[] #[]]) (.int .i64 2)).run Try.prog w = .ok (.agg #[.int .i64 (-1000), .func (.func 48) #[] #[]]) w := by kernel_rfl
theorem predAt_3 (w : World) : (Instr.index 50 (.agg #[.int .i64 0, .nilFunc, .int .i64 (-1000), .func (.func 47) #[] #[], .int .i64 (-1000), .func (.func 48) #[] #[], .int .i64 1, .func (.func 49) #[] #[], .int .i64 (-1000), .func (.func 50) #[] #[]]) (.int .i64 3)).run Try.prog w = .ok (.agg #[.int .i64 1, .func (.func 49) #[] #[]]) w := by kernel_rfl
theorem predAt_4 (w : World) : (Instr.index 50 (.agg #[.int .i64 0, .nilFunc, .int .i64 (-1000), .func (.func 47) #[] #[], .int .i64 (-1000), .func (.func 48) #[] #[], .int .i64 1, .func (.func 49) #[] #[], .int .i64 (-1000), .func (.func 50) #[] #[]]) (.int .i64 4)).run Try.prog w = .ok (.agg #[.int .i64 (-1000), .func (.func 50) #[] #[]]) w := by kernel_rfl
theorem predF_0 (m : Int) (f : Value) (w : World) : (Instr.field 49 (.agg #[.int .i64 m, f]) 0).run Try.prog w = .ok (.int .i64 m) w := by kernel_rfl
theorem predF_1 (m : Int) (g : Fn) (w : World) : (Instr.field 49 (.agg #[.int .i64 m, .func g #[] #[]]) 1).run Try.prog w = .ok (.func g #[] #[]) w := by kernel_rfl
attribute [local go_sem ↓] predAt_1 predAt_2 predAt_3 predAt_4 predF_0 predF_1
theorem mayFil_no (a b : Int) (ha : ¬ (1 ≤ a ∧ a ≤ 4)) (w : World) :
    Calls Try.prog 13 #[.int .i64 a, .int .i64 b] w fun e w' => e = .returned (.bool (mayFilB a b)) ∧ Grow w w' := by
  have HM := hide (show mayFilB a b = false by
    have : ¬ 1 ≤ a ∨ ¬ a ≤ 4 := by omega
    rcases this with h | h <;> simp [mayFilB, h])
  have C := hide (isNumber_at a 5 (p := false) (by
    have : ¬ 1 ≤ a ∨ ¬ a < 5 := by omega
    rcases this with h | h <;> simp [h]) w)
  rw [HM.out]
  clear ha
  go_enter Try.func13, Try.ntmps13
  go_wp2_with fail
  refine (C.out).mono ?_
  rintro e w1 ⟨rfl, rfl⟩
  go_wp2_with fail
  go_ret
  exact ⟨rfl, Grow.rfl' _⟩
theorem mayFil_1 (b : Int) (w : World) :
    Calls Try.prog 13 #[.int .i64 1, .int .i64 b] w fun e w' => e = .returned (.bool (mayFilB 1 b)) ∧ Grow w w' := by
  obtain ⟨p, hp⟩ : ∃ p, (decide ((-1000 : Int) ≤ b) && decide (b ≤ 1000)) = p := ⟨_, rfl⟩
  have hm : mayFilB 1 b = p := by
    rw [← hp, Bool.eq_iff_iff]
    simp [mayFilB]
    try omega
  rw [hm]
  have HP := hide hp
  clear hp hm
  go_enter Try.func13, Try.ntmps13
  go_wp2_with fail
  refine (isNumber_at 1 5 (p := true) rfl _).mono ?_
  rintro e w1 ⟨rfl, rfl⟩
  go_wp2_with fail
  refine (predicates_any _).mono ?_
  rintro e w2 ⟨rfl, hb⟩
  have G2 := hide hb
  clear hb
  go_wp2_with fail
  refine (isB_at b _ HP.out _).mono ?_
  rintro e w3 ⟨rfl, rfl⟩
  go_wp2_with fail
  go_ret
  exact ⟨rfl, G2.out⟩
theorem mayFil_2 (b : Int) (w : World) :
    Calls Try.prog 13 #[.int .i64 2, .int .i64 b] w fun e w' => e = .returned (.bool (mayFilB 2 b)) ∧ Grow w w' := by
  obtain ⟨p, hp⟩ : ∃ p, (decide ((-1000 : Int) ≤ b) && decide (b ≤ 1000)) = p := ⟨_, rfl⟩
  have hm : mayFilB 2 b = p := by
    rw [← hp, Bool.eq_iff_iff]
    simp [mayFilB]
    try omega
  rw [hm]
  have HP := hide hp
  clear hp hm
  go_enter Try.func13, Try.ntmps13
  go_wp2_with fail
  refine (isNumber_at 2 5 (p := true) rfl _).mono ?_
  rintro e w1 ⟨rfl, rfl⟩
  go_wp2_with fail
  refine (predicates_any _).mono ?_
  rintro e w2 ⟨rfl, hb⟩
  have G2 := hide hb
  clear hb
  go_wp2_with fail
  refine (isB_at b _ HP.out _).mono ?_
  rintro e w3 ⟨rfl, rfl⟩
  go_wp2_with fail
  go_ret
  exact ⟨rfl, G2.out⟩
theorem mayFil_3 (b : Int) (w : World) :
    Calls Try.prog 13 #[.int .i64 3, .int .i64 b] w fun e w' => e = .returned (.bool (mayFilB 3 b)) ∧ Grow w w' := by
  obtain ⟨p, hp⟩ : ∃ p, (decide ((1 : Int) ≤ b) && decide (b ≤ 1000)) = p := ⟨_, rfl⟩
  have hm : mayFilB 3 b = p := by
    rw [← hp, Bool.eq_iff_iff]
    simp [mayFilB]
    try omega
  rw [hm]
  have HP := hide hp
  clear hp hm
  go_enter Try.func13, Try.ntmps13
  go_wp2_with fail
  refine (isNumber_at 3 5 (p := true) rfl _).mono ?_
  rintro e w1 ⟨rfl, rfl⟩
  go_wp2_with fail
  refine (predicates_any _).mono ?_
  rintro e w2 ⟨rfl, hb⟩
  have G2 := hide hb
  clear hb
  go_wp2_with fail
  refine (isB_at b _ HP.out _).mono ?_
  rintro e w3 ⟨rfl, rfl⟩
  go_wp2_with fail
  go_ret
  exact ⟨rfl, G2.out⟩
theorem mayFil_4 (b : Int) (w : World) :
    Calls Try.prog 13 #[.int .i64 4, .int .i64 b] w fun e w' => e = .returned (.bool (mayFilB 4 b)) ∧ Grow w w' := by
  obtain ⟨p, hp⟩ : ∃ p, (decide ((-1000 : Int) ≤ b) && decide (b ≤ 1000)) = p := ⟨_, rfl⟩
  have hm : mayFilB 4 b = p := by
    rw [← hp, Bool.eq_iff_iff]
    simp [mayFilB]
    try omega
  rw [hm]
  have HP := hide hp
  clear hp hm
  go_enter Try.func13, Try.ntmps13
  go_wp2_with fail
  refine (isNumber_at 4 5 (p := true) rfl _).mono ?_
  rintro e w1 ⟨rfl, rfl⟩
  go_wp2_with fail
  refine (predicates_any _).mono ?_
  rintro e w2 ⟨rfl, hb⟩
  have G2 := hide hb
  clear hb
  go_wp2_with fail
  refine (isB_at b _ HP.out _).mono ?_
  rintro e w3 ⟨rfl, rfl⟩
  go_wp2_with fail
  go_ret
  exact ⟨rfl, G2.out⟩
theorem mayFil_any (a b : Int) (w : World) :
    Calls Try.prog 13 #[.int .i64 a, .int .i64 b] w fun e w' => e = .returned (.bool (mayFilB a b)) ∧ Grow w w' := by
  by_cases ha : 1 ≤ a ∧ a ≤ 4
  · have : a = 1 ∨ a = 2 ∨ a = 3 ∨ a = 4 := by omega
    rcases this with rfl | rfl | rfl | rfl
    · exact mayFil_1 b w
    · exact mayFil_2 b w
    · exact mayFil_3 b w
    · exact mayFil_4 b w
  · exact mayFil_no a b ha w
theorem mayFil_at (a b : Int) {p : Bool} (h : mayFilB a b = p) (w : World) :
    Calls Try.prog 13 #[.int .i64 a, .int .i64 b] w fun e w' => e = .returned (.bool p) ∧ Grow w w' := by rw [← h]; exact mayFil_any a b w
set_option maxHeartbeats 1000000 in
theorem filC1 (b : Int) (r : Rc) {p : Bool} (hp : (decide (r.v < b)) = p) (w : World) :
    Calls Try.prog 47 #[.int .i64 b, .agg #[.int .i64 r.k, .int .i64 r.v]] w fun e w' => e = .returned (.bool p) ∧ Grow w w' := by
  subst hp
  go_enter Try.func47, Try.ntmps47
  go_wp2_with fail
  go_ret
  exact ⟨ret_bool (by simp), Grow.alloc' _ _⟩
set_option maxHeartbeats 1000000 in
theorem filC2 (b : Int) (r : Rc) {p : Bool} (hp : (decide (b ≤ r.v)) = p) (w : World) :
    Calls Try.prog 48 #[.int .i64 b, .agg #[.int .i64 r.k, .int .i64 r.v]] w fun e w' => e = .returned (.bool p) ∧ Grow w w' := by
  subst hp
  go_enter Try.func48, Try.ntmps48
  go_wp2_with fail
  go_ret
  exact ⟨ret_bool (by simp), Grow.alloc' _ _⟩
set_option maxHeartbeats 1000000 in
theorem filC4 (b : Int) (r : Rc) {p : Bool} (hp : (true) = p) (w : World) :
    Calls Try.prog 50 #[.int .i64 b, .agg #[.int .i64 r.k, .int .i64 r.v]] w fun e w' => e = .returned (.bool p) ∧ Grow w w' := by
  subst hp
  go_enter Try.func50, Try.ntmps50
  go_wp2_with fail
  go_ret
  exact ⟨ret_bool (by simp), Grow.alloc' _ _⟩
set_option maxHeartbeats 1000000 in
theorem filC3 (b : Int) (r : Rc) (hb : 1 ≤ b) (hB : b ≤ 1000) {p : Bool} (hp : decide (modI r.k b = 0) = p) (w : World) :
    Calls Try.prog 49 #[.int .i64 b, .agg #[.int .i64 r.k, .int .i64 r.v]] w fun e w' => e = .returned (.bool p) ∧ Grow w w' := by
  subst hp
  have C := hide (mod_any r.k b hb (by omega) (w.alloc (.cells #[.int .i64 r.k, .int .i64 r.v] 23)))
  obtain ⟨z, hz⟩ : ∃ z, modI r.k b = z := ⟨_, rfl⟩
  rw [hz] at C
  rw [hz]
  clear hb hB hz
  go_enter Try.func49, Try.ntmps49
  go_wp2_with fail
  refine (C.out).mono ?_
  rintro e w1 ⟨rfl, rfl⟩
  go_wp2_with fail
  go_ret
  exact ⟨ret_bool (by simp), Grow.alloc' _ _⟩
set_option maxHeartbeats 1000000 in
theorem fil_no (a b : Int) (r : Rc) (hm : mayFilB a b = false) (w : World) :
    Calls Try.prog 19 #[.int .i64 a, .int .i64 b, .agg #[.int .i64 r.k, .int .i64 r.v]] w fun e w' => e = .returned (.bool false) ∧ Grow w w' := by
  have G0 : Hid (Grow w (w.alloc (.cells #[.int .i64 r.k, .int .i64 r.v] 23))) := hide (Grow.alloc' _ _)
  obtain ⟨w0, hw0⟩ : ∃ w0, w0 = w.alloc (.cells #[.int .i64 r.k, .int .i64 r.v] 23) := ⟨_, rfl⟩
  have Q1 := hide (fun dd os => Calls.regrown_of (mayFil_at a b hm (grow (redrawn w0 dd) os)))
  rw [← hw0] at G0
  clear hm
  go_enter Try.func19, Try.ntmps19
  go_wp2_with fail
  rw [← hw0]
  clear hw0
  refine wp_region_quiet_below (by kernel_rfl) (by kernel_rfl) ?_
  repeat (go_big_quiet_step (first | (go_at_call 13; exact Q1.out _ _)))
  refine wpQuiet_nil ?_
  intro _ hw'
  obtain ⟨⟨dq, osq⟩, hw''⟩ := hw'
  subst hw''
  have G1 := hide (Grow.trans' G0.out (below_regrown w0 dq osq))
  generalize grow (redrawn w0 dq) osq = wz at *
  go_wp2
  go_ret
  exact ⟨rfl, G1.out⟩
set_option maxHeartbeats 1000000 in
theorem fil_1 (b : Int) (r : Rc) (hm : mayFilB 1 b = true)  {p : Bool} (hp : (decide (r.v < b)) = p) (w : World) :
    Calls Try.prog 19 #[.int .i64 1, .int .i64 b, .agg #[.int .i64 r.k, .int .i64 r.v]] w fun e w' => e = .returned (.bool p) ∧ Grow w w' := by
  have G0 : Hid (Grow w (w.alloc (.cells #[.int .i64 r.k, .int .i64 r.v] 23))) := hide (Grow.alloc' _ _)
  have KX : Hid (Box (w.alloc (.cells #[.int .i64 r.k, .int .i64 r.v] 23)) w.heap.size r) := hide (Box.new _ _)
  obtain ⟨w0, hw0⟩ : ∃ w0, w0 = w.alloc (.cells #[.int .i64 r.k, .int .i64 r.v] 23) := ⟨_, rfl⟩
  rw [← hw0] at G0 KX
  have Q1 := hide (fun dd os => Calls.regrown_of (mayFil_at 1 b hm (grow (redrawn w0 dd) os)))
  have Q2 := hide (fun dd os => Calls.regrown_of (predicates_any (grow (redrawn w0 dd) os)))
  have Q3 := hide (fun dd os => Calls.regrown_of (filC1 b r hp (grow (redrawn w0 dd) os)))
  clear hm hp
  obtain ⟨x0, x1⟩ := KX.out
  have sx0 := cell_regrown x0; have sx1 := cell_regrown x1
  go_enter Try.func19, Try.ntmps19
  go_wp2_with fail
  rw [← hw0]
  clear hw0
  refine wp_region_quiet_below (by kernel_rfl) (by kernel_rfl) ?_
  repeat (go_big_quiet_step (first | (go_at_call 13; exact Q1.out _ _) | (go_at_call 33; exact Q2.out _ _) | (go_at_call 47; exact Q3.out _ _)))
  refine wpQuiet_nil ?_
  intro _ hw'
  obtain ⟨⟨dq, osq⟩, hw''⟩ := hw'
  subst hw''
  have G1 := hide (Grow.trans' G0.out (below_regrown w0 dq osq))
  clear sx0 sx1 x0 x1
  generalize grow (redrawn w0 dq) osq = wz at *
  go_wp2
  go_ret
  exact ⟨rfl, G1.out⟩
set_option maxHeartbeats 1000000 in
theorem fil_2 (b : Int) (r : Rc) (hm : mayFilB 2 b = true)  {p : Bool} (hp : (decide (b ≤ r.v)) = p) (w : World) :
    Calls Try.prog 19 #[.int .i64 2, .int .i64 b, .agg #[.int .i64 r.k, .int .i64 r.v]] w fun e w' => e = .returned (.bool p) ∧ Grow w w' := by
  have G0 : Hid (Grow w (w.alloc (.cells #[.int .i64 r.k, .int .i64 r.v] 23))) := hide (Grow.alloc' _ _)
  have KX : Hid (Box (w.alloc (.cells #[.int .i64 r.k, .int .i64 r.v] 23)) w.heap.size r) := hide (Box.new _ _)
  obtain ⟨w0, hw0⟩ : ∃ w0, w0 = w.alloc (.cells #[.int .i64 r.k, .int .i64 r.v] 23) := ⟨_, rfl⟩
  rw [← hw0] at G0 KX
  have Q1 := hide (fun dd os => Calls.regrown_of (mayFil_at 2 b hm (grow (redrawn w0 dd) os)))
  have Q2 := hide (fun dd os => Calls.regrown_of (predicates_any (grow (redrawn w0 dd) os)))
  have Q3 := hide (fun dd os => Calls.regrown_of (filC2 b r hp (grow (redrawn w0 dd) os)))
  clear hm hp
  obtain ⟨x0, x1⟩ := KX.out
  have sx0 := cell_regrown x0; have sx1 := cell_regrown x1
  go_enter Try.func19, Try.ntmps19
  go_wp2_with fail
  rw [← hw0]
  clear hw0
  refine wp_region_quiet_below (by kernel_rfl) (by kernel_rfl) ?_
  repeat (go_big_quiet_step (first | (go_at_call 13; exact Q1.out _ _) | (go_at_call 33; exact Q2.out _ _) | (go_at_call 48; exact Q3.out _ _)))
  refine wpQuiet_nil ?_
  intro _ hw'
  obtain ⟨⟨dq, osq⟩, hw''⟩ := hw'
  subst hw''
  have G1 := hide (Grow.trans' G0.out (below_regrown w0 dq osq))
  clear sx0 sx1 x0 x1
  generalize grow (redrawn w0 dq) osq = wz at *
  go_wp2
  go_ret
  exact ⟨rfl, G1.out⟩
set_option maxHeartbeats 1000000 in
theorem fil_3 (b : Int) (r : Rc) (hm : mayFilB 3 b = true) (hb : 1 ≤ b) (hB : b ≤ 1000) {p : Bool} (hp : (decide (modI r.k b = 0)) = p) (w : World) :
    Calls Try.prog 19 #[.int .i64 3, .int .i64 b, .agg #[.int .i64 r.k, .int .i64 r.v]] w fun e w' => e = .returned (.bool p) ∧ Grow w w' := by
  have G0 : Hid (Grow w (w.alloc (.cells #[.int .i64 r.k, .int .i64 r.v] 23))) := hide (Grow.alloc' _ _)
  have KX : Hid (Box (w.alloc (.cells #[.int .i64 r.k, .int .i64 r.v] 23)) w.heap.size r) := hide (Box.new _ _)
  obtain ⟨w0, hw0⟩ : ∃ w0, w0 = w.alloc (.cells #[.int .i64 r.k, .int .i64 r.v] 23) := ⟨_, rfl⟩
  rw [← hw0] at G0 KX
  have Q1 := hide (fun dd os => Calls.regrown_of (mayFil_at 3 b hm (grow (redrawn w0 dd) os)))
  have Q2 := hide (fun dd os => Calls.regrown_of (predicates_any (grow (redrawn w0 dd) os)))
  have Q3 := hide (fun dd os => Calls.regrown_of (filC3 b r hb hB hp (grow (redrawn w0 dd) os)))
  clear hm hp
  obtain ⟨x0, x1⟩ := KX.out
  have sx0 := cell_regrown x0; have sx1 := cell_regrown x1
  go_enter Try.func19, Try.ntmps19
  go_wp2_with fail
  rw [← hw0]
  clear hw0
  refine wp_region_quiet_below (by kernel_rfl) (by kernel_rfl) ?_
  repeat (go_big_quiet_step (first | (go_at_call 13; exact Q1.out _ _) | (go_at_call 33; exact Q2.out _ _) | (go_at_call 49; exact Q3.out _ _)))
  refine wpQuiet_nil ?_
  intro _ hw'
  obtain ⟨⟨dq, osq⟩, hw''⟩ := hw'
  subst hw''
  have G1 := hide (Grow.trans' G0.out (below_regrown w0 dq osq))
  clear sx0 sx1 x0 x1
  generalize grow (redrawn w0 dq) osq = wz at *
  go_wp2
  go_ret
  exact ⟨rfl, G1.out⟩
set_option maxHeartbeats 1000000 in
theorem fil_4 (b : Int) (r : Rc) (hm : mayFilB 4 b = true)  {p : Bool} (hp : (true) = p) (w : World) :
    Calls Try.prog 19 #[.int .i64 4, .int .i64 b, .agg #[.int .i64 r.k, .int .i64 r.v]] w fun e w' => e = .returned (.bool p) ∧ Grow w w' := by
  have G0 : Hid (Grow w (w.alloc (.cells #[.int .i64 r.k, .int .i64 r.v] 23))) := hide (Grow.alloc' _ _)
  have KX : Hid (Box (w.alloc (.cells #[.int .i64 r.k, .int .i64 r.v] 23)) w.heap.size r) := hide (Box.new _ _)
  obtain ⟨w0, hw0⟩ : ∃ w0, w0 = w.alloc (.cells #[.int .i64 r.k, .int .i64 r.v] 23) := ⟨_, rfl⟩
  rw [← hw0] at G0 KX
  have Q1 := hide (fun dd os => Calls.regrown_of (mayFil_at 4 b hm (grow (redrawn w0 dd) os)))
  have Q2 := hide (fun dd os => Calls.regrown_of (predicates_any (grow (redrawn w0 dd) os)))
  have Q3 := hide (fun dd os => Calls.regrown_of (filC4 b r hp (grow (redrawn w0 dd) os)))
  clear hm hp
  obtain ⟨x0, x1⟩ := KX.out
  have sx0 := cell_regrown x0; have sx1 := cell_regrown x1
  go_enter Try.func19, Try.ntmps19
  go_wp2_with fail
  rw [← hw0]
  clear hw0
  refine wp_region_quiet_below (by kernel_rfl) (by kernel_rfl) ?_
  repeat (go_big_quiet_step (first | (go_at_call 13; exact Q1.out _ _) | (go_at_call 33; exact Q2.out _ _) | (go_at_call 50; exact Q3.out _ _)))
  refine wpQuiet_nil ?_
  intro _ hw'
  obtain ⟨⟨dq, osq⟩, hw''⟩ := hw'
  subst hw''
  have G1 := hide (Grow.trans' G0.out (below_regrown w0 dq osq))
  clear sx0 sx1 x0 x1
  generalize grow (redrawn w0 dq) osq = wz at *
  go_wp2
  go_ret
  exact ⟨rfl, G1.out⟩
theorem fil_any (a b : Int) (r : Rc) {p : Bool} (hp : filR a b r = p) (w : World) :
    Calls Try.prog 19 #[.int .i64 a, .int .i64 b, .agg #[.int .i64 r.k, .int .i64 r.v]] w fun e w' => e = .returned (.bool p) ∧ Grow w w' := by
  cases hm : mayFilB a b
  · have : p = false := by rw [← hp]; simp [filR, hm]
    rw [this]
    exact fil_no a b r hm w
  · have hm' := hm
    simp only [mayFilB, Bool.and_eq_true, decide_eq_true_eq, Bool.or_eq_true] at hm'
    have : a = 1 ∨ a = 2 ∨ a = 3 ∨ a = 4 := by omega
    rcases this with rfl | rfl | rfl | rfl
    · exact fil_1 b r hm (by simpa [filR, hm] using hp) w
    · exact fil_2 b r hm (by simpa [filR, hm] using hp) w
    · exact fil_3 b r hm (by omega) (by omega) (by simpa [filR, hm] using hp) w
    · exact fil_4 b r hm (by simpa [filR, hm] using hp) w
theorem route_at (k m : Int) (hB : m ≤ 9223372036854775807) {z : Int} (hz : routeI k m = z) (w : World) :
    Calls Try.prog 25 #[.int .i64 k, .int .i64 m] w fun e w' => e = .returned (.int .i64 z) ∧ w' = w := by
  subst hz
  unfold routeI
  by_cases h : m < 1
  · rw [if_pos h]
    go_enter Try.func25, Try.ntmps25
    go_wp2_with fail
    go_ret
    exact ⟨rfl, rfl⟩
  · rw [if_neg h]
    have C := hide (mod_any k m (by omega) hB w)
    go_enter Try.func25, Try.ntmps25
    go_wp2_with fail
    refine (C.out).mono ?_
    rintro e w1 ⟨rfl, rfl⟩
    go_wp2_with fail
    go_ret
    exact ⟨rfl, rfl⟩
theorem mayRed_at (a : Int) {p : Bool} (hp : mayRedB a = p) (w : World) :
    Calls Try.prog 15 #[.int .i64 a] w fun e w' => e = .returned (.bool p) ∧ w' = w := by
  have C := hide (isNumber_at a 5 (p := p) (by rw [← hp, Bool.eq_iff_iff]; simp [mayRedB]; omega) w)
  clear hp
  go_enter Try.func15, Try.ntmps15
  go_wp2_with fail
  refine (C.out).mono ?_
  rintro e w1 ⟨rfl, rfl⟩
  go_wp2_with fail
  go_ret
  exact ⟨rfl, rfl⟩

end Go.Proofs.Ythkkjhjbojbbaaa
