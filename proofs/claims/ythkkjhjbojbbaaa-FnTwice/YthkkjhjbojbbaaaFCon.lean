/-
  What fn's own small functions do to the world: isNumber, isB, held, mod, the tables of functions and each function in them; MayMap, MayFilter, MayReduce, Map, Filter, Route: each returns its plain answer, and what was there stays as it was.
-/
import Derived.Test.YthkkjhjbojbbaaaGCon
import Derived.Test.YthkkjhjbojbbaaaFPl
import Derived.Test.YthkkjhjbojbbaaaEndG
import Derived.Laws.EntriesVeiled
import Derived.Laws.CopyOwn
namespace Go.Proofs.Ythkkjhjbojbbaaa
set_option maxRecDepth 100000
open Go.RowKit Go.Sort
attribute [local go_sem ↓] run_maxI run_minI
set_option linter.unusedVariables false
set_option linter.unusedSimpArgs false

/-- A block that holds a record of the call's own. -/
def Blk (w : World) (b : Nat) : Prop := ∃ x y, w.heap[b]? = some (.cells #[x, y] 23 (0, 0))
theorem Blk.later {w w' : World} {b : Nat} (hg : Grow w w') (h : Blk w b) : Blk w' b := by
  obtain ⟨x, y, h⟩ := h
  exact ⟨x, y, (hg.block b (Array.getElem?_eq_some_iff.1 h).1).trans h⟩
theorem Blk.new (w : World) (x y : Value) : Blk (w.alloc (.cells #[x, y] 23)) w.heap.size := ⟨x, y, (MapKept.heap_alloc w _).1⟩
theorem Blk.box {w : World} {b : Nat} (h : Blk w b) (t : Rc) : Box (w.setRow b #[.int .i64 t.k, .int .i64 t.v]) b t := by
  obtain ⟨x, y, h⟩ := h
  exact ⟨by rw [cell_setRow_same w b 0 _ _ _ _ h]; rfl, by rw [cell_setRow_same w b 1 _ _ _ _ h]; rfl⟩
theorem wp_store_rec {o : Oper} {a : Act} {w : World} {K : Act → World → Prop} {Q : Exit → Act → World → Prop} (x y : Operand) (ho : o.op = .store 23 x y) {b : Nat} {t : Rc}
    (hx : a.eval x = .pointer (some ⟨b, 0, none⟩)) (hy : a.eval y = .agg #[.int .i64 t.k, .int .i64 t.v]) (hb : Blk w b) (h : K (a.put o.dst undef) (w.setRow b #[.int .i64 t.k, .int .i64 t.v])) : o.wp Try.prog a w K Q := by
  obtain ⟨x', y', hb⟩ := hb
  exact wp_store_row 23 x y ho b _ hx hy _ _ hb (by kernel_rfl) rfl (by simp [Value.oneCell']) h
theorem results_rec {fn : Func} {i : Nat} (h : fn.results = #[.cell i 23]) (tmps : Array Value) (w : World) {b : Nat} {t : Rc} (ht : tmps.getD i undef = .pointer (some ⟨b, 0, none⟩)) (hb : Box w b t) :
    (results fn tmps).run Try.prog w = .ok (.agg #[.int .i64 t.k, .int .i64 t.v]) w := by
  obtain ⟨h0, h1⟩ := hb
  simp only [Array.getD_eq_getD_getElem?] at ht
  simp [results, h, ht, go_sem, h0, h1]

theorem isNumber_at (a m : Int) {p : Bool} (hp : (decide (1 ≤ a) && decide (a < m)) = p) (w : World) :
    Calls Try.prog 29 #[.int .i64 a, .int .i64 m] w fun e w' => e = .returned (.bool p) ∧ w' = w := by
  subst hp
  by_cases h1 : 1 ≤ a <;> by_cases h2 : a < m
  all_goals
    go_enter Try.func29, Try.ntmps29
    go_wp2
  all_goals go_ret
  all_goals exact ⟨ret_bool (by simp; try omega), rfl⟩
theorem isB_at (b m : Int) {p : Bool} (hp : (decide (m ≤ b) && decide (b ≤ 1000)) = p) (w : World) :
    Calls Try.prog 30 #[.int .i64 b, .int .i64 m] w fun e w' => e = .returned (.bool p) ∧ w' = w := by
  subst hp
  by_cases h1 : m ≤ b <;> by_cases h2 : b ≤ 1000
  all_goals
    go_enter Try.func30, Try.ntmps30
    go_wp2
  all_goals go_ret
  all_goals exact ⟨ret_bool (by simp; try omega), rfl⟩
theorem held_any (x : Int) (w : World) :
    Calls Try.prog 42 #[.int .i64 x] w fun e w' => e = .returned (.int .i64 (heldI x)) ∧ w' = w := by
  go_enter Try.func42, Try.ntmps42
  go_wp2
  all_goals go_ret
  all_goals exact ⟨ret_int (heldI_maxmin x), rfl⟩
theorem held_g (x : Int) (w : World) :
    Calls Try.prog 42 #[.int .i64 x] w fun e w' => e = .returned (.int .i64 (heldI x)) ∧ Grow w w' := (held_any x w).mono fun e w' ⟨h, k⟩ => ⟨h, by rw [k]; exact Grow.rfl' _⟩
theorem mod_any (x b : Int) (hb : 1 ≤ b) (hB : b ≤ 9223372036854775807) (w : World) :
    Calls Try.prog 39 #[.int .i64 x, .int .i64 b] w fun e w' => e = .returned (.int .i64 (modI x b)) ∧ w' = w := by
  have h0 : ¬ b = 0 := by omega
  have ht := tmod_in (x := x) hb
  by_cases hn : Int.tmod x b < 0
  · have hw : IntKind.i64.wrap (Int.tmod x b + b) = Int.tmod x b + b := IntWalk.i64_in _ ⟨by omega, by omega⟩
    have HM := hide (show Int.tmod x b + b = modI x b by unfold modI; rw [if_pos hn])
    clear ht
    go_enter Try.func39, Try.ntmps39
    go_wp2
    go_ret
    exact ⟨ret_int HM.out, rfl⟩
  · have HM := hide (show Int.tmod x b = modI x b by unfold modI; rw [if_neg hn])
    clear ht
    go_enter Try.func39, Try.ntmps39
    go_wp2
    go_ret
    exact ⟨ret_int HM.out, rfl⟩
theorem mod_g (x b : Int) (hb : 1 ≤ b) (hB : b ≤ 9223372036854775807) (w : World) :
    Calls Try.prog 39 #[.int .i64 x, .int .i64 b] w fun e w' => e = .returned (.int .i64 (modI x b)) ∧ Grow w w' := (mod_any x b hb hB w).mono fun e w' ⟨h, k⟩ => ⟨h, by rw [k]; exact Grow.rfl' _⟩

theorem mappings_any (w : World) : Calls Try.prog 31 #[] w fun e w' => e = .returned (.agg #[.int .i64 0, .nilFunc, .int .i64 (-1000), .func (.func 41) #[] #[], .int .i64 (-1000), .func (.func 43) #[] #[], .int .i64 1, .func (.func 44) #[] #[], .int .i64 (-1000), .func (.func 45) #[] #[], .int .i64 (-1000), .func (.func 46) #[] #[]]) ∧ Grow w w' := by
  go_enter Try.func31, Try.ntmps31
  go_wp2
  refine bodyPost_ret (v := .agg #[.int .i64 0, .nilFunc, .int .i64 (-1000), .func (.func 41) #[] #[], .int .i64 (-1000), .func (.func 43) #[] #[], .int .i64 1, .func (.func 44) #[] #[], .int .i64 (-1000), .func (.func 45) #[] #[], .int .i64 (-1000), .func (.func 46) #[] #[]]) (by simp [results, Try.results31, go_sem]) rfl ⟨rfl, Grow.alloc' _ _⟩
theorem mapAt_1 (w : World) : (Instr.index 46 (.agg #[.int .i64 0, .nilFunc, .int .i64 (-1000), .func (.func 41) #[] #[], .int .i64 (-1000), .func (.func 43) #[] #[], .int .i64 1, .func (.func 44) #[] #[], .int .i64 (-1000), .func (.func 45) #[] #[], .int .i64 (-1000), .func (.func 46) #[] #[]]) (.int .i64 1)).run Try.prog w = .ok (.agg #[.int .i64 (-1000), .func (.func 41) #[] #[]]) w := by kernel_rfl
theorem mapAt_2 (w : World) : (Instr.index 46 (.agg #[.int .i64 0, .nilFunc, .int .i64 (-1000), .func (.func 41) #[] #[], .int .i64 (-1000), .func (.func 43) #[] #[], .int .i64 1, .func (.func 44) #[] #[], .int .i64 (-1000), .func (.func 45) #[] #[], .int .i64 (-1000), .func (.func 46) #[] #[]]) (.int .i64 2)).run Try.prog w = .ok (.agg #[.int .i64 (-1000), .func (.func 43) #[] #[]]) w := by kernel_rfl
theorem mapAt_3 (w : World) : (Instr.index 46 (.agg #[.int .i64 0, .nilFunc, .int .i64 (-1000), .func (.func 41) #[] #[], .int .i64 (-1000), .func (.func 43) #[] #[], .int .i64 1, .func (.func 44) #[] #[], .int .i64 (-1000), .func (.func 45) #[] #[], .int .i64 (-1000), .func (.func 46) #[] #[]]) (.int .i64 3)).run Try.prog w = .ok (.agg #[.int .i64 1, .func (.func 44) #[] #[]]) w := by kernel_rfl
theorem mapAt_4 (w : World) : (Instr.index 46 (.agg #[.int .i64 0, .nilFunc, .int .i64 (-1000), .func (.func 41) #[] #[], .int .i64 (-1000), .func (.func 43) #[] #[], .int .i64 1, .func (.func 44) #[] #[], .int .i64 (-1000), .func (.func 45) #[] #[], .int .i64 (-1000), .func (.func 46) #[] #[]]) (.int .i64 4)).run Try.prog w = .ok (.agg #[.int .i64 (-1000), .func (.func 45) #[] #[]]) w := by kernel_rfl
theorem mapAt_5 (w : World) : (Instr.index 46 (.agg #[.int .i64 0, .nilFunc, .int .i64 (-1000), .func (.func 41) #[] #[], .int .i64 (-1000), .func (.func 43) #[] #[], .int .i64 1, .func (.func 44) #[] #[], .int .i64 (-1000), .func (.func 45) #[] #[], .int .i64 (-1000), .func (.func 46) #[] #[]]) (.int .i64 5)).run Try.prog w = .ok (.agg #[.int .i64 (-1000), .func (.func 46) #[] #[]]) w := by kernel_rfl
theorem mapF_0 (m : Int) (f : Value) (w : World) : (Instr.field 45 (.agg #[.int .i64 m, f]) 0).run Try.prog w = .ok (.int .i64 m) w := by kernel_rfl
theorem mapF_1 (m : Int) (g : Fn) (w : World) : (Instr.field 45 (.agg #[.int .i64 m, .func g #[] #[]]) 1).run Try.prog w = .ok (.func g #[] #[]) w := by kernel_rfl
attribute [local go_sem ↓] mapAt_1 mapAt_2 mapAt_3 mapAt_4 mapAt_5 mapF_0 mapF_1
theorem mayMap_no (a b : Int) (ha : ¬ (1 ≤ a ∧ a ≤ 5)) (w : World) :
    Calls Try.prog 11 #[.int .i64 a, .int .i64 b] w fun e w' => e = .returned (.bool (mayMapB a b)) ∧ Grow w w' := by
  have HM := hide (show mayMapB a b = false by
    have : ¬ 1 ≤ a ∨ ¬ a ≤ 5 := by omega
    rcases this with h | h <;> simp [mayMapB, h])
  have C := hide (isNumber_at a 6 (p := false) (by
    have : ¬ 1 ≤ a ∨ ¬ a < 6 := by omega
    rcases this with h | h <;> simp [h]) w)
  rw [HM.out]
  clear ha
  go_enter Try.func11, Try.ntmps11
  go_wp2_with fail
  refine (C.out).mono ?_
  rintro e w1 ⟨rfl, rfl⟩
  go_wp2_with fail
  go_ret
  exact ⟨rfl, Grow.rfl' _⟩
theorem mayMap_1 (b : Int) (w : World) :
    Calls Try.prog 11 #[.int .i64 1, .int .i64 b] w fun e w' => e = .returned (.bool (mayMapB 1 b)) ∧ Grow w w' := by
  obtain ⟨p, hp⟩ : ∃ p, (decide ((-1000 : Int) ≤ b) && decide (b ≤ 1000)) = p := ⟨_, rfl⟩
  have hm : mayMapB 1 b = p := by
    rw [← hp, Bool.eq_iff_iff]
    simp [mayMapB]
    try omega
  rw [hm]
  have HP := hide hp
  clear hp hm
  go_enter Try.func11, Try.ntmps11
  go_wp2_with fail
  refine (isNumber_at 1 6 (p := true) rfl _).mono ?_
  rintro e w1 ⟨rfl, rfl⟩
  go_wp2_with fail
  refine (mappings_any _).mono ?_
  rintro e w2 ⟨rfl, hb⟩
  have G2 := hide hb
  clear hb
  go_wp2_with fail
  refine (isB_at b _ HP.out _).mono ?_
  rintro e w3 ⟨rfl, rfl⟩
  go_wp2_with fail
  go_ret
  exact ⟨rfl, G2.out⟩
theorem mayMap_2 (b : Int) (w : World) :
    Calls Try.prog 11 #[.int .i64 2, .int .i64 b] w fun e w' => e = .returned (.bool (mayMapB 2 b)) ∧ Grow w w' := by
  obtain ⟨p, hp⟩ : ∃ p, (decide ((-1000 : Int) ≤ b) && decide (b ≤ 1000)) = p := ⟨_, rfl⟩
  have hm : mayMapB 2 b = p := by
    rw [← hp, Bool.eq_iff_iff]
    simp [mayMapB]
    try omega
  rw [hm]
  have HP := hide hp
  clear hp hm
  go_enter Try.func11, Try.ntmps11
  go_wp2_with fail
  refine (isNumber_at 2 6 (p := true) rfl _).mono ?_
  rintro e w1 ⟨rfl, rfl⟩
  go_wp2_with fail
  refine (mappings_any _).mono ?_
  rintro e w2 ⟨rfl, hb⟩
  have G2 := hide hb
  clear hb
  go_wp2_with fail
  refine (isB_at b _ HP.out _).mono ?_
  rintro e w3 ⟨rfl, rfl⟩
  go_wp2_with fail
  go_ret
  exact ⟨rfl, G2.out⟩
theorem mayMap_3 (b : Int) (w : World) :
    Calls Try.prog 11 #[.int .i64 3, .int .i64 b] w fun e w' => e = .returned (.bool (mayMapB 3 b)) ∧ Grow w w' := by
  obtain ⟨p, hp⟩ : ∃ p, (decide ((1 : Int) ≤ b) && decide (b ≤ 1000)) = p := ⟨_, rfl⟩
  have hm : mayMapB 3 b = p := by
    rw [← hp, Bool.eq_iff_iff]
    simp [mayMapB]
    try omega
  rw [hm]
  have HP := hide hp
  clear hp hm
  go_enter Try.func11, Try.ntmps11
  go_wp2_with fail
  refine (isNumber_at 3 6 (p := true) rfl _).mono ?_
  rintro e w1 ⟨rfl, rfl⟩
  go_wp2_with fail
  refine (mappings_any _).mono ?_
  rintro e w2 ⟨rfl, hb⟩
  have G2 := hide hb
  clear hb
  go_wp2_with fail
  refine (isB_at b _ HP.out _).mono ?_
  rintro e w3 ⟨rfl, rfl⟩
  go_wp2_with fail
  go_ret
  exact ⟨rfl, G2.out⟩
theorem mayMap_4 (b : Int) (w : World) :
    Calls Try.prog 11 #[.int .i64 4, .int .i64 b] w fun e w' => e = .returned (.bool (mayMapB 4 b)) ∧ Grow w w' := by
  obtain ⟨p, hp⟩ : ∃ p, (decide ((-1000 : Int) ≤ b) && decide (b ≤ 1000)) = p := ⟨_, rfl⟩
  have hm : mayMapB 4 b = p := by
    rw [← hp, Bool.eq_iff_iff]
    simp [mayMapB]
    try omega
  rw [hm]
  have HP := hide hp
  clear hp hm
  go_enter Try.func11, Try.ntmps11
  go_wp2_with fail
  refine (isNumber_at 4 6 (p := true) rfl _).mono ?_
  rintro e w1 ⟨rfl, rfl⟩
  go_wp2_with fail
  refine (mappings_any _).mono ?_
  rintro e w2 ⟨rfl, hb⟩
  have G2 := hide hb
  clear hb
  go_wp2_with fail
  refine (isB_at b _ HP.out _).mono ?_
  rintro e w3 ⟨rfl, rfl⟩
  go_wp2_with fail
  go_ret
  exact ⟨rfl, G2.out⟩
theorem mayMap_5 (b : Int) (w : World) :
    Calls Try.prog 11 #[.int .i64 5, .int .i64 b] w fun e w' => e = .returned (.bool (mayMapB 5 b)) ∧ Grow w w' := by
  obtain ⟨p, hp⟩ : ∃ p, (decide ((-1000 : Int) ≤ b) && decide (b ≤ 1000)) = p := ⟨_, rfl⟩
  have hm : mayMapB 5 b = p := by
    rw [← hp, Bool.eq_iff_iff]
    simp [mayMapB]
    try omega
  rw [hm]
  have HP := hide hp
  clear hp hm
  go_enter Try.func11, Try.ntmps11
  go_wp2_with fail
  refine (isNumber_at 5 6 (p := true) rfl _).mono ?_
  rintro e w1 ⟨rfl, rfl⟩
  go_wp2_with fail
  refine (mappings_any _).mono ?_
  rintro e w2 ⟨rfl, hb⟩
  have G2 := hide hb
  clear hb
  go_wp2_with fail
  refine (isB_at b _ HP.out _).mono ?_
  rintro e w3 ⟨rfl, rfl⟩
  go_wp2_with fail
  go_ret
  exact ⟨rfl, G2.out⟩
theorem mayMap_any (a b : Int) (w : World) :
    Calls Try.prog 11 #[.int .i64 a, .int .i64 b] w fun e w' => e = .returned (.bool (mayMapB a b)) ∧ Grow w w' := by
  by_cases ha : 1 ≤ a ∧ a ≤ 5
  · have : a = 1 ∨ a = 2 ∨ a = 3 ∨ a = 4 ∨ a = 5 := by omega
    rcases this with rfl | rfl | rfl | rfl | rfl
    · exact mayMap_1 b w
    · exact mayMap_2 b w
    · exact mayMap_3 b w
    · exact mayMap_4 b w
    · exact mayMap_5 b w
  · exact mayMap_no a b ha w
theorem mayMap_at (a b : Int) {p : Bool} (h : mayMapB a b = p) (w : World) :
    Calls Try.prog 11 #[.int .i64 a, .int .i64 b] w fun e w' => e = .returned (.bool p) ∧ Grow w w' := by rw [← h]; exact mayMap_any a b w

set_option maxHeartbeats 1000000 in
theorem mapC1 (b : Int) (r : Rc) (hw : IntKind.i64.wrap (r.v + b) = r.v + b) (w : World) :
    Calls Try.prog 41 #[.int .i64 b, .agg #[.int .i64 r.k, .int .i64 r.v]] w fun e w' => e = .returned (.agg #[.int .i64 (⟨r.k, heldI (r.v + b)⟩ : Rc).k, .int .i64 (⟨r.k, heldI (r.v + b)⟩ : Rc).v]) ∧ Grow w w' := by
  have KX : Hid (Box ((w.alloc (.cells #[.int .i64 r.k, .int .i64 r.v] 23)).alloc (.cells #[.int .i64 0, .int .i64 0] 23)) w.heap.size r) := hide ((Box.new _ _).later (Grow.alloc' _ _))
  have G0 : Hid (Grow w ((w.alloc (.cells #[.int .i64 r.k, .int .i64 r.v] 23)).alloc (.cells #[.int .i64 0, .int .i64 0] 23))) := hide (Grow.trans' (Grow.alloc' _ _) (Grow.alloc' _ _))
  have hz : (w.alloc (.cells #[.int .i64 r.k, .int .i64 r.v] 23)).heap.size = w.heap.size + 1 := by simp
  have KR : Hid (Blk ((w.alloc (.cells #[.int .i64 r.k, .int .i64 r.v] 23)).alloc (.cells #[.int .i64 0, .int .i64 0] 23)) (w.heap.size + 1)) := hide (by rw [← hz]; exact Blk.new _ _ _)
  clear hz
  go_enter Try.func41, Try.ntmps41
  go_wp2_with fail
  generalize (w.alloc (.cells #[.int .i64 r.k, .int .i64 r.v] 23)).alloc (.cells #[.int .i64 0, .int .i64 0] 23) = w0 at *
  refine wp_region_end (fun i vF wF => match i with | 0 => vF = .pointer (some ⟨w.heap.size, 0, none⟩) | 1 => vF = .int .i64 r.k | 2 => vF = .pointer (some ⟨w.heap.size, 1, none⟩) | 3 => vF = .int .i64 r.v | 4 => vF = .int .i64 b | 5 => vF = .int .i64 (r.v + b) | 6 => vF = .int .i64 (heldI (r.v + b)) | 7 => vF = .agg #[.int .i64 (⟨r.k, heldI (r.v + b)⟩ : Rc).k, .int .i64 (⟨r.k, heldI (r.v + b)⟩ : Rc).v] | _ => True) 8 _ rfl rfl rfl (by kernel_rfl) (by kernel_rfl) ?_ ?_ ?_
  · intro k v w1 w2 hg h
    match k with
    | 0 => exact h
    | 1 => exact h
    | 2 => exact h
    | 3 => exact h
    | 4 => exact h
    | 5 => exact h
    | 6 => exact h
    | 7 => exact h
    | k + 8 => exact trivial
  · refine ⟨?_, ?_, ?_, ?_, ?_, ?_, ?_, ?_, trivial⟩
    · refine stepOne_run trivial ?_
      intro a' w' hg hs hd
      have e3 : a'.eval (.tmp 3) = .pointer (some ⟨w.heap.size, 0, none⟩) := hs.rest 3 rfl
      have ec : ∀ v, a'.eval (.const v) = v := fun _ => rfl
      have ef : ∀ g, a'.eval (.func g) = .func (.func g) #[] #[] := fun _ => rfl
      clear hd hs
      refine wpv (v := .pointer (some ⟨w.heap.size, 0, none⟩)) ?_ ⟨_, rfl, Grow.rfl' _, rfl⟩
      (generalize a'.eval = ev at ec ef e3 ⊢; simp [execOp, go_sem, *])
    · refine stepOne_run trivial ?_
      intro a' w' hg hs hd
      have e5 : a'.eval (.tmp 5) = .pointer (some ⟨w.heap.size, 0, none⟩) := hd ⟨0, Ground.data⟩ (by simp) rfl
      have ec : ∀ v, a'.eval (.const v) = v := fun _ => rfl
      have ef : ∀ g, a'.eval (.func g) = .func (.func g) #[] #[] := fun _ => rfl
      obtain ⟨x0, x1⟩ := KX.out.later hg
      clear hd hs
      refine wpv (v := .int .i64 r.k) ?_ ⟨_, rfl, Grow.rfl' _, rfl⟩
      (generalize a'.eval = ev at ec ef e5 ⊢; simp [execOp, go_sem, *])
    · refine stepOne_run trivial ?_
      intro a' w' hg hs hd
      have e3 : a'.eval (.tmp 3) = .pointer (some ⟨w.heap.size, 0, none⟩) := hs.rest 3 rfl
      have ec : ∀ v, a'.eval (.const v) = v := fun _ => rfl
      have ef : ∀ g, a'.eval (.func g) = .func (.func g) #[] #[] := fun _ => rfl
      clear hd hs
      refine wpv (v := .pointer (some ⟨w.heap.size, 1, none⟩)) ?_ ⟨_, rfl, Grow.rfl' _, rfl⟩
      (generalize a'.eval = ev at ec ef e3 ⊢; simp [execOp, go_sem, *])
    · refine stepOne_run trivial ?_
      intro a' w' hg hs hd
      have e7 : a'.eval (.tmp 7) = .pointer (some ⟨w.heap.size, 1, none⟩) := hd ⟨2, Ground.data⟩ (by simp) rfl
      have ec : ∀ v, a'.eval (.const v) = v := fun _ => rfl
      have ef : ∀ g, a'.eval (.func g) = .func (.func g) #[] #[] := fun _ => rfl
      obtain ⟨x0, x1⟩ := KX.out.later hg
      clear hd hs
      refine wpv (v := .int .i64 r.v) ?_ ⟨_, rfl, Grow.rfl' _, rfl⟩
      (generalize a'.eval = ev at ec ef e7 ⊢; simp [execOp, go_sem, *])
    · refine stepOne_run trivial ?_
      intro a' w' hg hs hd
      have e0 : a'.eval (.tmp 0) = .int .i64 b := hs.rest 0 rfl
      have ec : ∀ v, a'.eval (.const v) = v := fun _ => rfl
      have ef : ∀ g, a'.eval (.func g) = .func (.func g) #[] #[] := fun _ => rfl
      clear hd hs
      refine wpv (v := .int .i64 b) ?_ ⟨_, rfl, Grow.rfl' _, rfl⟩
      (generalize a'.eval = ev at ec ef e0 ⊢; simp [execOp, go_sem, *])
    · refine stepOne_run trivial ?_
      intro a' w' hg hs hd
      have e8 : a'.eval (.tmp 8) = .int .i64 r.v := hd ⟨3, Ground.data⟩ (by simp) rfl
      have e9 : a'.eval (.tmp 9) = .int .i64 b := hd ⟨4, Ground.data⟩ (by simp) rfl
      have ec : ∀ v, a'.eval (.const v) = v := fun _ => rfl
      have ef : ∀ g, a'.eval (.func g) = .func (.func g) #[] #[] := fun _ => rfl
      clear hd hs
      refine wpv (v := .int .i64 (r.v + b)) ?_ ⟨_, rfl, Grow.rfl' _, rfl⟩
      (generalize a'.eval = ev at ec ef e8 e9 ⊢; simp [execOp, go_sem, *])
    · refine stepOne_run trivial ?_
      intro a' w' hg hs hd
      have e10 : a'.eval (.tmp 10) = .int .i64 (r.v + b) := hd ⟨5, Ground.data⟩ (by simp) rfl
      have ec : ∀ v, a'.eval (.const v) = v := fun _ => rfl
      have ef : ∀ g, a'.eval (.func g) = .func (.func g) #[] #[] := fun _ => rfl
      clear hd hs
      refine wpc ?_ (Calls.mono (held_g (r.v + b) _) fun e w2 ⟨he, hb⟩ => ⟨_, he, _, rfl, hb, rfl⟩)
      (generalize a'.eval = ev at ec ef e10 ⊢; simp [execOp, go_sem, *])
    · refine stepOne_run trivial ?_
      intro a' w' hg hs hd
      have e6 : a'.eval (.tmp 6) = .int .i64 r.k := hd ⟨1, Ground.data⟩ (by simp) rfl
      have e11 : a'.eval (.tmp 11) = .int .i64 (heldI (r.v + b)) := hd ⟨6, Ground.data⟩ (by simp) rfl
      have ec : ∀ v, a'.eval (.const v) = v := fun _ => rfl
      have ef : ∀ g, a'.eval (.func g) = .func (.func g) #[] #[] := fun _ => rfl
      clear hd hs
      refine wpv (v := .agg #[.int .i64 (⟨r.k, heldI (r.v + b)⟩ : Rc).k, .int .i64 (⟨r.k, heldI (r.v + b)⟩ : Rc).v]) ?_ ⟨_, rfl, Grow.rfl' _, rfl⟩
      (generalize a'.eval = ev at ec ef e6 e11 ⊢; simp [execOp, go_sem, *])
  · intro a' w' hg hs hd
    have e4 : a'.eval (.tmp 4) = .pointer (some ⟨w.heap.size + 1, 0, none⟩) := hs.rest 4 rfl
    have e12 : a'.eval (.tmp 12) = .agg #[.int .i64 (⟨r.k, heldI (r.v + b)⟩ : Rc).k, .int .i64 (⟨r.k, heldI (r.v + b)⟩ : Rc).v] := hd 7 (by omega)
    have ec : ∀ v, a'.eval (.const v) = v := fun _ => rfl
    have ef : ∀ g, a'.eval (.func g) = .func (.func g) #[] #[] := fun _ => rfl
    refine wp_store_rec _ _ rfl (t := ⟨r.k, heldI (r.v + b)⟩) e4 e12 (KR.out.later hg) ?_
    go_wp2_with fail
    have HB := (KR.out.later hg).box ⟨r.k, heldI (r.v + b)⟩
    dsimp only at HB
    have HR := results_rec (fn := Try.f41) (i := 4) rfl a'.tmps _ e4 HB
    exact bodyPost_ret HR hs.defers ⟨rfl, below_setRow (Grow.trans' G0.out hg) (Nat.le_succ _) _⟩
set_option maxHeartbeats 1000000 in
theorem mapC2 (b : Int) (r : Rc) (hw : IntKind.i64.wrap (r.v * b) = r.v * b) (w : World) :
    Calls Try.prog 43 #[.int .i64 b, .agg #[.int .i64 r.k, .int .i64 r.v]] w fun e w' => e = .returned (.agg #[.int .i64 (⟨r.k, heldI (r.v * b)⟩ : Rc).k, .int .i64 (⟨r.k, heldI (r.v * b)⟩ : Rc).v]) ∧ Grow w w' := by
  have KX : Hid (Box ((w.alloc (.cells #[.int .i64 r.k, .int .i64 r.v] 23)).alloc (.cells #[.int .i64 0, .int .i64 0] 23)) w.heap.size r) := hide ((Box.new _ _).later (Grow.alloc' _ _))
  have G0 : Hid (Grow w ((w.alloc (.cells #[.int .i64 r.k, .int .i64 r.v] 23)).alloc (.cells #[.int .i64 0, .int .i64 0] 23))) := hide (Grow.trans' (Grow.alloc' _ _) (Grow.alloc' _ _))
  have hz : (w.alloc (.cells #[.int .i64 r.k, .int .i64 r.v] 23)).heap.size = w.heap.size + 1 := by simp
  have KR : Hid (Blk ((w.alloc (.cells #[.int .i64 r.k, .int .i64 r.v] 23)).alloc (.cells #[.int .i64 0, .int .i64 0] 23)) (w.heap.size + 1)) := hide (by rw [← hz]; exact Blk.new _ _ _)
  clear hz
  go_enter Try.func43, Try.ntmps43
  go_wp2_with fail
  generalize (w.alloc (.cells #[.int .i64 r.k, .int .i64 r.v] 23)).alloc (.cells #[.int .i64 0, .int .i64 0] 23) = w0 at *
  refine wp_region_end (fun i vF wF => match i with | 0 => vF = .pointer (some ⟨w.heap.size, 0, none⟩) | 1 => vF = .int .i64 r.k | 2 => vF = .pointer (some ⟨w.heap.size, 1, none⟩) | 3 => vF = .int .i64 r.v | 4 => vF = .int .i64 b | 5 => vF = .int .i64 (r.v * b) | 6 => vF = .int .i64 (heldI (r.v * b)) | 7 => vF = .agg #[.int .i64 (⟨r.k, heldI (r.v * b)⟩ : Rc).k, .int .i64 (⟨r.k, heldI (r.v * b)⟩ : Rc).v] | _ => True) 8 _ rfl rfl rfl (by kernel_rfl) (by kernel_rfl) ?_ ?_ ?_
  · intro k v w1 w2 hg h
    match k with
    | 0 => exact h
    | 1 => exact h
    | 2 => exact h
    | 3 => exact h
    | 4 => exact h
    | 5 => exact h
    | 6 => exact h
    | 7 => exact h
    | k + 8 => exact trivial
  · refine ⟨?_, ?_, ?_, ?_, ?_, ?_, ?_, ?_, trivial⟩
    · refine stepOne_run trivial ?_
      intro a' w' hg hs hd
      have e3 : a'.eval (.tmp 3) = .pointer (some ⟨w.heap.size, 0, none⟩) := hs.rest 3 rfl
      have ec : ∀ v, a'.eval (.const v) = v := fun _ => rfl
      have ef : ∀ g, a'.eval (.func g) = .func (.func g) #[] #[] := fun _ => rfl
      clear hd hs
      refine wpv (v := .pointer (some ⟨w.heap.size, 0, none⟩)) ?_ ⟨_, rfl, Grow.rfl' _, rfl⟩
      (generalize a'.eval = ev at ec ef e3 ⊢; simp [execOp, go_sem, *])
    · refine stepOne_run trivial ?_
      intro a' w' hg hs hd
      have e5 : a'.eval (.tmp 5) = .pointer (some ⟨w.heap.size, 0, none⟩) := hd ⟨0, Ground.data⟩ (by simp) rfl
      have ec : ∀ v, a'.eval (.const v) = v := fun _ => rfl
      have ef : ∀ g, a'.eval (.func g) = .func (.func g) #[] #[] := fun _ => rfl
      obtain ⟨x0, x1⟩ := KX.out.later hg
      clear hd hs
      refine wpv (v := .int .i64 r.k) ?_ ⟨_, rfl, Grow.rfl' _, rfl⟩
      (generalize a'.eval = ev at ec ef e5 ⊢; simp [execOp, go_sem, *])
    · refine stepOne_run trivial ?_
      intro a' w' hg hs hd
      have e3 : a'.eval (.tmp 3) = .pointer (some ⟨w.heap.size, 0, none⟩) := hs.rest 3 rfl
      have ec : ∀ v, a'.eval (.const v) = v := fun _ => rfl
      have ef : ∀ g, a'.eval (.func g) = .func (.func g) #[] #[] := fun _ => rfl
      clear hd hs
      refine wpv (v := .pointer (some ⟨w.heap.size, 1, none⟩)) ?_ ⟨_, rfl, Grow.rfl' _, rfl⟩
      (generalize a'.eval = ev at ec ef e3 ⊢; simp [execOp, go_sem, *])
    · refine stepOne_run trivial ?_
      intro a' w' hg hs hd
      have e7 : a'.eval (.tmp 7) = .pointer (some ⟨w.heap.size, 1, none⟩) := hd ⟨2, Ground.data⟩ (by simp) rfl
      have ec : ∀ v, a'.eval (.const v) = v := fun _ => rfl
      have ef : ∀ g, a'.eval (.func g) = .func (.func g) #[] #[] := fun _ => rfl
      obtain ⟨x0, x1⟩ := KX.out.later hg
      clear hd hs
      refine wpv (v := .int .i64 r.v) ?_ ⟨_, rfl, Grow.rfl' _, rfl⟩
      (generalize a'.eval = ev at ec ef e7 ⊢; simp [execOp, go_sem, *])
    · refine stepOne_run trivial ?_
      intro a' w' hg hs hd
      have e0 : a'.eval (.tmp 0) = .int .i64 b := hs.rest 0 rfl
      have ec : ∀ v, a'.eval (.const v) = v := fun _ => rfl
      have ef : ∀ g, a'.eval (.func g) = .func (.func g) #[] #[] := fun _ => rfl
      clear hd hs
      refine wpv (v := .int .i64 b) ?_ ⟨_, rfl, Grow.rfl' _, rfl⟩
      (generalize a'.eval = ev at ec ef e0 ⊢; simp [execOp, go_sem, *])
    · refine stepOne_run trivial ?_
      intro a' w' hg hs hd
      have e8 : a'.eval (.tmp 8) = .int .i64 r.v := hd ⟨3, Ground.data⟩ (by simp) rfl
      have e9 : a'.eval (.tmp 9) = .int .i64 b := hd ⟨4, Ground.data⟩ (by simp) rfl
      have ec : ∀ v, a'.eval (.const v) = v := fun _ => rfl
      have ef : ∀ g, a'.eval (.func g) = .func (.func g) #[] #[] := fun _ => rfl
      clear hd hs
      refine wpv (v := .int .i64 (r.v * b)) ?_ ⟨_, rfl, Grow.rfl' _, rfl⟩
      (generalize a'.eval = ev at ec ef e8 e9 ⊢; simp [execOp, go_sem, *])
    · refine stepOne_run trivial ?_
      intro a' w' hg hs hd
      have e10 : a'.eval (.tmp 10) = .int .i64 (r.v * b) := hd ⟨5, Ground.data⟩ (by simp) rfl
      have ec : ∀ v, a'.eval (.const v) = v := fun _ => rfl
      have ef : ∀ g, a'.eval (.func g) = .func (.func g) #[] #[] := fun _ => rfl
      clear hd hs
      refine wpc ?_ (Calls.mono (held_g (r.v * b) _) fun e w2 ⟨he, hb⟩ => ⟨_, he, _, rfl, hb, rfl⟩)
      (generalize a'.eval = ev at ec ef e10 ⊢; simp [execOp, go_sem, *])
    · refine stepOne_run trivial ?_
      intro a' w' hg hs hd
      have e6 : a'.eval (.tmp 6) = .int .i64 r.k := hd ⟨1, Ground.data⟩ (by simp) rfl
      have e11 : a'.eval (.tmp 11) = .int .i64 (heldI (r.v * b)) := hd ⟨6, Ground.data⟩ (by simp) rfl
      have ec : ∀ v, a'.eval (.const v) = v := fun _ => rfl
      have ef : ∀ g, a'.eval (.func g) = .func (.func g) #[] #[] := fun _ => rfl
      clear hd hs
      refine wpv (v := .agg #[.int .i64 (⟨r.k, heldI (r.v * b)⟩ : Rc).k, .int .i64 (⟨r.k, heldI (r.v * b)⟩ : Rc).v]) ?_ ⟨_, rfl, Grow.rfl' _, rfl⟩
      (generalize a'.eval = ev at ec ef e6 e11 ⊢; simp [execOp, go_sem, *])
  · intro a' w' hg hs hd
    have e4 : a'.eval (.tmp 4) = .pointer (some ⟨w.heap.size + 1, 0, none⟩) := hs.rest 4 rfl
    have e12 : a'.eval (.tmp 12) = .agg #[.int .i64 (⟨r.k, heldI (r.v * b)⟩ : Rc).k, .int .i64 (⟨r.k, heldI (r.v * b)⟩ : Rc).v] := hd 7 (by omega)
    have ec : ∀ v, a'.eval (.const v) = v := fun _ => rfl
    have ef : ∀ g, a'.eval (.func g) = .func (.func g) #[] #[] := fun _ => rfl
    refine wp_store_rec _ _ rfl (t := ⟨r.k, heldI (r.v * b)⟩) e4 e12 (KR.out.later hg) ?_
    go_wp2_with fail
    have HB := (KR.out.later hg).box ⟨r.k, heldI (r.v * b)⟩
    dsimp only at HB
    have HR := results_rec (fn := Try.f43) (i := 4) rfl a'.tmps _ e4 HB
    exact bodyPost_ret HR hs.defers ⟨rfl, below_setRow (Grow.trans' G0.out hg) (Nat.le_succ _) _⟩

set_option maxHeartbeats 1000000 in
theorem mapC3 (b : Int) (r : Rc) (hb : 1 ≤ b) (hB : b ≤ 1000) (w : World) :
    Calls Try.prog 44 #[.int .i64 b, .agg #[.int .i64 r.k, .int .i64 r.v]] w fun e w' => e = .returned (.agg #[.int .i64 (⟨modI r.v b, r.v⟩ : Rc).k, .int .i64 (⟨modI r.v b, r.v⟩ : Rc).v]) ∧ Grow w w' := by
  have KX : Hid (Box ((w.alloc (.cells #[.int .i64 r.k, .int .i64 r.v] 23)).alloc (.cells #[.int .i64 0, .int .i64 0] 23)) w.heap.size r) := hide ((Box.new _ _).later (Grow.alloc' _ _))
  have G0 : Hid (Grow w ((w.alloc (.cells #[.int .i64 r.k, .int .i64 r.v] 23)).alloc (.cells #[.int .i64 0, .int .i64 0] 23))) := hide (Grow.trans' (Grow.alloc' _ _) (Grow.alloc' _ _))
  have hz : (w.alloc (.cells #[.int .i64 r.k, .int .i64 r.v] 23)).heap.size = w.heap.size + 1 := by simp
  have KR : Hid (Blk ((w.alloc (.cells #[.int .i64 r.k, .int .i64 r.v] 23)).alloc (.cells #[.int .i64 0, .int .i64 0] 23)) (w.heap.size + 1)) := hide (by rw [← hz]; exact Blk.new _ _ _)
  clear hz
  go_enter Try.func44, Try.ntmps44
  go_wp2_with fail
  generalize (w.alloc (.cells #[.int .i64 r.k, .int .i64 r.v] 23)).alloc (.cells #[.int .i64 0, .int .i64 0] 23) = w0 at *
  refine wp_region_end (fun i vF wF => match i with | 0 => vF = .pointer (some ⟨w.heap.size, 1, none⟩) | 1 => vF = .int .i64 r.v | 2 => vF = .int .i64 b | 3 => vF = .int .i64 (modI r.v b) | 4 => vF = .pointer (some ⟨w.heap.size, 1, none⟩) | 5 => vF = .int .i64 r.v | 6 => vF = .agg #[.int .i64 (⟨modI r.v b, r.v⟩ : Rc).k, .int .i64 (⟨modI r.v b, r.v⟩ : Rc).v] | _ => True) 7 _ rfl rfl rfl (by kernel_rfl) (by kernel_rfl) ?_ ?_ ?_
  · intro k v w1 w2 hg h
    match k with
    | 0 => exact h
    | 1 => exact h
    | 2 => exact h
    | 3 => exact h
    | 4 => exact h
    | 5 => exact h
    | 6 => exact h
    | k + 7 => exact trivial
  · refine ⟨?_, ?_, ?_, ?_, ?_, ?_, ?_, trivial⟩
    · refine stepOne_run trivial ?_
      intro a' w' hg hs hd
      have e3 : a'.eval (.tmp 3) = .pointer (some ⟨w.heap.size, 0, none⟩) := hs.rest 3 rfl
      have ec : ∀ v, a'.eval (.const v) = v := fun _ => rfl
      have ef : ∀ g, a'.eval (.func g) = .func (.func g) #[] #[] := fun _ => rfl
      clear hd hs
      refine wpv (v := .pointer (some ⟨w.heap.size, 1, none⟩)) ?_ ⟨_, rfl, Grow.rfl' _, rfl⟩
      (generalize a'.eval = ev at ec ef e3 ⊢; simp [execOp, go_sem, *])
    · refine stepOne_run trivial ?_
      intro a' w' hg hs hd
      have e5 : a'.eval (.tmp 5) = .pointer (some ⟨w.heap.size, 1, none⟩) := hd ⟨0, Ground.data⟩ (by simp) rfl
      have ec : ∀ v, a'.eval (.const v) = v := fun _ => rfl
      have ef : ∀ g, a'.eval (.func g) = .func (.func g) #[] #[] := fun _ => rfl
      obtain ⟨x0, x1⟩ := KX.out.later hg
      clear hd hs
      refine wpv (v := .int .i64 r.v) ?_ ⟨_, rfl, Grow.rfl' _, rfl⟩
      (generalize a'.eval = ev at ec ef e5 ⊢; simp [execOp, go_sem, *])
    · refine stepOne_run trivial ?_
      intro a' w' hg hs hd
      have e0 : a'.eval (.tmp 0) = .int .i64 b := hs.rest 0 rfl
      have ec : ∀ v, a'.eval (.const v) = v := fun _ => rfl
      have ef : ∀ g, a'.eval (.func g) = .func (.func g) #[] #[] := fun _ => rfl
      clear hd hs
      refine wpv (v := .int .i64 b) ?_ ⟨_, rfl, Grow.rfl' _, rfl⟩
      (generalize a'.eval = ev at ec ef e0 ⊢; simp [execOp, go_sem, *])
    · refine stepOne_run trivial ?_
      intro a' w' hg hs hd
      have e6 : a'.eval (.tmp 6) = .int .i64 r.v := hd ⟨1, Ground.data⟩ (by simp) rfl
      have e7 : a'.eval (.tmp 7) = .int .i64 b := hd ⟨2, Ground.data⟩ (by simp) rfl
      have ec : ∀ v, a'.eval (.const v) = v := fun _ => rfl
      have ef : ∀ g, a'.eval (.func g) = .func (.func g) #[] #[] := fun _ => rfl
      clear hd hs
      refine wpc ?_ (Calls.mono (mod_g r.v b hb (by omega) _) fun e w2 ⟨he, hb⟩ => ⟨_, he, _, rfl, hb, rfl⟩)
      (generalize a'.eval = ev at ec ef e6 e7 ⊢; simp [execOp, go_sem, *])
    · refine stepOne_run trivial ?_
      intro a' w' hg hs hd
      have e3 : a'.eval (.tmp 3) = .pointer (some ⟨w.heap.size, 0, none⟩) := hs.rest 3 rfl
      have ec : ∀ v, a'.eval (.const v) = v := fun _ => rfl
      have ef : ∀ g, a'.eval (.func g) = .func (.func g) #[] #[] := fun _ => rfl
      clear hd hs
      refine wpv (v := .pointer (some ⟨w.heap.size, 1, none⟩)) ?_ ⟨_, rfl, Grow.rfl' _, rfl⟩
      (generalize a'.eval = ev at ec ef e3 ⊢; simp [execOp, go_sem, *])
    · refine stepOne_run trivial ?_
      intro a' w' hg hs hd
      have e9 : a'.eval (.tmp 9) = .pointer (some ⟨w.heap.size, 1, none⟩) := hd ⟨4, Ground.data⟩ (by simp) rfl
      have ec : ∀ v, a'.eval (.const v) = v := fun _ => rfl
      have ef : ∀ g, a'.eval (.func g) = .func (.func g) #[] #[] := fun _ => rfl
      obtain ⟨x0, x1⟩ := KX.out.later hg
      clear hd hs
      refine wpv (v := .int .i64 r.v) ?_ ⟨_, rfl, Grow.rfl' _, rfl⟩
      (generalize a'.eval = ev at ec ef e9 ⊢; simp [execOp, go_sem, *])
    · refine stepOne_run trivial ?_
      intro a' w' hg hs hd
      have e8 : a'.eval (.tmp 8) = .int .i64 (modI r.v b) := hd ⟨3, Ground.data⟩ (by simp) rfl
      have e10 : a'.eval (.tmp 10) = .int .i64 r.v := hd ⟨5, Ground.data⟩ (by simp) rfl
      have ec : ∀ v, a'.eval (.const v) = v := fun _ => rfl
      have ef : ∀ g, a'.eval (.func g) = .func (.func g) #[] #[] := fun _ => rfl
      clear hd hs
      refine wpv (v := .agg #[.int .i64 (⟨modI r.v b, r.v⟩ : Rc).k, .int .i64 (⟨modI r.v b, r.v⟩ : Rc).v]) ?_ ⟨_, rfl, Grow.rfl' _, rfl⟩
      (generalize a'.eval = ev at ec ef e8 e10 ⊢; simp [execOp, go_sem, *])
  · intro a' w' hg hs hd
    have e4 : a'.eval (.tmp 4) = .pointer (some ⟨w.heap.size + 1, 0, none⟩) := hs.rest 4 rfl
    have e11 : a'.eval (.tmp 11) = .agg #[.int .i64 (⟨modI r.v b, r.v⟩ : Rc).k, .int .i64 (⟨modI r.v b, r.v⟩ : Rc).v] := hd 6 (by omega)
    have ec : ∀ v, a'.eval (.const v) = v := fun _ => rfl
    have ef : ∀ g, a'.eval (.func g) = .func (.func g) #[] #[] := fun _ => rfl
    refine wp_store_rec _ _ rfl (t := ⟨modI r.v b, r.v⟩) e4 e11 (KR.out.later hg) ?_
    go_wp2_with fail
    have HB := (KR.out.later hg).box ⟨modI r.v b, r.v⟩
    dsimp only at HB
    have HR := results_rec (fn := Try.f44) (i := 4) rfl a'.tmps _ e4 HB
    exact bodyPost_ret HR hs.defers ⟨rfl, below_setRow (Grow.trans' G0.out hg) (Nat.le_succ _) _⟩
set_option maxHeartbeats 1000000 in
theorem mapC4 (b : Int) (r : Rc) (w : World) :
    Calls Try.prog 45 #[.int .i64 b, .agg #[.int .i64 r.k, .int .i64 r.v]] w fun e w' => e = .returned (.agg #[.int .i64 (⟨r.v, r.k⟩ : Rc).k, .int .i64 (⟨r.v, r.k⟩ : Rc).v]) ∧ Grow w w' := by
  go_enter Try.func45, Try.ntmps45
  go_wp2_with fail
  refine bodyPost_ret (v := .agg #[.int .i64 (⟨r.v, r.k⟩ : Rc).k, .int .i64 (⟨r.v, r.k⟩ : Rc).v]) (by simp [results, Try.results45, go_sem]) rfl ⟨rfl, ?_⟩
  exact Grow.trans' (Grow.alloc' _ _) (Grow.alloc' _ _)
set_option maxHeartbeats 1000000 in
theorem mapC5 (b : Int) (r : Rc) (w : World) :
    Calls Try.prog 46 #[.int .i64 b, .agg #[.int .i64 r.k, .int .i64 r.v]] w fun e w' => e = .returned (.agg #[.int .i64 (⟨r.k, b⟩ : Rc).k, .int .i64 (⟨r.k, b⟩ : Rc).v]) ∧ Grow w w' := by
  go_enter Try.func46, Try.ntmps46
  go_wp2_with fail
  refine bodyPost_ret (v := .agg #[.int .i64 (⟨r.k, b⟩ : Rc).k, .int .i64 (⟨r.k, b⟩ : Rc).v]) (by simp [results, Try.results46, go_sem]) rfl ⟨rfl, ?_⟩
  exact Grow.trans' (Grow.alloc' _ _) (Grow.alloc' _ _)

end Go.Proofs.Ythkkjhjbojbbaaa
