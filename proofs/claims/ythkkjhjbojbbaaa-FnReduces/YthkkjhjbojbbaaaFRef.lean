/-
  What the document's own MayMap, MayFilter, MayReduce, Map, Filter, Mod and Route do to the world: each returns its plain answer, and what was there stays as it was.
-/
import Derived.Test.YthkkjhjbojbbaaaFMap
namespace Go.Proofs.Ythkkjhjbojbbaaa
set_option maxRecDepth 100000
open Go.RowKit Go.Sort
attribute [local go_sem ↓] run_maxI run_minI
set_option linter.unusedVariables false
set_option linter.unusedSimpArgs false

theorem refSmall_at (b : Int) {p : Bool} (hp : (decide (-1000 ≤ b) && decide (b ≤ 1000)) = p) (w : World) :
    Calls Try.prog 32 #[.int .i64 b] w fun e w' => e = .returned (.bool p) ∧ w' = w := by
  subst hp
  by_cases h1 : -1000 ≤ b <;> by_cases h2 : b ≤ 1000
  all_goals
    go_enter Try.func32, Try.ntmps32
    go_wp2
  all_goals go_ret
  all_goals exact ⟨ret_bool (by simp; try omega), rfl⟩
set_option maxHeartbeats 1000000 in
theorem refMayMap_any (a b : Int) (w : World) :
    Calls Try.prog 12 #[.int .i64 a, .int .i64 b] w fun e w' => e = .returned (.bool (mayMapB a b)) ∧ w' = w := by
  obtain ⟨p, hp⟩ : ∃ p, (decide (-1000 ≤ b) && decide (b ≤ 1000)) = p := ⟨_, rfl⟩
  have HP := hide hp
  have HM : Hid (mayMapB a b = (decide (1 ≤ a) && decide (a ≤ 5) && p && (decide (a ≠ 3) || decide (1 ≤ b)))) := hide (by rw [← hp]; simp [mayMapB, Bool.and_assoc])
  clear hp
  rw [HM.out]
  clear HM
  by_cases h1 : 1 ≤ a
  · by_cases h2 : a ≤ 5
    · cases p
      · go_enter Try.func12, Try.ntmps12
        go_wp2_with fail
        refine (refSmall_at b HP.out _).mono ?_
        rintro e w1 ⟨rfl, rfl⟩
        go_wp2_with fail
        go_ret
        exact ⟨ret_bool (by simp), rfl⟩
      · by_cases h3 : a = 3
        · subst h3
          by_cases h4 : 1 ≤ b
          all_goals
            go_enter Try.func12, Try.ntmps12
            go_wp2_with fail
            refine (refSmall_at b HP.out _).mono ?_
            rintro e w1 ⟨rfl, rfl⟩
            go_wp2_with fail
            go_ret
            exact ⟨ret_bool (by simp; try omega), rfl⟩
        · go_enter Try.func12, Try.ntmps12
          go_wp2_with fail
          refine (refSmall_at b HP.out _).mono ?_
          rintro e w1 ⟨rfl, rfl⟩
          go_wp2_with fail
          go_ret
          exact ⟨ret_bool (by simp; try omega), rfl⟩
    · go_enter Try.func12, Try.ntmps12
      go_wp2_with fail
      go_ret
      exact ⟨ret_bool (by simp; intros; omega), rfl⟩
  · go_enter Try.func12, Try.ntmps12
    go_wp2_with fail
    go_ret
    exact ⟨ret_bool (by simp; intros; omega), rfl⟩
theorem refMayMap_at (a b : Int) {p : Bool} (hp : mayMapB a b = p) (w : World) :
    Calls Try.prog 12 #[.int .i64 a, .int .i64 b] w fun e w' => e = .returned (.bool p) ∧ w' = w := by rw [← hp]; exact refMayMap_any a b w
set_option maxHeartbeats 1000000 in
theorem refMayFil_any (a b : Int) (w : World) :
    Calls Try.prog 14 #[.int .i64 a, .int .i64 b] w fun e w' => e = .returned (.bool (mayFilB a b)) ∧ w' = w := by
  obtain ⟨p, hp⟩ : ∃ p, (decide (-1000 ≤ b) && decide (b ≤ 1000)) = p := ⟨_, rfl⟩
  have HP := hide hp
  have HM : Hid (mayFilB a b = (decide (1 ≤ a) && decide (a ≤ 4) && p && (decide (a ≠ 3) || decide (1 ≤ b)))) := hide (by rw [← hp]; simp [mayFilB, Bool.and_assoc])
  clear hp
  rw [HM.out]
  clear HM
  by_cases h1 : 1 ≤ a
  · by_cases h2 : a ≤ 4
    · cases p
      · go_enter Try.func14, Try.ntmps14
        go_wp2_with fail
        refine (refSmall_at b HP.out _).mono ?_
        rintro e w1 ⟨rfl, rfl⟩
        go_wp2_with fail
        go_ret
        exact ⟨ret_bool (by simp), rfl⟩
      · by_cases h3 : a = 3
        · subst h3
          by_cases h4 : 1 ≤ b
          all_goals
            go_enter Try.func14, Try.ntmps14
            go_wp2_with fail
            refine (refSmall_at b HP.out _).mono ?_
            rintro e w1 ⟨rfl, rfl⟩
            go_wp2_with fail
            go_ret
            exact ⟨ret_bool (by simp; try omega), rfl⟩
        · go_enter Try.func14, Try.ntmps14
          go_wp2_with fail
          refine (refSmall_at b HP.out _).mono ?_
          rintro e w1 ⟨rfl, rfl⟩
          go_wp2_with fail
          go_ret
          exact ⟨ret_bool (by simp; try omega), rfl⟩
    · go_enter Try.func14, Try.ntmps14
      go_wp2_with fail
      go_ret
      exact ⟨ret_bool (by simp; intros; omega), rfl⟩
  · go_enter Try.func14, Try.ntmps14
    go_wp2_with fail
    go_ret
    exact ⟨ret_bool (by simp; intros; omega), rfl⟩
theorem refMayFil_at (a b : Int) {p : Bool} (hp : mayFilB a b = p) (w : World) :
    Calls Try.prog 14 #[.int .i64 a, .int .i64 b] w fun e w' => e = .returned (.bool p) ∧ w' = w := by rw [← hp]; exact refMayFil_any a b w
theorem refMayRed_at (a : Int) {p : Bool} (hp : mayRedB a = p) (w : World) :
    Calls Try.prog 16 #[.int .i64 a] w fun e w' => e = .returned (.bool p) ∧ w' = w := by
  subst hp
  unfold mayRedB
  by_cases h1 : 1 ≤ a <;> by_cases h2 : a ≤ 4
  all_goals
    go_enter Try.func16, Try.ntmps16
    go_wp2
  all_goals go_ret
  all_goals exact ⟨ret_bool (by simp; try omega), rfl⟩
theorem refHeld_any (x : Int) (w : World) :
    Calls Try.prog 34 #[.int .i64 x] w fun e w' => e = .returned (.int .i64 (heldI x)) ∧ w' = w := by
  go_enter Try.func34, Try.ntmps34
  go_wp2
  all_goals go_ret
  all_goals exact ⟨ret_int (heldI_minmax x), rfl⟩
theorem refHeld_g (x : Int) (w : World) :
    Calls Try.prog 34 #[.int .i64 x] w fun e w' => e = .returned (.int .i64 (heldI x)) ∧ Grow w w' := (refHeld_any x w).mono fun e w' ⟨h, k⟩ => ⟨h, by rw [k]; exact Grow.rfl' _⟩
theorem refMod_any (x b : Int) (hb : 1 ≤ b) (hB : b ≤ 9223372036854775807) (w : World) :
    Calls Try.prog 35 #[.int .i64 x, .int .i64 b] w fun e w' => e = .returned (.int .i64 (modI x b)) ∧ w' = w := by
  have h0 : ¬ b = 0 := by omega
  have ht := tmod_in (x := x) hb
  by_cases hn : Int.tmod x b < 0
  · have hw : IntKind.i64.wrap (Int.tmod x b + b) = Int.tmod x b + b := IntWalk.i64_in _ ⟨by omega, by omega⟩
    have HM := hide (show Int.tmod x b + b = modI x b by unfold modI; rw [if_pos hn])
    clear ht
    go_enter Try.func35, Try.ntmps35
    go_wp2
    go_ret
    exact ⟨ret_int HM.out, rfl⟩
  · have HM := hide (show Int.tmod x b = modI x b by unfold modI; rw [if_neg hn])
    clear ht
    go_enter Try.func35, Try.ntmps35
    go_wp2
    go_ret
    exact ⟨ret_int HM.out, rfl⟩
theorem refMod_g (x b : Int) (hb : 1 ≤ b) (hB : b ≤ 9223372036854775807) (w : World) :
    Calls Try.prog 35 #[.int .i64 x, .int .i64 b] w fun e w' => e = .returned (.int .i64 (modI x b)) ∧ Grow w w' := (refMod_any x b hb hB w).mono fun e w' ⟨h, k⟩ => ⟨h, by rw [k]; exact Grow.rfl' _⟩
theorem refRoute_at (k m : Int) (hB : m ≤ 9223372036854775807) {z : Int} (hz : routeI k m = z) (w : World) :
    Calls Try.prog 26 #[.int .i64 k, .int .i64 m] w fun e w' => e = .returned (.int .i64 z) ∧ w' = w := by
  subst hz
  unfold routeI
  by_cases h : m < 1
  · rw [if_pos h]
    go_enter Try.func26, Try.ntmps26
    go_wp2_with fail
    go_ret
    exact ⟨rfl, rfl⟩
  · rw [if_neg h]
    have C := hide (refMod_any k m (by omega) hB w)
    go_enter Try.func26, Try.ntmps26
    go_wp2_with fail
    refine (C.out).mono ?_
    rintro e w1 ⟨rfl, rfl⟩
    go_wp2_with fail
    go_ret
    exact ⟨rfl, rfl⟩

set_option maxHeartbeats 1000000 in
theorem refMap_no (a b : Int) (r : Rc) (hm : mayMapB a b = false) (w : World) :
    Calls Try.prog 18 #[.int .i64 a, .int .i64 b, .agg #[.int .i64 r.k, .int .i64 r.v]] w fun e w' => e = .returned (.agg #[.int .i64 r.k, .int .i64 r.v]) ∧ Grow w w' := by
  have C := hide (refMayMap_at a b hm ((w.alloc (.cells #[.int .i64 r.k, .int .i64 r.v] 23)).alloc (.cells #[.int .i64 0, .int .i64 0] 23)))
  clear hm
  go_enter Try.func18, Try.ntmps18
  go_wp2_with fail
  refine (C.out).mono ?_
  rintro e w1 ⟨rfl, rfl⟩
  go_wp2_with fail
  refine bodyPost_ret (v := .agg #[.int .i64 r.k, .int .i64 r.v]) (by simp [results, Try.results18, go_sem]) rfl ⟨rfl, ?_⟩
  exact Grow.trans' (Grow.alloc' _ _) (Grow.alloc' _ _)
set_option maxHeartbeats 1000000 in
theorem refMap_4 (b : Int) (r : Rc) (hm : mayMapB 4 b = true) (w : World) :
    Calls Try.prog 18 #[.int .i64 4, .int .i64 b, .agg #[.int .i64 r.k, .int .i64 r.v]] w fun e w' => e = .returned (.agg #[.int .i64 (⟨r.v, r.k⟩ : Rc).k, .int .i64 (⟨r.v, r.k⟩ : Rc).v]) ∧ Grow w w' := by
  have C := hide (refMayMap_at 4 b hm ((w.alloc (.cells #[.int .i64 r.k, .int .i64 r.v] 23)).alloc (.cells #[.int .i64 0, .int .i64 0] 23)))
  clear hm
  go_enter Try.func18, Try.ntmps18
  go_wp2_with fail
  refine (C.out).mono ?_
  rintro e w1 ⟨rfl, rfl⟩
  go_wp2_with fail
  refine bodyPost_ret (v := .agg #[.int .i64 (⟨r.v, r.k⟩ : Rc).k, .int .i64 (⟨r.v, r.k⟩ : Rc).v]) (by simp [results, Try.results18, go_sem]) rfl ⟨rfl, ?_⟩
  exact Grow.trans' (Grow.alloc' _ _) (Grow.alloc' _ _)
set_option maxHeartbeats 1000000 in
theorem refMap_5 (b : Int) (r : Rc) (hm : mayMapB 5 b = true) (w : World) :
    Calls Try.prog 18 #[.int .i64 5, .int .i64 b, .agg #[.int .i64 r.k, .int .i64 r.v]] w fun e w' => e = .returned (.agg #[.int .i64 (⟨r.k, b⟩ : Rc).k, .int .i64 (⟨r.k, b⟩ : Rc).v]) ∧ Grow w w' := by
  have C := hide (refMayMap_at 5 b hm ((w.alloc (.cells #[.int .i64 r.k, .int .i64 r.v] 23)).alloc (.cells #[.int .i64 0, .int .i64 0] 23)))
  clear hm
  go_enter Try.func18, Try.ntmps18
  go_wp2_with fail
  refine (C.out).mono ?_
  rintro e w1 ⟨rfl, rfl⟩
  go_wp2_with fail
  refine bodyPost_ret (v := .agg #[.int .i64 (⟨r.k, b⟩ : Rc).k, .int .i64 (⟨r.k, b⟩ : Rc).v]) (by simp [results, Try.results18, go_sem]) rfl ⟨rfl, ?_⟩
  exact Grow.trans' (Grow.alloc' _ _) (Grow.alloc' _ _)
set_option maxHeartbeats 1000000 in
theorem refMap_1 (b : Int) (r : Rc) (hm : mayMapB 1 b = true) (hw : IntKind.i64.wrap (r.v + b) = r.v + b) (w : World) :
    Calls Try.prog 18 #[.int .i64 1, .int .i64 b, .agg #[.int .i64 r.k, .int .i64 r.v]] w fun e w' => e = .returned (.agg #[.int .i64 (⟨r.k, heldI (r.v + b)⟩ : Rc).k, .int .i64 (⟨r.k, heldI (r.v + b)⟩ : Rc).v]) ∧ Grow w w' := by
  have KX : Hid (Box ((w.alloc (.cells #[.int .i64 r.k, .int .i64 r.v] 23)).alloc (.cells #[.int .i64 0, .int .i64 0] 23)) w.heap.size r) := hide ((Box.new _ _).later (Grow.alloc' _ _))
  have G0 : Hid (Grow w ((w.alloc (.cells #[.int .i64 r.k, .int .i64 r.v] 23)).alloc (.cells #[.int .i64 0, .int .i64 0] 23))) := hide (Grow.trans' (Grow.alloc' _ _) (Grow.alloc' _ _))
  have hz : (w.alloc (.cells #[.int .i64 r.k, .int .i64 r.v] 23)).heap.size = w.heap.size + 1 := by simp
  have KR : Hid (Blk ((w.alloc (.cells #[.int .i64 r.k, .int .i64 r.v] 23)).alloc (.cells #[.int .i64 0, .int .i64 0] 23)) (w.heap.size + 1)) := hide (by rw [← hz]; exact Blk.new _ _ _)
  have C := hide (refMayMap_at 1 b hm ((w.alloc (.cells #[.int .i64 r.k, .int .i64 r.v] 23)).alloc (.cells #[.int .i64 0, .int .i64 0] 23)))
  clear hm hz
  go_enter Try.func18, Try.ntmps18
  go_wp2_with fail
  refine (C.out).mono ?_
  rintro e w1 ⟨rfl, rfl⟩
  go_wp2_with fail
  generalize (w.alloc (.cells #[.int .i64 r.k, .int .i64 r.v] 23)).alloc (.cells #[.int .i64 0, .int .i64 0] 23) = w0 at *
  refine wp_region_end (fun i vF wF => match i with | 0 => vF = .pointer (some ⟨w.heap.size, 0, none⟩) | 1 => vF = .int .i64 r.k | 2 => vF = .pointer (some ⟨w.heap.size, 1, none⟩) | 3 => vF = .int .i64 r.v | 4 => vF = .int .i64 b | 5 => vF = .int .i64 (r.v + b) | 6 => vF = .int .i64 (heldI (r.v + b)) | 7 => vF = .agg #[.int .i64 (⟨r.k, heldI (r.v + b)⟩ : Rc).k, .int .i64 (⟨r.k, heldI (r.v + b)⟩ : Rc).v] | _ => True) 8 _ rfl rfl rfl (by kernel_rfl) (by kernel_rfl) ?_ ?_ ?_
  · intro k v w1 w2 hg h
    match k with
    | 0 => exact h
    | 1 => exact h
    | 2 => exact h
    | 3 => exact h
    | 4 => exact h
    | 5 => exact h
    | 6 => exact h
    | 7 => exact h
    | k + 8 => exact trivial
  · refine ⟨?_, ?_, ?_, ?_, ?_, ?_, ?_, ?_, trivial⟩
    · refine stepOne_run trivial ?_
      intro a' w' hg hs hd
      have e5 : a'.eval (.tmp 5) = .pointer (some ⟨w.heap.size, 0, none⟩) := hs.rest 5 rfl
      have ec : ∀ v, a'.eval (.const v) = v := fun _ => rfl
      have ef : ∀ g, a'.eval (.func g) = .func (.func g) #[] #[] := fun _ => rfl
      clear hd hs
      refine wpv (v := .pointer (some ⟨w.heap.size, 0, none⟩)) ?_ ⟨_, rfl, Grow.rfl' _, rfl⟩
      (generalize a'.eval = ev at ec ef e5 ⊢; simp [execOp, go_sem, *])
    · refine stepOne_run trivial ?_
      intro a' w' hg hs hd
      have e17 : a'.eval (.tmp 17) = .pointer (some ⟨w.heap.size, 0, none⟩) := hd ⟨0, Ground.data⟩ (by simp) rfl
      have ec : ∀ v, a'.eval (.const v) = v := fun _ => rfl
      have ef : ∀ g, a'.eval (.func g) = .func (.func g) #[] #[] := fun _ => rfl
      obtain ⟨x0, x1⟩ := KX.out.later hg
      clear hd hs
      refine wpv (v := .int .i64 r.k) ?_ ⟨_, rfl, Grow.rfl' _, rfl⟩
      (generalize a'.eval = ev at ec ef e17 ⊢; simp [execOp, go_sem, *])
    · refine stepOne_run trivial ?_
      intro a' w' hg hs hd
      have e5 : a'.eval (.tmp 5) = .pointer (some ⟨w.heap.size, 0, none⟩) := hs.rest 5 rfl
      have ec : ∀ v, a'.eval (.const v) = v := fun _ => rfl
      have ef : ∀ g, a'.eval (.func g) = .func (.func g) #[] #[] := fun _ => rfl
      clear hd hs
      refine wpv (v := .pointer (some ⟨w.heap.size, 1, none⟩)) ?_ ⟨_, rfl, Grow.rfl' _, rfl⟩
      (generalize a'.eval = ev at ec ef e5 ⊢; simp [execOp, go_sem, *])
    · refine stepOne_run trivial ?_
      intro a' w' hg hs hd
      have e19 : a'.eval (.tmp 19) = .pointer (some ⟨w.heap.size, 1, none⟩) := hd ⟨2, Ground.data⟩ (by simp) rfl
      have ec : ∀ v, a'.eval (.const v) = v := fun _ => rfl
      have ef : ∀ g, a'.eval (.func g) = .func (.func g) #[] #[] := fun _ => rfl
      obtain ⟨x0, x1⟩ := KX.out.later hg
      clear hd hs
      refine wpv (v := .int .i64 r.v) ?_ ⟨_, rfl, Grow.rfl' _, rfl⟩
      (generalize a'.eval = ev at ec ef e19 ⊢; simp [execOp, go_sem, *])
    · refine stepOne_run trivial ?_
      intro a' w' hg hs hd
      have e1 : a'.eval (.tmp 1) = .int .i64 b := hs.rest 1 rfl
      have ec : ∀ v, a'.eval (.const v) = v := fun _ => rfl
      have ef : ∀ g, a'.eval (.func g) = .func (.func g) #[] #[] := fun _ => rfl
      clear hd hs
      refine wpv (v := .int .i64 b) ?_ ⟨_, rfl, Grow.rfl' _, rfl⟩
      (generalize a'.eval = ev at ec ef e1 ⊢; simp [execOp, go_sem, *])
    · refine stepOne_run trivial ?_
      intro a' w' hg hs hd
      have e20 : a'.eval (.tmp 20) = .int .i64 r.v := hd ⟨3, Ground.data⟩ (by simp) rfl
      have e21 : a'.eval (.tmp 21) = .int .i64 b := hd ⟨4, Ground.data⟩ (by simp) rfl
      have ec : ∀ v, a'.eval (.const v) = v := fun _ => rfl
      have ef : ∀ g, a'.eval (.func g) = .func (.func g) #[] #[] := fun _ => rfl
      clear hd hs
      refine wpv (v := .int .i64 (r.v + b)) ?_ ⟨_, rfl, Grow.rfl' _, rfl⟩
      (generalize a'.eval = ev at ec ef e20 e21 ⊢; simp [execOp, go_sem, *])
    · refine stepOne_run trivial ?_
      intro a' w' hg hs hd
      have e22 : a'.eval (.tmp 22) = .int .i64 (r.v + b) := hd ⟨5, Ground.data⟩ (by simp) rfl
      have ec : ∀ v, a'.eval (.const v) = v := fun _ => rfl
      have ef : ∀ g, a'.eval (.func g) = .func (.func g) #[] #[] := fun _ => rfl
      clear hd hs
      refine wpc ?_ (Calls.mono (refHeld_g (r.v + b) _) fun e w2 ⟨he, hb⟩ => ⟨_, he, _, rfl, hb, rfl⟩)
      (generalize a'.eval = ev at ec ef e22 ⊢; simp [execOp, go_sem, *])
    · refine stepOne_run trivial ?_
      intro a' w' hg hs hd
      have e18 : a'.eval (.tmp 18) = .int .i64 r.k := hd ⟨1, Ground.data⟩ (by simp) rfl
      have e23 : a'.eval (.tmp 23) = .int .i64 (heldI (r.v + b)) := hd ⟨6, Ground.data⟩ (by simp) rfl
      have ec : ∀ v, a'.eval (.const v) = v := fun _ => rfl
      have ef : ∀ g, a'.eval (.func g) = .func (.func g) #[] #[] := fun _ => rfl
      clear hd hs
      refine wpv (v := .agg #[.int .i64 (⟨r.k, heldI (r.v + b)⟩ : Rc).k, .int .i64 (⟨r.k, heldI (r.v + b)⟩ : Rc).v]) ?_ ⟨_, rfl, Grow.rfl' _, rfl⟩
      (generalize a'.eval = ev at ec ef e18 e23 ⊢; simp [execOp, go_sem, *])
  · intro a' w' hg hs hd
    have e6 : a'.eval (.tmp 6) = .pointer (some ⟨w.heap.size + 1, 0, none⟩) := hs.rest 6 rfl
    have e24 : a'.eval (.tmp 24) = .agg #[.int .i64 (⟨r.k, heldI (r.v + b)⟩ : Rc).k, .int .i64 (⟨r.k, heldI (r.v + b)⟩ : Rc).v] := hd 7 (by omega)
    have ec : ∀ v, a'.eval (.const v) = v := fun _ => rfl
    have ef : ∀ g, a'.eval (.func g) = .func (.func g) #[] #[] := fun _ => rfl
    refine wp_store_rec _ _ rfl (t := ⟨r.k, heldI (r.v + b)⟩) e6 e24 (KR.out.later hg) ?_
    go_wp2_with fail
    have HB := (KR.out.later hg).box ⟨r.k, heldI (r.v + b)⟩
    dsimp only at HB
    have HR := results_rec (fn := Try.f18) (i := 6) rfl a'.tmps _ e6 HB
    exact bodyPost_ret HR hs.defers ⟨rfl, below_setRow (Grow.trans' G0.out hg) (Nat.le_succ _) _⟩
set_option maxHeartbeats 1000000 in
theorem refMap_2 (b : Int) (r : Rc) (hm : mayMapB 2 b = true) (hw : IntKind.i64.wrap (r.v * b) = r.v * b) (w : World) :
    Calls Try.prog 18 #[.int .i64 2, .int .i64 b, .agg #[.int .i64 r.k, .int .i64 r.v]] w fun e w' => e = .returned (.agg #[.int .i64 (⟨r.k, heldI (r.v * b)⟩ : Rc).k, .int .i64 (⟨r.k, heldI (r.v * b)⟩ : Rc).v]) ∧ Grow w w' := by
  have KX : Hid (Box ((w.alloc (.cells #[.int .i64 r.k, .int .i64 r.v] 23)).alloc (.cells #[.int .i64 0, .int .i64 0] 23)) w.heap.size r) := hide ((Box.new _ _).later (Grow.alloc' _ _))
  have G0 : Hid (Grow w ((w.alloc (.cells #[.int .i64 r.k, .int .i64 r.v] 23)).alloc (.cells #[.int .i64 0, .int .i64 0] 23))) := hide (Grow.trans' (Grow.alloc' _ _) (Grow.alloc' _ _))
  have hz : (w.alloc (.cells #[.int .i64 r.k, .int .i64 r.v] 23)).heap.size = w.heap.size + 1 := by simp
  have KR : Hid (Blk ((w.alloc (.cells #[.int .i64 r.k, .int .i64 r.v] 23)).alloc (.cells #[.int .i64 0, .int .i64 0] 23)) (w.heap.size + 1)) := hide (by rw [← hz]; exact Blk.new _ _ _)
  have C := hide (refMayMap_at 2 b hm ((w.alloc (.cells #[.int .i64 r.k, .int .i64 r.v] 23)).alloc (.cells #[.int .i64 0, .int .i64 0] 23)))
  clear hm hz
  go_enter Try.func18, Try.ntmps18
  go_wp2_with fail
  refine (C.out).mono ?_
  rintro e w1 ⟨rfl, rfl⟩
  go_wp2_with fail
  generalize (w.alloc (.cells #[.int .i64 r.k, .int .i64 r.v] 23)).alloc (.cells #[.int .i64 0, .int .i64 0] 23) = w0 at *
  refine wp_region_end (fun i vF wF => match i with | 0 => vF = .pointer (some ⟨w.heap.size, 0, none⟩) | 1 => vF = .int .i64 r.k | 2 => vF = .pointer (some ⟨w.heap.size, 1, none⟩) | 3 => vF = .int .i64 r.v | 4 => vF = .int .i64 b | 5 => vF = .int .i64 (r.v * b) | 6 => vF = .int .i64 (heldI (r.v * b)) | 7 => vF = .agg #[.int .i64 (⟨r.k, heldI (r.v * b)⟩ : Rc).k, .int .i64 (⟨r.k, heldI (r.v * b)⟩ : Rc).v] | _ => True) 8 _ rfl rfl rfl (by kernel_rfl) (by kernel_rfl) ?_ ?_ ?_
  · intro k v w1 w2 hg h
    match k with
    | 0 => exact h
    | 1 => exact h
    | 2 => exact h
    | 3 => exact h
    | 4 => exact h
    | 5 => exact h
    | 6 => exact h
    | 7 => exact h
    | k + 8 => exact trivial
  · refine ⟨?_, ?_, ?_, ?_, ?_, ?_, ?_, ?_, trivial⟩
    · refine stepOne_run trivial ?_
      intro a' w' hg hs hd
      have e5 : a'.eval (.tmp 5) = .pointer (some ⟨w.heap.size, 0, none⟩) := hs.rest 5 rfl
      have ec : ∀ v, a'.eval (.const v) = v := fun _ => rfl
      have ef : ∀ g, a'.eval (.func g) = .func (.func g) #[] #[] := fun _ => rfl
      clear hd hs
      refine wpv (v := .pointer (some ⟨w.heap.size, 0, none⟩)) ?_ ⟨_, rfl, Grow.rfl' _, rfl⟩
      (generalize a'.eval = ev at ec ef e5 ⊢; simp [execOp, go_sem, *])
    · refine stepOne_run trivial ?_
      intro a' w' hg hs hd
      have e27 : a'.eval (.tmp 27) = .pointer (some ⟨w.heap.size, 0, none⟩) := hd ⟨0, Ground.data⟩ (by simp) rfl
      have ec : ∀ v, a'.eval (.const v) = v := fun _ => rfl
      have ef : ∀ g, a'.eval (.func g) = .func (.func g) #[] #[] := fun _ => rfl
      obtain ⟨x0, x1⟩ := KX.out.later hg
      clear hd hs
      refine wpv (v := .int .i64 r.k) ?_ ⟨_, rfl, Grow.rfl' _, rfl⟩
      (generalize a'.eval = ev at ec ef e27 ⊢; simp [execOp, go_sem, *])
    · refine stepOne_run trivial ?_
      intro a' w' hg hs hd
      have e5 : a'.eval (.tmp 5) = .pointer (some ⟨w.heap.size, 0, none⟩) := hs.rest 5 rfl
      have ec : ∀ v, a'.eval (.const v) = v := fun _ => rfl
      have ef : ∀ g, a'.eval (.func g) = .func (.func g) #[] #[] := fun _ => rfl
      clear hd hs
      refine wpv (v := .pointer (some ⟨w.heap.size, 1, none⟩)) ?_ ⟨_, rfl, Grow.rfl' _, rfl⟩
      (generalize a'.eval = ev at ec ef e5 ⊢; simp [execOp, go_sem, *])
    · refine stepOne_run trivial ?_
      intro a' w' hg hs hd
      have e29 : a'.eval (.tmp 29) = .pointer (some ⟨w.heap.size, 1, none⟩) := hd ⟨2, Ground.data⟩ (by simp) rfl
      have ec : ∀ v, a'.eval (.const v) = v := fun _ => rfl
      have ef : ∀ g, a'.eval (.func g) = .func (.func g) #[] #[] := fun _ => rfl
      obtain ⟨x0, x1⟩ := KX.out.later hg
      clear hd hs
      refine wpv (v := .int .i64 r.v) ?_ ⟨_, rfl, Grow.rfl' _, rfl⟩
      (generalize a'.eval = ev at ec ef e29 ⊢; simp [execOp, go_sem, *])
    · refine stepOne_run trivial ?_
      intro a' w' hg hs hd
      have e1 : a'.eval (.tmp 1) = .int .i64 b := hs.rest 1 rfl
      have ec : ∀ v, a'.eval (.const v) = v := fun _ => rfl
      have ef : ∀ g, a'.eval (.func g) = .func (.func g) #[] #[] := fun _ => rfl
      clear hd hs
      refine wpv (v := .int .i64 b) ?_ ⟨_, rfl, Grow.rfl' _, rfl⟩
      (generalize a'.eval = ev at ec ef e1 ⊢; simp [execOp, go_sem, *])
    · refine stepOne_run trivial ?_
      intro a' w' hg hs hd
      have e30 : a'.eval (.tmp 30) = .int .i64 r.v := hd ⟨3, Ground.data⟩ (by simp) rfl
      have e31 : a'.eval (.tmp 31) = .int .i64 b := hd ⟨4, Ground.data⟩ (by simp) rfl
      have ec : ∀ v, a'.eval (.const v) = v := fun _ => rfl
      have ef : ∀ g, a'.eval (.func g) = .func (.func g) #[] #[] := fun _ => rfl
      clear hd hs
      refine wpv (v := .int .i64 (r.v * b)) ?_ ⟨_, rfl, Grow.rfl' _, rfl⟩
      (generalize a'.eval = ev at ec ef e30 e31 ⊢; simp [execOp, go_sem, *])
    · refine stepOne_run trivial ?_
      intro a' w' hg hs hd
      have e32 : a'.eval (.tmp 32) = .int .i64 (r.v * b) := hd ⟨5, Ground.data⟩ (by simp) rfl
      have ec : ∀ v, a'.eval (.const v) = v := fun _ => rfl
      have ef : ∀ g, a'.eval (.func g) = .func (.func g) #[] #[] := fun _ => rfl
      clear hd hs
      refine wpc ?_ (Calls.mono (refHeld_g (r.v * b) _) fun e w2 ⟨he, hb⟩ => ⟨_, he, _, rfl, hb, rfl⟩)
      (generalize a'.eval = ev at ec ef e32 ⊢; simp [execOp, go_sem, *])
    · refine stepOne_run trivial ?_
      intro a' w' hg hs hd
      have e28 : a'.eval (.tmp 28) = .int .i64 r.k := hd ⟨1, Ground.data⟩ (by simp) rfl
      have e33 : a'.eval (.tmp 33) = .int .i64 (heldI (r.v * b)) := hd ⟨6, Ground.data⟩ (by simp) rfl
      have ec : ∀ v, a'.eval (.const v) = v := fun _ => rfl
      have ef : ∀ g, a'.eval (.func g) = .func (.func g) #[] #[] := fun _ => rfl
      clear hd hs
      refine wpv (v := .agg #[.int .i64 (⟨r.k, heldI (r.v * b)⟩ : Rc).k, .int .i64 (⟨r.k, heldI (r.v * b)⟩ : Rc).v]) ?_ ⟨_, rfl, Grow.rfl' _, rfl⟩
      (generalize a'.eval = ev at ec ef e28 e33 ⊢; simp [execOp, go_sem, *])
  · intro a' w' hg hs hd
    have e6 : a'.eval (.tmp 6) = .pointer (some ⟨w.heap.size + 1, 0, none⟩) := hs.rest 6 rfl
    have e34 : a'.eval (.tmp 34) = .agg #[.int .i64 (⟨r.k, heldI (r.v * b)⟩ : Rc).k, .int .i64 (⟨r.k, heldI (r.v * b)⟩ : Rc).v] := hd 7 (by omega)
    have ec : ∀ v, a'.eval (.const v) = v := fun _ => rfl
    have ef : ∀ g, a'.eval (.func g) = .func (.func g) #[] #[] := fun _ => rfl
    refine wp_store_rec _ _ rfl (t := ⟨r.k, heldI (r.v * b)⟩) e6 e34 (KR.out.later hg) ?_
    go_wp2_with fail
    have HB := (KR.out.later hg).box ⟨r.k, heldI (r.v * b)⟩
    dsimp only at HB
    have HR := results_rec (fn := Try.f18) (i := 6) rfl a'.tmps _ e6 HB
    exact bodyPost_ret HR hs.defers ⟨rfl, below_setRow (Grow.trans' G0.out hg) (Nat.le_succ _) _⟩
set_option maxHeartbeats 1000000 in
theorem refMap_3 (b : Int) (r : Rc) (hm : mayMapB 3 b = true) (hb : 1 ≤ b) (hB : b ≤ 1000) (w : World) :
    Calls Try.prog 18 #[.int .i64 3, .int .i64 b, .agg #[.int .i64 r.k, .int .i64 r.v]] w fun e w' => e = .returned (.agg #[.int .i64 (⟨modI r.v b, r.v⟩ : Rc).k, .int .i64 (⟨modI r.v b, r.v⟩ : Rc).v]) ∧ Grow w w' := by
  have KX : Hid (Box ((w.alloc (.cells #[.int .i64 r.k, .int .i64 r.v] 23)).alloc (.cells #[.int .i64 0, .int .i64 0] 23)) w.heap.size r) := hide ((Box.new _ _).later (Grow.alloc' _ _))
  have G0 : Hid (Grow w ((w.alloc (.cells #[.int .i64 r.k, .int .i64 r.v] 23)).alloc (.cells #[.int .i64 0, .int .i64 0] 23))) := hide (Grow.trans' (Grow.alloc' _ _) (Grow.alloc' _ _))
  have hz : (w.alloc (.cells #[.int .i64 r.k, .int .i64 r.v] 23)).heap.size = w.heap.size + 1 := by simp
  have KR : Hid (Blk ((w.alloc (.cells #[.int .i64 r.k, .int .i64 r.v] 23)).alloc (.cells #[.int .i64 0, .int .i64 0] 23)) (w.heap.size + 1)) := hide (by rw [← hz]; exact Blk.new _ _ _)
  have C := hide (refMayMap_at 3 b hm ((w.alloc (.cells #[.int .i64 r.k, .int .i64 r.v] 23)).alloc (.cells #[.int .i64 0, .int .i64 0] 23)))
  clear hm hz
  go_enter Try.func18, Try.ntmps18
  go_wp2_with fail
  refine (C.out).mono ?_
  rintro e w1 ⟨rfl, rfl⟩
  go_wp2_with fail
  generalize (w.alloc (.cells #[.int .i64 r.k, .int .i64 r.v] 23)).alloc (.cells #[.int .i64 0, .int .i64 0] 23) = w0 at *
  refine wp_region_end (fun i vF wF => match i with | 0 => vF = .pointer (some ⟨w.heap.size, 1, none⟩) | 1 => vF = .int .i64 r.v | 2 => vF = .int .i64 b | 3 => vF = .int .i64 (modI r.v b) | 4 => vF = .pointer (some ⟨w.heap.size, 1, none⟩) | 5 => vF = .int .i64 r.v | 6 => vF = .agg #[.int .i64 (⟨modI r.v b, r.v⟩ : Rc).k, .int .i64 (⟨modI r.v b, r.v⟩ : Rc).v] | _ => True) 7 _ rfl rfl rfl (by kernel_rfl) (by kernel_rfl) ?_ ?_ ?_
  · intro k v w1 w2 hg h
    match k with
    | 0 => exact h
    | 1 => exact h
    | 2 => exact h
    | 3 => exact h
    | 4 => exact h
    | 5 => exact h
    | 6 => exact h
    | k + 7 => exact trivial
  · refine ⟨?_, ?_, ?_, ?_, ?_, ?_, ?_, trivial⟩
    · refine stepOne_run trivial ?_
      intro a' w' hg hs hd
      have e5 : a'.eval (.tmp 5) = .pointer (some ⟨w.heap.size, 0, none⟩) := hs.rest 5 rfl
      have ec : ∀ v, a'.eval (.const v) = v := fun _ => rfl
      have ef : ∀ g, a'.eval (.func g) = .func (.func g) #[] #[] := fun _ => rfl
      clear hd hs
      refine wpv (v := .pointer (some ⟨w.heap.size, 1, none⟩)) ?_ ⟨_, rfl, Grow.rfl' _, rfl⟩
      (generalize a'.eval = ev at ec ef e5 ⊢; simp [execOp, go_sem, *])
    · refine stepOne_run trivial ?_
      intro a' w' hg hs hd
      have e37 : a'.eval (.tmp 37) = .pointer (some ⟨w.heap.size, 1, none⟩) := hd ⟨0, Ground.data⟩ (by simp) rfl
      have ec : ∀ v, a'.eval (.const v) = v := fun _ => rfl
      have ef : ∀ g, a'.eval (.func g) = .func (.func g) #[] #[] := fun _ => rfl
      obtain ⟨x0, x1⟩ := KX.out.later hg
      clear hd hs
      refine wpv (v := .int .i64 r.v) ?_ ⟨_, rfl, Grow.rfl' _, rfl⟩
      (generalize a'.eval = ev at ec ef e37 ⊢; simp [execOp, go_sem, *])
    · refine stepOne_run trivial ?_
      intro a' w' hg hs hd
      have e1 : a'.eval (.tmp 1) = .int .i64 b := hs.rest 1 rfl
      have ec : ∀ v, a'.eval (.const v) = v := fun _ => rfl
      have ef : ∀ g, a'.eval (.func g) = .func (.func g) #[] #[] := fun _ => rfl
      clear hd hs
      refine wpv (v := .int .i64 b) ?_ ⟨_, rfl, Grow.rfl' _, rfl⟩
      (generalize a'.eval = ev at ec ef e1 ⊢; simp [execOp, go_sem, *])
    · refine stepOne_run trivial ?_
      intro a' w' hg hs hd
      have e38 : a'.eval (.tmp 38) = .int .i64 r.v := hd ⟨1, Ground.data⟩ (by simp) rfl
      have e39 : a'.eval (.tmp 39) = .int .i64 b := hd ⟨2, Ground.data⟩ (by simp) rfl
      have ec : ∀ v, a'.eval (.const v) = v := fun _ => rfl
      have ef : ∀ g, a'.eval (.func g) = .func (.func g) #[] #[] := fun _ => rfl
      clear hd hs
      refine wpc ?_ (Calls.mono (refMod_g r.v b hb (by omega) _) fun e w2 ⟨he, hb⟩ => ⟨_, he, _, rfl, hb, rfl⟩)
      (generalize a'.eval = ev at ec ef e38 e39 ⊢; simp [execOp, go_sem, *])
    · refine stepOne_run trivial ?_
      intro a' w' hg hs hd
      have e5 : a'.eval (.tmp 5) = .pointer (some ⟨w.heap.size, 0, none⟩) := hs.rest 5 rfl
      have ec : ∀ v, a'.eval (.const v) = v := fun _ => rfl
      have ef : ∀ g, a'.eval (.func g) = .func (.func g) #[] #[] := fun _ => rfl
      clear hd hs
      refine wpv (v := .pointer (some ⟨w.heap.size, 1, none⟩)) ?_ ⟨_, rfl, Grow.rfl' _, rfl⟩
      (generalize a'.eval = ev at ec ef e5 ⊢; simp [execOp, go_sem, *])
    · refine stepOne_run trivial ?_
      intro a' w' hg hs hd
      have e41 : a'.eval (.tmp 41) = .pointer (some ⟨w.heap.size, 1, none⟩) := hd ⟨4, Ground.data⟩ (by simp) rfl
      have ec : ∀ v, a'.eval (.const v) = v := fun _ => rfl
      have ef : ∀ g, a'.eval (.func g) = .func (.func g) #[] #[] := fun _ => rfl
      obtain ⟨x0, x1⟩ := KX.out.later hg
      clear hd hs
      refine wpv (v := .int .i64 r.v) ?_ ⟨_, rfl, Grow.rfl' _, rfl⟩
      (generalize a'.eval = ev at ec ef e41 ⊢; simp [execOp, go_sem, *])
    · refine stepOne_run trivial ?_
      intro a' w' hg hs hd
      have e40 : a'.eval (.tmp 40) = .int .i64 (modI r.v b) := hd ⟨3, Ground.data⟩ (by simp) rfl
      have e42 : a'.eval (.tmp 42) = .int .i64 r.v := hd ⟨5, Ground.data⟩ (by simp) rfl
      have ec : ∀ v, a'.eval (.const v) = v := fun _ => rfl
      have ef : ∀ g, a'.eval (.func g) = .func (.func g) #[] #[] := fun _ => rfl
      clear hd hs
      refine wpv (v := .agg #[.int .i64 (⟨modI r.v b, r.v⟩ : Rc).k, .int .i64 (⟨modI r.v b, r.v⟩ : Rc).v]) ?_ ⟨_, rfl, Grow.rfl' _, rfl⟩
      (generalize a'.eval = ev at ec ef e40 e42 ⊢; simp [execOp, go_sem, *])
  · intro a' w' hg hs hd
    have e6 : a'.eval (.tmp 6) = .pointer (some ⟨w.heap.size + 1, 0, none⟩) := hs.rest 6 rfl
    have e43 : a'.eval (.tmp 43) = .agg #[.int .i64 (⟨modI r.v b, r.v⟩ : Rc).k, .int .i64 (⟨modI r.v b, r.v⟩ : Rc).v] := hd 6 (by omega)
    have ec : ∀ v, a'.eval (.const v) = v := fun _ => rfl
    have ef : ∀ g, a'.eval (.func g) = .func (.func g) #[] #[] := fun _ => rfl
    refine wp_store_rec _ _ rfl (t := ⟨modI r.v b, r.v⟩) e6 e43 (KR.out.later hg) ?_
    go_wp2_with fail
    have HB := (KR.out.later hg).box ⟨modI r.v b, r.v⟩
    dsimp only at HB
    have HR := results_rec (fn := Try.f18) (i := 6) rfl a'.tmps _ e6 HB
    exact bodyPost_ret HR hs.defers ⟨rfl, below_setRow (Grow.trans' G0.out hg) (Nat.le_succ _) _⟩
theorem mul_fits {v b : Int} (hv : -1099511627776 ≤ v ∧ v ≤ 1099511627776) (hb1 : -1000 ≤ b) (hb2 : b ≤ 1000) : IntKind.i64.wrap (v * b) = v * b := by
  have e1 : 0 ≤ (1099511627776 - v) * (1000 - b) := Int.mul_nonneg (by omega) (by omega)
  have e2 : 0 ≤ (1099511627776 + v) * (1000 + b) := Int.mul_nonneg (by omega) (by omega)
  have e3 : 0 ≤ (1099511627776 - v) * (1000 + b) := Int.mul_nonneg (by omega) (by omega)
  have e4 : 0 ≤ (1099511627776 + v) * (1000 - b) := Int.mul_nonneg (by omega) (by omega)
  simp only [Int.sub_mul, Int.add_mul, Int.mul_sub, Int.mul_add] at e1 e2 e3 e4
  exact IntWalk.i64_in _ ⟨by omega, by omega⟩
/-- Of a record that may be. -/
theorem refMap_any (a b : Int) (r : Rc) (hr : mayR r = true) (w : World) :
    Calls Try.prog 18 #[.int .i64 a, .int .i64 b, .agg #[.int .i64 r.k, .int .i64 r.v]] w fun e w' => e = .returned (.agg #[.int .i64 (mapR a b r).k, .int .i64 (mapR a b r).v]) ∧ Grow w w' := by
  cases hm : mayMapB a b
  · have : mapR a b r = r := by unfold mapR; rw [if_pos hm]
    rw [this]
    exact refMap_no a b r hm w
  · have hr' := (mayR_iff r).1 hr
    have hm' := hm
    simp only [mayMapB, Bool.and_eq_true, decide_eq_true_eq, Bool.or_eq_true] at hm'
    have h1 : ¬ mayMapB a b = false := by rw [hm]; simp
    have : a = 1 ∨ a = 2 ∨ a = 3 ∨ a = 4 ∨ a = 5 := by omega
    unfold mapR
    rw [if_neg h1]
    rcases this with rfl | rfl | rfl | rfl | rfl
    · exact refMap_1 b r hm (IntWalk.i64_in _ ⟨by omega, by omega⟩) w
    · exact refMap_2 b r hm (mul_fits hr'.2 (by omega) (by omega)) w
    · exact refMap_3 b r hm (by omega) (by omega) w
    · exact refMap_4 b r hm w
    · exact refMap_5 b r hm w
theorem refFil_no (a b : Int) (r : Rc) (hm : mayFilB a b = false) (w : World) :
    Calls Try.prog 20 #[.int .i64 a, .int .i64 b, .agg #[.int .i64 r.k, .int .i64 r.v]] w fun e w' => e = .returned (.bool false) ∧ Grow w w' := by
  have C := hide (refMayFil_at a b hm (w.alloc (.cells #[.int .i64 r.k, .int .i64 r.v] 23)))
  clear hm
  go_enter Try.func20, Try.ntmps20
  go_wp2_with fail
  refine (C.out).mono ?_
  rintro e w1 ⟨rfl, rfl⟩
  go_wp2_with fail
  go_ret
  exact ⟨rfl, Grow.alloc' _ _⟩
theorem refFil_1 (b : Int) (r : Rc) (hm : mayFilB 1 b = true) {p : Bool} (hp : (decide (r.v < b)) = p) (w : World) :
    Calls Try.prog 20 #[.int .i64 1, .int .i64 b, .agg #[.int .i64 r.k, .int .i64 r.v]] w fun e w' => e = .returned (.bool p) ∧ Grow w w' := by
  subst hp
  have C := hide (refMayFil_at 1 b hm (w.alloc (.cells #[.int .i64 r.k, .int .i64 r.v] 23)))
  clear hm
  go_enter Try.func20, Try.ntmps20
  go_wp2_with fail
  refine (C.out).mono ?_
  rintro e w1 ⟨rfl, rfl⟩
  go_wp2_with fail
  go_ret
  exact ⟨ret_bool (by simp), Grow.alloc' _ _⟩
theorem refFil_2 (b : Int) (r : Rc) (hm : mayFilB 2 b = true) {p : Bool} (hp : (decide (b ≤ r.v)) = p) (w : World) :
    Calls Try.prog 20 #[.int .i64 2, .int .i64 b, .agg #[.int .i64 r.k, .int .i64 r.v]] w fun e w' => e = .returned (.bool p) ∧ Grow w w' := by
  subst hp
  have C := hide (refMayFil_at 2 b hm (w.alloc (.cells #[.int .i64 r.k, .int .i64 r.v] 23)))
  clear hm
  go_enter Try.func20, Try.ntmps20
  go_wp2_with fail
  refine (C.out).mono ?_
  rintro e w1 ⟨rfl, rfl⟩
  go_wp2_with fail
  go_ret
  exact ⟨ret_bool (by simp), Grow.alloc' _ _⟩
theorem refFil_4 (b : Int) (r : Rc) (hm : mayFilB 4 b = true) {p : Bool} (hp : (true) = p) (w : World) :
    Calls Try.prog 20 #[.int .i64 4, .int .i64 b, .agg #[.int .i64 r.k, .int .i64 r.v]] w fun e w' => e = .returned (.bool p) ∧ Grow w w' := by
  subst hp
  have C := hide (refMayFil_at 4 b hm (w.alloc (.cells #[.int .i64 r.k, .int .i64 r.v] 23)))
  clear hm
  go_enter Try.func20, Try.ntmps20
  go_wp2_with fail
  refine (C.out).mono ?_
  rintro e w1 ⟨rfl, rfl⟩
  go_wp2_with fail
  go_ret
  exact ⟨ret_bool (by simp), Grow.alloc' _ _⟩
theorem refFil_3 (b : Int) (r : Rc) (hm : mayFilB 3 b = true) (hb : 1 ≤ b) (hB : b ≤ 1000) {p : Bool} (hp : decide (modI r.k b = 0) = p) (w : World) :
    Calls Try.prog 20 #[.int .i64 3, .int .i64 b, .agg #[.int .i64 r.k, .int .i64 r.v]] w fun e w' => e = .returned (.bool p) ∧ Grow w w' := by
  subst hp
  have C := hide (refMayFil_at 3 b hm (w.alloc (.cells #[.int .i64 r.k, .int .i64 r.v] 23)))
  have C2 := hide (refMod_any r.k b hb (by omega) (w.alloc (.cells #[.int .i64 r.k, .int .i64 r.v] 23)))
  obtain ⟨z, hz⟩ : ∃ z, modI r.k b = z := ⟨_, rfl⟩
  rw [hz] at C2
  rw [hz]
  clear hm hb hB hz
  go_enter Try.func20, Try.ntmps20
  go_wp2_with fail
  refine (C.out).mono ?_
  rintro e w1 ⟨rfl, rfl⟩
  go_wp2_with fail
  refine (C2.out).mono ?_
  rintro e w1 ⟨rfl, rfl⟩
  go_wp2_with fail
  go_ret
  exact ⟨ret_bool (by simp), Grow.alloc' _ _⟩
theorem refFil_any (a b : Int) (r : Rc) {p : Bool} (hp : filR a b r = p) (w : World) :
    Calls Try.prog 20 #[.int .i64 a, .int .i64 b, .agg #[.int .i64 r.k, .int .i64 r.v]] w fun e w' => e = .returned (.bool p) ∧ Grow w w' := by
  cases hm : mayFilB a b
  · have : p = false := by rw [← hp]; simp [filR, hm]
    rw [this]
    exact refFil_no a b r hm w
  · have hm' := hm
    simp only [mayFilB, Bool.and_eq_true, decide_eq_true_eq, Bool.or_eq_true] at hm'
    have : a = 1 ∨ a = 2 ∨ a = 3 ∨ a = 4 := by omega
    rcases this with rfl | rfl | rfl | rfl
    · exact refFil_1 b r hm (by simpa [filR, hm] using hp) w
    · exact refFil_2 b r hm (by simpa [filR, hm] using hp) w
    · exact refFil_3 b r hm (by omega) (by omega) (by simpa [filR, hm] using hp) w
    · exact refFil_4 b r hm (by simpa [filR, hm] using hp) w

end Go.Proofs.Ythkkjhjbojbbaaa
