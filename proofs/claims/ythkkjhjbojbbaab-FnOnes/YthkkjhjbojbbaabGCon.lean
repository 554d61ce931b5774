/-
  What May, Order and numberMay of bag and of the document do to the world: for every record each returns its plain answer, and what was there stays as it was; what Go's == says of two records.
-/
import Derived.Test.YthkkjhjbojbbaabGRow
import Derived.Sort.Grow
namespace Go.Proofs.Ythkkjhjbojbbaab
set_option maxRecDepth 100000
open Go.RowKit Go.Sort
set_option linter.unusedVariables false

def eqR (a b : Rc) : Bool := a.k == b.k && a.v == b.v
theorem eqR_iff (a b : Rc) : eqR a b = true ↔ a = b := by
  cases a; cases b
  simp [eqR]
theorem eqRc (a b : Rc) (w : World) : (Op.equalIn 10000 26 (.agg #[.int .i64 a.k, .int .i64 a.v]) (.agg #[.int .i64 b.k, .int .i64 b.v])).run Try.prog w = .ok (eqR a b) w := by
  have u3 := Try.underlying3
  have a3 := Try.isAgg3
  have z3 := Try.sizeOf3
  have hS : Try.prog.underlying 26 = some (.struct (Try.prog.fieldsOf 26)) := by kernel_rfl
  rw [show (10000 : Nat) = 9999 + 1 from rfl, run_equalIn_agg w 9999 26 _ _ hS (by kernel_rfl)]
  simp only [Program.fieldsOf, Try.underlying26]
  go_simp
  unfold eqR
  by_cases h1 : a.k = b.k <;> by_cases h2 : a.v = b.v <;> simp [h1, h2]
attribute [local go_sem ↓] eqRc

def GrowD (w w' : World) : Prop := ∃ q os, w' = grow (w.drewN q) os
theorem GrowD.rfl' (w : World) : GrowD w w := ⟨0, #[], by simp [World.drewN]⟩
theorem GrowD.drewN' {w w' : World} (h : GrowD w w') (n : Nat) : GrowD w (w'.drewN n) := by
  obtain ⟨q, os, rfl⟩ := h
  exact ⟨q + n, os, by rw [← World.drewN_drewN]; rfl⟩
theorem GrowD.alloc' {w w' : World} (h : GrowD w w') (o : Obj) : GrowD w (w'.alloc o) := by
  obtain ⟨q, os, rfl⟩ := h
  exact ⟨q, os ++ #[o], by rw [alloc_eq_grow, grow_grow]⟩
set_option maxHeartbeats 400000 in
theorem compare_any (a b : Int) (w : World) :
    Calls Try.prog 34 #[.int .i64 a, .int .i64 b] w fun e w' => e = .returned (.int .i64 (cmpI a b)) ∧ w' = w := by
  go_enter Try.func34, Try.ntmps34
  go_wp2
  all_goals go_ret
  all_goals exact ⟨ret_int (by unfold cmpI; repeat (first | rfl | (rw [if_pos (by omega)]) | (rw [if_neg (by omega)]))), rfl⟩
set_option maxHeartbeats 1000000 in
theorem order_grow (a b : Rc) (w : World) :
    Calls Try.prog 24 #[.agg #[.int .i64 a.k, .int .i64 a.v], .agg #[.int .i64 b.k, .int .i64 b.v]] w fun e w' => e = .returned (.int .i64 (ordR a b)) ∧ GrowD w w' := by
  obtain ⟨ak, av⟩ := a
  obtain ⟨bk, bv⟩ := b
  dsimp only
  go_enter Try.func24, Try.ntmps24
  go_wp2_with (go_at_call 34; refine (compare_any _ _ _).mono ?_; rintro e w' ⟨rfl, rfl⟩)
  all_goals go_ret
  all_goals refine ⟨ret_int ?_, ?_⟩
  all_goals simp at *
  all_goals first | (simp [ordR, *]; done) | (repeat (first | exact GrowD.rfl' _ | refine GrowD.drewN' ?_ _ | refine GrowD.alloc' ?_ _))
theorem GrowD.grow {w w' : World} (h : GrowD w w') : Grow w w' := by
  obtain ⟨q, os, rfl⟩ := h
  refine ⟨rfl, rfl, rfl, by simp [Sort.grow, World.drewN], fun k hk => ?_⟩
  simp only [Sort.grow]
  rw [Array.getElem?_append_left (by simpa [World.drewN] using hk)]
  rfl
theorem order_any (a b : Rc) (w : World) :
    Calls Try.prog 24 #[.agg #[.int .i64 a.k, .int .i64 a.v], .agg #[.int .i64 b.k, .int .i64 b.v]] w fun e w' => e = .returned (.int .i64 (ordR a b)) ∧ Grow w w' :=
  (order_grow a b w).mono fun e w' ⟨h, g⟩ => ⟨h, g.grow⟩

set_option maxHeartbeats 1000000 in
theorem refMay_any (r : Rc) (w : World) :
    Calls Try.prog 13 #[.agg #[.int .i64 r.k, .int .i64 r.v]] w fun e w' => e = .returned (.bool (mayR r)) ∧ Grow w w' := by
  obtain ⟨k, v⟩ := r
  dsimp only
  go_enter Try.func13, Try.ntmps13
  go_wp2
  all_goals go_ret
  all_goals exact ⟨ret_bool (by simp [mayR, inB]; try omega), Grow.alloc' _ _⟩

end Go.Proofs.Ythkkjhjbojbbaab
