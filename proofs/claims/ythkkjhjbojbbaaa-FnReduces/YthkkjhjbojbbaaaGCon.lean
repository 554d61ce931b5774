/-
  What May, Order and numberMay of bag and of the document do to the world: for every record each returns its plain answer, and what was there stays as it was; what Go's == says of two records.
-/
import Derived.Test.YthkkjhjbojbbaaaGRow
import Derived.Sort.Grow
namespace Go.Proofs.Ythkkjhjbojbbaaa
set_option maxRecDepth 100000
open Go.RowKit Go.Sort
set_option linter.unusedVariables false

def eqR (a b : Rc) : Bool := a.k == b.k && a.v == b.v
theorem eqR_iff (a b : Rc) : eqR a b = true ↔ a = b := by
  cases a; cases b
  simp [eqR]
theorem eqRc (a b : Rc) (w : World) : (Op.equalIn 10000 23 (.agg #[.int .i64 a.k, .int .i64 a.v]) (.agg #[.int .i64 b.k, .int .i64 b.v])).run Try.prog w = .ok (eqR a b) w := by
  have u3 := Try.underlying3
  have a3 := Try.isAgg3
  have z3 := Try.sizeOf3
  have hS : Try.prog.underlying 23 = some (.struct (Try.prog.fieldsOf 23)) := by kernel_rfl
  rw [show (10000 : Nat) = 9999 + 1 from rfl, run_equalIn_agg w 9999 23 _ _ hS (by kernel_rfl)]
  simp only [Program.fieldsOf, Try.underlying23]
  go_simp
  unfold eqR
  by_cases h1 : a.k = b.k <;> by_cases h2 : a.v = b.v <;> simp [h1, h2]
attribute [local go_sem ↓] eqRc

def GrowD (w w' : World) : Prop := ∃ q os, w' = grow (w.drewN q) os
theorem GrowD.rfl' (w : World) : GrowD w w := ⟨0, #[], by simp [World.drewN]⟩
theorem GrowD.drewN' {w w' : World} (h : GrowD w w') (n : Nat) : GrowD w (w'.drewN n) := by
  obtain ⟨q, os, rfl⟩ := h
  exact ⟨q + n, os, by rw [← World.drewN_drewN]; rfl⟩
theorem GrowD.alloc' {w w' : World} (h : GrowD w w') (o : Obj) : GrowD w (w'.alloc o) := by
  obtain ⟨q, os, rfl⟩ := h
  exact ⟨q, os ++ #[o], by rw [alloc_eq_grow, grow_grow]⟩
set_option maxHeartbeats 400000 in
theorem compare_any (a b : Int) (w : World) :
    Calls Try.prog 61 #[.int .i64 a, .int .i64 b] w fun e w' => e = .returned (.int .i64 (cmpI a b)) ∧ w' = w := by
  go_enter Try.func61, Try.ntmps61
  go_wp2
  all_goals go_ret
  all_goals exact ⟨ret_int (by unfold cmpI; repeat (first | rfl | (rw [if_pos (by omega)]) | (rw [if_neg (by omega)]))), rfl⟩
set_option maxHeartbeats 1000000 in
theorem order_grow (a b : Rc) (w : World) :
    Calls Try.prog 57 #[.agg #[.int .i64 a.k, .int .i64 a.v], .agg #[.int .i64 b.k, .int .i64 b.v]] w fun e w' => e = .returned (.int .i64 (ordR a b)) ∧ GrowD w w' := by
  obtain ⟨ak, av⟩ := a
  obtain ⟨bk, bv⟩ := b
  dsimp only
  go_enter Try.func57, Try.ntmps57
  go_wp2_with (go_at_call 61; refine (compare_any _ _ _).mono ?_; rintro e w' ⟨rfl, rfl⟩)
  all_goals go_ret
  all_goals refine ⟨ret_int ?_, ?_⟩
  all_goals simp at *
  all_goals first | (simp [ordR, *]; done) | (repeat (first | exact GrowD.rfl' _ | refine GrowD.drewN' ?_ _ | refine GrowD.alloc' ?_ _))
theorem GrowD.grow {w w' : World} (h : GrowD w w') : Grow w w' := by
  obtain ⟨q, os, rfl⟩ := h
  refine ⟨rfl, rfl, rfl, by simp [Sort.grow, World.drewN], fun k hk => ?_⟩
  simp only [Sort.grow]
  rw [Array.getElem?_append_left (by simpa [World.drewN] using hk)]
  rfl
theorem order_any (a b : Rc) (w : World) :
    Calls Try.prog 57 #[.agg #[.int .i64 a.k, .int .i64 a.v], .agg #[.int .i64 b.k, .int .i64 b.v]] w fun e w' => e = .returned (.int .i64 (ordR a b)) ∧ Grow w w' :=
  (order_grow a b w).mono fun e w' ⟨h, g⟩ => ⟨h, g.grow⟩
set_option maxHeartbeats 1000000 in
theorem refOrder_any (a b : Rc) (w : World) :
    Calls Try.prog 62 #[.agg #[.int .i64 a.k, .int .i64 a.v], .agg #[.int .i64 b.k, .int .i64 b.v]] w fun e w' => e = .returned (.int .i64 (ordR a b)) ∧ Grow w w' := by
  obtain ⟨ak, av⟩ := a
  obtain ⟨bk, bv⟩ := b
  dsimp only
  go_enter Try.func62, Try.ntmps62
  have HA := eqRc ⟨ak, av⟩ ⟨bk, bv⟩
  dsimp only [eqR] at HA
  by_cases h1 : ak < bk
  · have e1 : decide (ak < bk) = true := by simpa using h1
    go_wp2
    all_goals go_ret
    all_goals exact ⟨ret_int (by simp [ordR, cmpI, h1]), ((Grow.alloc' _ _).trans' (Grow.alloc' _ _))⟩
  · by_cases h2 : ak = bk
    · subst h2
      by_cases h3 : av < bv
      · go_wp2
        all_goals go_ret
        all_goals exact ⟨ret_int (by simp [ordR, cmpI, h3]), ((Grow.alloc' _ _).trans' (Grow.alloc' _ _))⟩
      · by_cases h4 : av = bv
        · subst h4
          go_wp2
          all_goals go_ret
          all_goals exact ⟨ret_int (by simp [ordR, cmpI]), ((Grow.alloc' _ _).trans' (Grow.alloc' _ _))⟩
        · have h5 : bv < av := by omega
          go_wp2
          all_goals go_ret
          all_goals exact ⟨ret_int (by simp [ordR, cmpI, h3, h5]), ((Grow.alloc' _ _).trans' (Grow.alloc' _ _))⟩
    · have h5 : bk < ak := by omega
      have h6 : cmpI ak bk = 1 := by unfold cmpI; rw [if_neg h1, if_pos h5]
      have HO := hide (show ordR ⟨ak, av⟩ ⟨bk, bv⟩ = 1 by simp [ordR, h6])
      have h7 : (ak == bk) = false := by simpa using h2
      clear h6
      go_wp2
      all_goals go_ret
      all_goals first | exact ⟨ret_int HO.out.symm, ((Grow.alloc' _ _).trans' (Grow.alloc' _ _))⟩ | simp_all

set_option maxHeartbeats 1000000 in
theorem refMay_any (r : Rc) (w : World) :
    Calls Try.prog 10 #[.agg #[.int .i64 r.k, .int .i64 r.v]] w fun e w' => e = .returned (.bool (mayR r)) ∧ Grow w w' := by
  obtain ⟨k, v⟩ := r
  dsimp only
  go_enter Try.func10, Try.ntmps10
  go_wp2
  all_goals go_ret
  all_goals exact ⟨ret_bool (by simp [mayR, inB]; try omega), Grow.alloc' _ _⟩

end Go.Proofs.Ythkkjhjbojbbaaa
