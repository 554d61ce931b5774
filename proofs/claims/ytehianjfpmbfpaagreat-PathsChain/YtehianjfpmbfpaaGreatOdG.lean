/-
  What ts.Order does to the world, said for the library's sort: it draws and lays blocks behind the world, and nothing else.
-/
import Derived.Test.YtehianjfpmbfpaaGreatOd
import Derived.Sort.Grow
namespace Go.Proofs.YtehianjfpmbfpaaGreat
open Go.RowKit Go.Sort

def GrowD (w w' : World) : Prop := ∃ q os, w' = grow (w.drewN q) os
theorem GrowD.rfl' (w : World) : GrowD w w := ⟨0, #[], by simp [World.drewN]⟩
theorem GrowD.drewN' {w w' : World} (h : GrowD w w') (n : Nat) : GrowD w (w'.drewN n) := by
  obtain ⟨q, os, rfl⟩ := h
  exact ⟨q + n, os, by rw [← World.drewN_drewN]; rfl⟩
theorem GrowD.alloc' {w w' : World} (h : GrowD w w') (o : Obj) : GrowD w (w'.alloc o) := by
  obtain ⟨q, os, rfl⟩ := h
  exact ⟨q, os ++ #[o], by rw [alloc_eq_grow, grow_grow]⟩

set_option maxHeartbeats 1000000 in
theorem order_grow (a b : Tm) (w : World) :
    Calls Tryz.prog 89 #[.agg #[.int .i64 a.e, .int .i64 a.d, .int .i64 a.x, .int .i64 a.y, .int .i64 a.z], .agg #[.int .i64 b.e, .int .i64 b.d, .int .i64 b.x, .int .i64 b.y, .int .i64 b.z]] w fun e w' => e = .returned (.int .i64 (orderI a b)) ∧ GrowD w w' := by
  obtain ⟨ae, ad, ax, ay, az⟩ := a
  obtain ⟨be, bd, bx, bY, bz⟩ := b
  dsimp only
  go_enter Tryz.func89, Tryz.ntmps89
  go_wp2_with (go_at_call 111; refine (compare_any _ _ _).mono ?_; rintro e w' ⟨rfl, rfl⟩)
  repeat any_goals (first | (refine wp_loop_rounds 4 ?_; rw [rounds_succ]; go_wp2) | (rw [rounds_succ]; go_wp2) | (go_quiet ((go_at_call 111; refine (compare_any _ _ _).mono ?_; rintro e w' ⟨rfl, rfl⟩; exact ⟨rfl, _, rfl⟩)); go_wp2))
  all_goals go_ret
  all_goals refine ⟨ret_int ?_, ?_⟩
  all_goals simp at *
  all_goals first | (simp [orderI, *]; done) | (repeat (first | exact GrowD.rfl' _ | refine GrowD.drewN' ?_ _ | refine GrowD.alloc' ?_ _))

end Go.Proofs.YtehianjfpmbfpaaGreat
