/-
  What the law TsOrders does: for every two times it returns true, and what was there stays as it was.
-/
import Derived.Test.YtbohgfcndclbjaaJm
import Derived.Test.YtbohgfcndclbjaaShown
import Derived.Test.YtbohgfcndclbjaaLess
import Derived.Test.YtbohgfcndclbjaaOd
namespace Go.Proofs.Ytbohgfcndclbjaa
open Go.RowKit
attribute [local go_sem ↓] eqTm

theorem eqB_self (a : Tm) : eqB a a = true := by simp [eqB]

set_option maxHeartbeats 4000000 in
theorem TsOrders_any (a b : Tm) (w : World) :
    Calls Try.prog 4 #[.agg #[.int .i64 a.e, .int .i64 a.d, .int .i64 a.x, .int .i64 a.y, .int .i64 a.z], .agg #[.int .i64 b.e, .int .i64 b.d, .int .i64 b.x, .int .i64 b.y, .int .i64 b.z]] w fun e w' => e = .returned (.bool true) ∧ Below w.heap.size w w' := by
  go_enter Try.func4, Try.ntmps4
  go_wp2_with fail
  refine (shown_any _).mono ?_
  rintro e w1 ⟨rfl, hb1⟩
  have KA1 : Box w1 w.heap.size a := ((Box.new w a).later (Grow.alloc' _ _)).later hb1
  have KB1 : Box w1 (w.heap.size + 1) b := Box.later hb1 (by simpa using Box.new (w.alloc (.cells #[.int .i64 (a).e, .int .i64 (a).d, .int .i64 (a).x, .int .i64 (a).y, .int .i64 (a).z] 25)) b)
  have g1 : Grow w w1 := ((Grow.alloc' _ _).trans' (Grow.alloc' _ _)).trans' hb1
  clear hb1
  have HA := hide KA1
  have HB := hide KB1
  obtain ⟨p0, p1, p2, p3, p4⟩ := KA1
  obtain ⟨q0, q1, q2, q3, q4⟩ := KB1
  have G := hide g1
  clear g1
  go_wp2_with fail
  refine (join_any a b _).mono ?_
  rintro e w2 ⟨rfl, hb⟩
  clear p0 p1 p2 p3 p4 q0 q1 q2 q3 q4
  have KX2 : Box (w2.alloc (.cells #[.int .i64 (joinR a b).e, .int .i64 (joinR a b).d, .int .i64 (joinR a b).x, .int .i64 (joinR a b).y, .int .i64 (joinR a b).z] 25)) w2.heap.size (joinR a b) := Box.new _ _
  have KA2 : Box (w2.alloc (.cells #[.int .i64 (joinR a b).e, .int .i64 (joinR a b).d, .int .i64 (joinR a b).x, .int .i64 (joinR a b).y, .int .i64 (joinR a b).z] 25)) w.heap.size (a) := (HA.out.later hb).later (Grow.alloc' _ _)
  have KB2 : Box (w2.alloc (.cells #[.int .i64 (joinR a b).e, .int .i64 (joinR a b).d, .int .i64 (joinR a b).x, .int .i64 (joinR a b).y, .int .i64 (joinR a b).z] 25)) (w.heap.size + 1) (b) := (HB.out.later hb).later (Grow.alloc' _ _)
  have g2 : Grow w (w2.alloc (.cells #[.int .i64 (joinR a b).e, .int .i64 (joinR a b).d, .int .i64 (joinR a b).x, .int .i64 (joinR a b).y, .int .i64 (joinR a b).z] 25)) := (G.out.trans' hb).trans' (Grow.alloc' _ _)
  clear hb G HA HB
  have HA := hide KA2
  have HB := hide KB2
  have HX := hide KX2
  obtain ⟨p0, p1, p2, p3, p4⟩ := KA2
  obtain ⟨q0, q1, q2, q3, q4⟩ := KB2
  clear KX2
  have G := hide g2
  clear g2
  go_wp2_with fail
  refine (refJoin_any a b _).mono ?_
  rintro e w3 ⟨rfl, hb⟩
  clear p0 p1 p2 p3 p4 q0 q1 q2 q3 q4
  have KY3 : Box (w3.alloc (.cells #[.int .i64 (joinR a b).e, .int .i64 (joinR a b).d, .int .i64 (joinR a b).x, .int .i64 (joinR a b).y, .int .i64 (joinR a b).z] 25)) w3.heap.size (joinR a b) := Box.new _ _
  have KA3 : Box (w3.alloc (.cells #[.int .i64 (joinR a b).e, .int .i64 (joinR a b).d, .int .i64 (joinR a b).x, .int .i64 (joinR a b).y, .int .i64 (joinR a b).z] 25)) w.heap.size (a) := (HA.out.later hb).later (Grow.alloc' _ _)
  have KB3 : Box (w3.alloc (.cells #[.int .i64 (joinR a b).e, .int .i64 (joinR a b).d, .int .i64 (joinR a b).x, .int .i64 (joinR a b).y, .int .i64 (joinR a b).z] 25)) (w.heap.size + 1) (b) := (HB.out.later hb).later (Grow.alloc' _ _)
  have KX3 : Box (w3.alloc (.cells #[.int .i64 (joinR a b).e, .int .i64 (joinR a b).d, .int .i64 (joinR a b).x, .int .i64 (joinR a b).y, .int .i64 (joinR a b).z] 25)) w2.heap.size (joinR a b) := (HX.out.later hb).later (Grow.alloc' _ _)
  have g3 : Grow w (w3.alloc (.cells #[.int .i64 (joinR a b).e, .int .i64 (joinR a b).d, .int .i64 (joinR a b).x, .int .i64 (joinR a b).y, .int .i64 (joinR a b).z] 25)) := (G.out.trans' hb).trans' (Grow.alloc' _ _)
  clear hb G HA HB HX
  have HA := hide KA3
  have HB := hide KB3
  have HX := hide KX3
  have HY := hide KY3
  obtain ⟨p0, p1, p2, p3, p4⟩ := KA3
  obtain ⟨q0, q1, q2, q3, q4⟩ := KB3
  clear KX3
  clear KY3
  have G := hide g3
  clear g3
  go_wp2_with fail
  refine (meet_any a b _).mono ?_
  rintro e w4 ⟨rfl, hb⟩
  clear p0 p1 p2 p3 p4 q0 q1 q2 q3 q4
  have KP4 : Box (w4.alloc (.cells #[.int .i64 (meetR a b).e, .int .i64 (meetR a b).d, .int .i64 (meetR a b).x, .int .i64 (meetR a b).y, .int .i64 (meetR a b).z] 25)) w4.heap.size (meetR a b) := Box.new _ _
  have KA4 : Box (w4.alloc (.cells #[.int .i64 (meetR a b).e, .int .i64 (meetR a b).d, .int .i64 (meetR a b).x, .int .i64 (meetR a b).y, .int .i64 (meetR a b).z] 25)) w.heap.size (a) := (HA.out.later hb).later (Grow.alloc' _ _)
  have KB4 : Box (w4.alloc (.cells #[.int .i64 (meetR a b).e, .int .i64 (meetR a b).d, .int .i64 (meetR a b).x, .int .i64 (meetR a b).y, .int .i64 (meetR a b).z] 25)) (w.heap.size + 1) (b) := (HB.out.later hb).later (Grow.alloc' _ _)
  have KX4 : Box (w4.alloc (.cells #[.int .i64 (meetR a b).e, .int .i64 (meetR a b).d, .int .i64 (meetR a b).x, .int .i64 (meetR a b).y, .int .i64 (meetR a b).z] 25)) w2.heap.size (joinR a b) := (HX.out.later hb).later (Grow.alloc' _ _)
  have KY4 : Box (w4.alloc (.cells #[.int .i64 (meetR a b).e, .int .i64 (meetR a b).d, .int .i64 (meetR a b).x, .int .i64 (meetR a b).y, .int .i64 (meetR a b).z] 25)) w3.heap.size (joinR a b) := (HY.out.later hb).later (Grow.alloc' _ _)
  have g4 : Grow w (w4.alloc (.cells #[.int .i64 (meetR a b).e, .int .i64 (meetR a b).d, .int .i64 (meetR a b).x, .int .i64 (meetR a b).y, .int .i64 (meetR a b).z] 25)) := (G.out.trans' hb).trans' (Grow.alloc' _ _)
  clear hb G HA HB HX HY
  have HA := hide KA4
  have HB := hide KB4
  have HX := hide KX4
  have HY := hide KY4
  have HP := hide KP4
  obtain ⟨p0, p1, p2, p3, p4⟩ := KA4
  obtain ⟨q0, q1, q2, q3, q4⟩ := KB4
  clear KX4
  clear KY4
  clear KP4
  have G := hide g4
  clear g4
  go_wp2_with fail
  refine (refMeet_any a b _).mono ?_
  rintro e w5 ⟨rfl, hb⟩
  clear p0 p1 p2 p3 p4 q0 q1 q2 q3 q4
  have KQ5 : Box (w5.alloc (.cells #[.int .i64 (meetR a b).e, .int .i64 (meetR a b).d, .int .i64 (meetR a b).x, .int .i64 (meetR a b).y, .int .i64 (meetR a b).z] 25)) w5.heap.size (meetR a b) := Box.new _ _
  have KA5 : Box (w5.alloc (.cells #[.int .i64 (meetR a b).e, .int .i64 (meetR a b).d, .int .i64 (meetR a b).x, .int .i64 (meetR a b).y, .int .i64 (meetR a b).z] 25)) w.heap.size (a) := (HA.out.later hb).later (Grow.alloc' _ _)
  have KB5 : Box (w5.alloc (.cells #[.int .i64 (meetR a b).e, .int .i64 (meetR a b).d, .int .i64 (meetR a b).x, .int .i64 (meetR a b).y, .int .i64 (meetR a b).z] 25)) (w.heap.size + 1) (b) := (HB.out.later hb).later (Grow.alloc' _ _)
  have KX5 : Box (w5.alloc (.cells #[.int .i64 (meetR a b).e, .int .i64 (meetR a b).d, .int .i64 (meetR a b).x, .int .i64 (meetR a b).y, .int .i64 (meetR a b).z] 25)) w2.heap.size (joinR a b) := (HX.out.later hb).later (Grow.alloc' _ _)
  have KY5 : Box (w5.alloc (.cells #[.int .i64 (meetR a b).e, .int .i64 (meetR a b).d, .int .i64 (meetR a b).x, .int .i64 (meetR a b).y, .int .i64 (meetR a b).z] 25)) w3.heap.size (joinR a b) := (HY.out.later hb).later (Grow.alloc' _ _)
  have KP5 : Box (w5.alloc (.cells #[.int .i64 (meetR a b).e, .int .i64 (meetR a b).d, .int .i64 (meetR a b).x, .int .i64 (meetR a b).y, .int .i64 (meetR a b).z] 25)) w4.heap.size (meetR a b) := (HP.out.later hb).later (Grow.alloc' _ _)
  have g5 : Grow w (w5.alloc (.cells #[.int .i64 (meetR a b).e, .int .i64 (meetR a b).d, .int .i64 (meetR a b).x, .int .i64 (meetR a b).y, .int .i64 (meetR a b).z] 25)) := (G.out.trans' hb).trans' (Grow.alloc' _ _)
  clear hb G HA HB HX HY HP
  go_wp2_with fail
  refine wp_region_inv (fun i v w => match i with | 0 => v = .bool true | 1 => v = .bool true | 2 => v = .agg #[.int .i64 (a).e, .int .i64 (a).d, .int .i64 (a).x, .int .i64 (a).y, .int .i64 (a).z] | 3 => v = .agg #[.int .i64 (b).e, .int .i64 (b).d, .int .i64 (b).x, .int .i64 (b).y, .int .i64 (b).z] | 4 => v = .bool (leB a b) | 5 => v = .agg #[.int .i64 (a).e, .int .i64 (a).d, .int .i64 (a).x, .int .i64 (a).y, .int .i64 (a).z] | 6 => v = .agg #[.int .i64 (b).e, .int .i64 (b).d, .int .i64 (b).x, .int .i64 (b).y, .int .i64 (b).z] | 7 => v = .bool (leB a b) | 8 => v = .bool true | 9 => v = .bool true | 10 => v = .bool true | 11 => v = .agg #[.int .i64 (a).e, .int .i64 (a).d, .int .i64 (a).x, .int .i64 (a).y, .int .i64 (a).z] | 12 => v = .agg #[.int .i64 (b).e, .int .i64 (b).d, .int .i64 (b).x, .int .i64 (b).y, .int .i64 (b).z] | 13 => v = .bool (lessB a b) | 14 => v = .agg #[.int .i64 (a).e, .int .i64 (a).d, .int .i64 (a).x, .int .i64 (a).y, .int .i64 (a).z] | 15 => v = .agg #[.int .i64 (b).e, .int .i64 (b).d, .int .i64 (b).x, .int .i64 (b).y, .int .i64 (b).z] | 16 => v = .bool (lessB a b) | 17 => v = .bool true | 18 => v = .bool true | 19 => v = .bool true | 20 => v = .agg #[.int .i64 (a).e, .int .i64 (a).d, .int .i64 (a).x, .int .i64 (a).y, .int .i64 (a).z] | 21 => v = .agg #[.int .i64 (b).e, .int .i64 (b).d, .int .i64 (b).x, .int .i64 (b).y, .int .i64 (b).z] | 22 => v = .int .i64 (orderI a b) | 23 => v = .agg #[.int .i64 (a).e, .int .i64 (a).d, .int .i64 (a).x, .int .i64 (a).y, .int .i64 (a).z] | 24 => v = .agg #[.int .i64 (b).e, .int .i64 (b).d, .int .i64 (b).x, .int .i64 (b).y, .int .i64 (b).z] | 25 => v = .int .i64 (orderI a b) | 26 => v = .bool true | 27 => v = .bool true | 28 => v = .bool true | 29 => v = .agg #[.int .i64 (joinR a b).e, .int .i64 (joinR a b).d, .int .i64 (joinR a b).x, .int .i64 (joinR a b).y, .int .i64 (joinR a b).z] | 30 => v = .agg #[.int .i64 (joinR a b).e, .int .i64 (joinR a b).d, .int .i64 (joinR a b).x, .int .i64 (joinR a b).y, .int .i64 (joinR a b).z] | 31 => v = .bool true | 32 => v = .bool true | 33 => v = .bool true | 34 => v = .int .i64 (errR a b) | 35 => v = .int .i64 (errR a b) | 36 => v = .bool true | 37 => v = .bool true | 38 => v = .bool true | 39 => v = .agg #[.int .i64 (meetR a b).e, .int .i64 (meetR a b).d, .int .i64 (meetR a b).x, .int .i64 (meetR a b).y, .int .i64 (meetR a b).z] | 40 => v = .agg #[.int .i64 (meetR a b).e, .int .i64 (meetR a b).d, .int .i64 (meetR a b).x, .int .i64 (meetR a b).y, .int .i64 (meetR a b).z] | 41 => v = .bool true | 42 => v = .bool true | 43 => v = .bool true | 44 => v = .int .i64 (errR a b) | 45 => v = .int .i64 (errR a b) | 46 => v = .bool true | 47 => v = .bool true | 48 => v = .bool true | _ => True) (by kernel_rfl) (by kernel_rfl) ?_ ?_ ?_
  · intro k v w1 w2 hg h
    match k with
    | 0 => exact h
    | 1 => exact h
    | 2 => exact h
    | 3 => exact h
    | 4 => exact h
    | 5 => exact h
    | 6 => exact h
    | 7 => exact h
    | 8 => exact h
    | 9 => exact h
    | 10 => exact h
    | 11 => exact h
    | 12 => exact h
    | 13 => exact h
    | 14 => exact h
    | 15 => exact h
    | 16 => exact h
    | 17 => exact h
    | 18 => exact h
    | 19 => exact h
    | 20 => exact h
    | 21 => exact h
    | 22 => exact h
    | 23 => exact h
    | 24 => exact h
    | 25 => exact h
    | 26 => exact h
    | 27 => exact h
    | 28 => exact h
    | 29 => exact h
    | 30 => exact h
    | 31 => exact h
    | 32 => exact h
    | 33 => exact h
    | 34 => exact h
    | 35 => exact h
    | 36 => exact h
    | 37 => exact h
    | 38 => exact h
    | 39 => exact h
    | 40 => exact h
    | 41 => exact h
    | 42 => exact h
    | 43 => exact h
    | 44 => exact h
    | 45 => exact h
    | 46 => exact h
    | 47 => exact h
    | 48 => exact h
    | k + 49 => exact trivial
  · refine ⟨?_, ?_, ?_, ?_, ?_, ?_, ?_, ?_, ?_, ?_, ?_, ?_, ?_, ?_, ?_, ?_, ?_, ?_, ?_, ?_, ?_, ?_, ?_, ?_, ?_, ?_, ?_, ?_, ?_, ?_, ?_, ?_, ?_, ?_, ?_, ?_, ?_, ?_, ?_, ?_, ?_, ?_, ?_, ?_, ?_, ?_, ?_, ?_, ?_, trivial⟩
    · refine stepOne_run trivial ?_
      intro a' w' hg hs hd
      have e5 : a'.eval (.tmp 5) = .bool true := hs.rest 5 rfl
      have ec : ∀ v, a'.eval (.const v) = v := fun _ => rfl
      have ef : ∀ g, a'.eval (.func g) = .func (.func g) #[] #[] := fun _ => rfl
      clear hd hs
      refine wpv (v := .bool true) ?_ ⟨_, rfl, Grow.rfl' _, rfl⟩
      (generalize a'.eval = ev at ec ef e5 ⊢; simp [execOp, go_sem, *])
    · refine stepOne_run trivial ?_
      intro a' w' hg hs hd
      have e39 : a'.eval (.tmp 39) = .bool true := hd ⟨0, Ground.data⟩ (by simp) rfl
      have ec : ∀ v, a'.eval (.const v) = v := fun _ => rfl
      have ef : ∀ g, a'.eval (.func g) = .func (.func g) #[] #[] := fun _ => rfl
      clear hd hs
      refine wpv (v := .bool true) ?_ ⟨_, rfl, Grow.rfl' _, rfl⟩
      (generalize a'.eval = ev at ec ef e39 ⊢; simp [execOp, go_sem, *])
    · refine stepOne_run ⟨⟨⟨1, Ground.guard⟩, by simp, rfl, rfl⟩, fun _ _ h => h⟩ ?_
      intro a' w' hg hs hd
      have e2 : a'.eval (.tmp 2) = .pointer (some ⟨w.heap.size, 0, none⟩) := hs.rest 2 rfl
      have ec : ∀ v, a'.eval (.const v) = v := fun _ => rfl
      have ef : ∀ g, a'.eval (.func g) = .func (.func g) #[] #[] := fun _ => rfl
      clear hd hs
      obtain ⟨l0, l1, l2, l3, l4⟩ := KA5.later hg
      refine wpv (v := .agg #[.int .i64 (a).e, .int .i64 (a).d, .int .i64 (a).x, .int .i64 (a).y, .int .i64 (a).z]) ?_ ⟨_, rfl, Grow.rfl' _, rfl⟩
      (generalize a'.eval = ev at ec ef e2 ⊢; simp [execOp, go_sem, *])
    · refine stepOne_run ⟨⟨⟨1, Ground.guard⟩, by simp, rfl, rfl⟩, fun _ _ h => h⟩ ?_
      intro a' w' hg hs hd
      have e3 : a'.eval (.tmp 3) = .pointer (some ⟨w.heap.size + 1, 0, none⟩) := hs.rest 3 rfl
      have ec : ∀ v, a'.eval (.const v) = v := fun _ => rfl
      have ef : ∀ g, a'.eval (.func g) = .func (.func g) #[] #[] := fun _ => rfl
      clear hd hs
      obtain ⟨l0, l1, l2, l3, l4⟩ := KB5.later hg
      refine wpv (v := .agg #[.int .i64 (b).e, .int .i64 (b).d, .int .i64 (b).x, .int .i64 (b).y, .int .i64 (b).z]) ?_ ⟨_, rfl, Grow.rfl' _, rfl⟩
      (generalize a'.eval = ev at ec ef e3 ⊢; simp [execOp, go_sem, *])
    · refine stepOne_run ⟨⟨⟨1, Ground.chain⟩, by simp, rfl, rfl⟩, fun _ _ h => h⟩ ?_
      intro a' w' hg hs hd
      have e41 : a'.eval (.tmp 41) = .agg #[.int .i64 (a).e, .int .i64 (a).d, .int .i64 (a).x, .int .i64 (a).y, .int .i64 (a).z] := hd ⟨2, Ground.data⟩ (by simp) rfl
      have e42 : a'.eval (.tmp 42) = .agg #[.int .i64 (b).e, .int .i64 (b).d, .int .i64 (b).x, .int .i64 (b).y, .int .i64 (b).z] := hd ⟨3, Ground.data⟩ (by simp) rfl
      have ec : ∀ v, a'.eval (.const v) = v := fun _ => rfl
      have ef : ∀ g, a'.eval (.func g) = .func (.func g) #[] #[] := fun _ => rfl
      clear hd hs
      refine wpc ?_ (Calls.mono (lessEq_any a b w') fun e w2 ⟨he, hb⟩ => ⟨_, he, _, rfl, hb, rfl⟩)
      (generalize a'.eval = ev at ec ef e41 e42 ⊢; simp [execOp, go_sem, *])
    · refine stepOne_run ⟨⟨⟨1, Ground.guard⟩, by simp, rfl, rfl⟩, fun _ _ h => h⟩ ?_
      intro a' w' hg hs hd
      have e2 : a'.eval (.tmp 2) = .pointer (some ⟨w.heap.size, 0, none⟩) := hs.rest 2 rfl
      have ec : ∀ v, a'.eval (.const v) = v := fun _ => rfl
      have ef : ∀ g, a'.eval (.func g) = .func (.func g) #[] #[] := fun _ => rfl
      clear hd hs
      obtain ⟨l0, l1, l2, l3, l4⟩ := KA5.later hg
      refine wpv (v := .agg #[.int .i64 (a).e, .int .i64 (a).d, .int .i64 (a).x, .int .i64 (a).y, .int .i64 (a).z]) ?_ ⟨_, rfl, Grow.rfl' _, rfl⟩
      (generalize a'.eval = ev at ec ef e2 ⊢; simp [execOp, go_sem, *])
    · refine stepOne_run ⟨⟨⟨1, Ground.guard⟩, by simp, rfl, rfl⟩, fun _ _ h => h⟩ ?_
      intro a' w' hg hs hd
      have e3 : a'.eval (.tmp 3) = .pointer (some ⟨w.heap.size + 1, 0, none⟩) := hs.rest 3 rfl
      have ec : ∀ v, a'.eval (.const v) = v := fun _ => rfl
      have ef : ∀ g, a'.eval (.func g) = .func (.func g) #[] #[] := fun _ => rfl
      clear hd hs
      obtain ⟨l0, l1, l2, l3, l4⟩ := KB5.later hg
      refine wpv (v := .agg #[.int .i64 (b).e, .int .i64 (b).d, .int .i64 (b).x, .int .i64 (b).y, .int .i64 (b).z]) ?_ ⟨_, rfl, Grow.rfl' _, rfl⟩
      (generalize a'.eval = ev at ec ef e3 ⊢; simp [execOp, go_sem, *])
    · refine stepOne_run ⟨⟨⟨1, Ground.guard⟩, by simp, rfl, rfl⟩, fun _ _ h => h⟩ ?_
      intro a' w' hg hs hd
      have e44 : a'.eval (.tmp 44) = .agg #[.int .i64 (a).e, .int .i64 (a).d, .int .i64 (a).x, .int .i64 (a).y, .int .i64 (a).z] := hd ⟨5, Ground.data⟩ (by simp) rfl
      have e45 : a'.eval (.tmp 45) = .agg #[.int .i64 (b).e, .int .i64 (b).d, .int .i64 (b).x, .int .i64 (b).y, .int .i64 (b).z] := hd ⟨6, Ground.data⟩ (by simp) rfl
      have ec : ∀ v, a'.eval (.const v) = v := fun _ => rfl
      have ef : ∀ g, a'.eval (.func g) = .func (.func g) #[] #[] := fun _ => rfl
      clear hd hs
      refine wpc ?_ (Calls.mono (refLessEq_any a b w') fun e w2 ⟨he, hb⟩ => ⟨_, he, _, rfl, hb, rfl⟩)
      (generalize a'.eval = ev at ec ef e44 e45 ⊢; simp [execOp, go_sem, *])
    · refine stepOne_run ⟨⟨⟨1, Ground.guard⟩, by simp, rfl, rfl⟩, fun _ _ h => h⟩ ?_
      intro a' w' hg hs hd
      have e43 : a'.eval (.tmp 43) = .bool (leB a b) := hd ⟨4, Ground.data⟩ (by simp) rfl
      have e46 : a'.eval (.tmp 46) = .bool (leB a b) := hd ⟨7, Ground.data⟩ (by simp) rfl
      have ec : ∀ v, a'.eval (.const v) = v := fun _ => rfl
      have ef : ∀ g, a'.eval (.func g) = .func (.func g) #[] #[] := fun _ => rfl
      clear hd hs
      refine wpv (v := .bool true) ?_ ⟨_, rfl, Grow.rfl' _, rfl⟩
      (generalize a'.eval = ev at ec ef e43 e46 ⊢; simp [execOp, go_sem, *])
    · refine stepOne_run trivial ?_
      intro a' w' hg hs hd
      have e40 : a'.eval (.tmp 40) = .bool true := hd ⟨1, Ground.data⟩ (by simp) rfl
      have e47 : a'.eval (.tmp 47) = .bool true := hd ⟨8, Ground.data⟩ (by simp) rfl
      have ec : ∀ v, a'.eval (.const v) = v := fun _ => rfl
      have ef : ∀ g, a'.eval (.func g) = .func (.func g) #[] #[] := fun _ => rfl
      clear hd hs
      refine wpv (v := .bool true) ?_ ⟨_, rfl, Grow.rfl' _, rfl⟩
      (generalize a'.eval = ev at ec ef e40 e47 ⊢; simp [execOp, go_sem, *])
    · refine stepOne_run trivial ?_
      intro a' w' hg hs hd
      have e48 : a'.eval (.tmp 48) = .bool true := hd ⟨9, Ground.data⟩ (by simp) rfl
      have ec : ∀ v, a'.eval (.const v) = v := fun _ => rfl
      have ef : ∀ g, a'.eval (.func g) = .func (.func g) #[] #[] := fun _ => rfl
      clear hd hs
      refine wpv (v := .bool true) ?_ ⟨_, rfl, Grow.rfl' _, rfl⟩
      (generalize a'.eval = ev at ec ef e48 ⊢; simp [execOp, go_sem, *])
    · refine stepOne_run ⟨⟨⟨10, Ground.guard⟩, by simp, rfl, rfl⟩, fun _ _ h => h⟩ ?_
      intro a' w' hg hs hd
      have e2 : a'.eval (.tmp 2) = .pointer (some ⟨w.heap.size, 0, none⟩) := hs.rest 2 rfl
      have ec : ∀ v, a'.eval (.const v) = v := fun _ => rfl
      have ef : ∀ g, a'.eval (.func g) = .func (.func g) #[] #[] := fun _ => rfl
      clear hd hs
      obtain ⟨l0, l1, l2, l3, l4⟩ := KA5.later hg
      refine wpv (v := .agg #[.int .i64 (a).e, .int .i64 (a).d, .int .i64 (a).x, .int .i64 (a).y, .int .i64 (a).z]) ?_ ⟨_, rfl, Grow.rfl' _, rfl⟩
      (generalize a'.eval = ev at ec ef e2 ⊢; simp [execOp, go_sem, *])
    · refine stepOne_run ⟨⟨⟨10, Ground.guard⟩, by simp, rfl, rfl⟩, fun _ _ h => h⟩ ?_
      intro a' w' hg hs hd
      have e3 : a'.eval (.tmp 3) = .pointer (some ⟨w.heap.size + 1, 0, none⟩) := hs.rest 3 rfl
      have ec : ∀ v, a'.eval (.const v) = v := fun _ => rfl
      have ef : ∀ g, a'.eval (.func g) = .func (.func g) #[] #[] := fun _ => rfl
      clear hd hs
      obtain ⟨l0, l1, l2, l3, l4⟩ := KB5.later hg
      refine wpv (v := .agg #[.int .i64 (b).e, .int .i64 (b).d, .int .i64 (b).x, .int .i64 (b).y, .int .i64 (b).z]) ?_ ⟨_, rfl, Grow.rfl' _, rfl⟩
      (generalize a'.eval = ev at ec ef e3 ⊢; simp [execOp, go_sem, *])
    · refine stepOne_run ⟨⟨⟨10, Ground.chain⟩, by simp, rfl, rfl⟩, fun _ _ h => h⟩ ?_
      intro a' w' hg hs hd
      have e50 : a'.eval (.tmp 50) = .agg #[.int .i64 (a).e, .int .i64 (a).d, .int .i64 (a).x, .int .i64 (a).y, .int .i64 (a).z] := hd ⟨11, Ground.data⟩ (by simp) rfl
      have e51 : a'.eval (.tmp 51) = .agg #[.int .i64 (b).e, .int .i64 (b).d, .int .i64 (b).x, .int .i64 (b).y, .int .i64 (b).z] := hd ⟨12, Ground.data⟩ (by simp) rfl
      have ec : ∀ v, a'.eval (.const v) = v := fun _ => rfl
      have ef : ∀ g, a'.eval (.func g) = .func (.func g) #[] #[] := fun _ => rfl
      clear hd hs
      refine wpc ?_ (Calls.mono (less_any a b w') fun e w2 ⟨he, hb⟩ => ⟨_, he, _, rfl, hb, rfl⟩)
      (generalize a'.eval = ev at ec ef e50 e51 ⊢; simp [execOp, go_sem, *])
    · refine stepOne_run ⟨⟨⟨10, Ground.guard⟩, by simp, rfl, rfl⟩, fun _ _ h => h⟩ ?_
      intro a' w' hg hs hd
      have e2 : a'.eval (.tmp 2) = .pointer (some ⟨w.heap.size, 0, none⟩) := hs.rest 2 rfl
      have ec : ∀ v, a'.eval (.const v) = v := fun _ => rfl
      have ef : ∀ g, a'.eval (.func g) = .func (.func g) #[] #[] := fun _ => rfl
      clear hd hs
      obtain ⟨l0, l1, l2, l3, l4⟩ := KA5.later hg
      refine wpv (v := .agg #[.int .i64 (a).e, .int .i64 (a).d, .int .i64 (a).x, .int .i64 (a).y, .int .i64 (a).z]) ?_ ⟨_, rfl, Grow.rfl' _, rfl⟩
      (generalize a'.eval = ev at ec ef e2 ⊢; simp [execOp, go_sem, *])
    · refine stepOne_run ⟨⟨⟨10, Ground.guard⟩, by simp, rfl, rfl⟩, fun _ _ h => h⟩ ?_
      intro a' w' hg hs hd
      have e3 : a'.eval (.tmp 3) = .pointer (some ⟨w.heap.size + 1, 0, none⟩) := hs.rest 3 rfl
      have ec : ∀ v, a'.eval (.const v) = v := fun _ => rfl
      have ef : ∀ g, a'.eval (.func g) = .func (.func g) #[] #[] := fun _ => rfl
      clear hd hs
      obtain ⟨l0, l1, l2, l3, l4⟩ := KB5.later hg
      refine wpv (v := .agg #[.int .i64 (b).e, .int .i64 (b).d, .int .i64 (b).x, .int .i64 (b).y, .int .i64 (b).z]) ?_ ⟨_, rfl, Grow.rfl' _, rfl⟩
      (generalize a'.eval = ev at ec ef e3 ⊢; simp [execOp, go_sem, *])
    · refine stepOne_run ⟨⟨⟨10, Ground.guard⟩, by simp, rfl, rfl⟩, fun _ _ h => h⟩ ?_
      intro a' w' hg hs hd
      have e53 : a'.eval (.tmp 53) = .agg #[.int .i64 (a).e, .int .i64 (a).d, .int .i64 (a).x, .int .i64 (a).y, .int .i64 (a).z] := hd ⟨14, Ground.data⟩ (by simp) rfl
      have e54 : a'.eval (.tmp 54) = .agg #[.int .i64 (b).e, .int .i64 (b).d, .int .i64 (b).x, .int .i64 (b).y, .int .i64 (b).z] := hd ⟨15, Ground.data⟩ (by simp) rfl
      have ec : ∀ v, a'.eval (.const v) = v := fun _ => rfl
      have ef : ∀ g, a'.eval (.func g) = .func (.func g) #[] #[] := fun _ => rfl
      clear hd hs
      refine wpc ?_ (Calls.mono (refLess_any a b w') fun e w2 ⟨he, hb⟩ => ⟨_, he, _, rfl, hb, rfl⟩)
      (generalize a'.eval = ev at ec ef e53 e54 ⊢; simp [execOp, go_sem, *])
    · refine stepOne_run ⟨⟨⟨10, Ground.guard⟩, by simp, rfl, rfl⟩, fun _ _ h => h⟩ ?_
      intro a' w' hg hs hd
      have e52 : a'.eval (.tmp 52) = .bool (lessB a b) := hd ⟨13, Ground.data⟩ (by simp) rfl
      have e55 : a'.eval (.tmp 55) = .bool (lessB a b) := hd ⟨16, Ground.data⟩ (by simp) rfl
      have ec : ∀ v, a'.eval (.const v) = v := fun _ => rfl
      have ef : ∀ g, a'.eval (.func g) = .func (.func g) #[] #[] := fun _ => rfl
      clear hd hs
      refine wpv (v := .bool true) ?_ ⟨_, rfl, Grow.rfl' _, rfl⟩
      (generalize a'.eval = ev at ec ef e52 e55 ⊢; simp [execOp, go_sem, *])
    · refine stepOne_run trivial ?_
      intro a' w' hg hs hd
      have e49 : a'.eval (.tmp 49) = .bool true := hd ⟨10, Ground.data⟩ (by simp) rfl
      have e56 : a'.eval (.tmp 56) = .bool true := hd ⟨17, Ground.data⟩ (by simp) rfl
      have ec : ∀ v, a'.eval (.const v) = v := fun _ => rfl
      have ef : ∀ g, a'.eval (.func g) = .func (.func g) #[] #[] := fun _ => rfl
      clear hd hs
      refine wpv (v := .bool true) ?_ ⟨_, rfl, Grow.rfl' _, rfl⟩
      (generalize a'.eval = ev at ec ef e49 e56 ⊢; simp [execOp, go_sem, *])
    · refine stepOne_run trivial ?_
      intro a' w' hg hs hd
      have e57 : a'.eval (.tmp 57) = .bool true := hd ⟨18, Ground.data⟩ (by simp) rfl
      have ec : ∀ v, a'.eval (.const v) = v := fun _ => rfl
      have ef : ∀ g, a'.eval (.func g) = .func (.func g) #[] #[] := fun _ => rfl
      clear hd hs
      refine wpv (v := .bool true) ?_ ⟨_, rfl, Grow.rfl' _, rfl⟩
      (generalize a'.eval = ev at ec ef e57 ⊢; simp [execOp, go_sem, *])
    · refine stepOne_run ⟨⟨⟨19, Ground.guard⟩, by simp, rfl, rfl⟩, fun _ _ h => h⟩ ?_
      intro a' w' hg hs hd
      have e2 : a'.eval (.tmp 2) = .pointer (some ⟨w.heap.size, 0, none⟩) := hs.rest 2 rfl
      have ec : ∀ v, a'.eval (.const v) = v := fun _ => rfl
      have ef : ∀ g, a'.eval (.func g) = .func (.func g) #[] #[] := fun _ => rfl
      clear hd hs
      obtain ⟨l0, l1, l2, l3, l4⟩ := KA5.later hg
      refine wpv (v := .agg #[.int .i64 (a).e, .int .i64 (a).d, .int .i64 (a).x, .int .i64 (a).y, .int .i64 (a).z]) ?_ ⟨_, rfl, Grow.rfl' _, rfl⟩
      (generalize a'.eval = ev at ec ef e2 ⊢; simp [execOp, go_sem, *])
    · refine stepOne_run ⟨⟨⟨19, Ground.guard⟩, by simp, rfl, rfl⟩, fun _ _ h => h⟩ ?_
      intro a' w' hg hs hd
      have e3 : a'.eval (.tmp 3) = .pointer (some ⟨w.heap.size + 1, 0, none⟩) := hs.rest 3 rfl
      have ec : ∀ v, a'.eval (.const v) = v := fun _ => rfl
      have ef : ∀ g, a'.eval (.func g) = .func (.func g) #[] #[] := fun _ => rfl
      clear hd hs
      obtain ⟨l0, l1, l2, l3, l4⟩ := KB5.later hg
      refine wpv (v := .agg #[.int .i64 (b).e, .int .i64 (b).d, .int .i64 (b).x, .int .i64 (b).y, .int .i64 (b).z]) ?_ ⟨_, rfl, Grow.rfl' _, rfl⟩
      (generalize a'.eval = ev at ec ef e3 ⊢; simp [execOp, go_sem, *])
    · refine stepOne_run ⟨⟨⟨19, Ground.chain⟩, by simp, rfl, rfl⟩, fun _ _ h => h⟩ ?_
      intro a' w' hg hs hd
      have e59 : a'.eval (.tmp 59) = .agg #[.int .i64 (a).e, .int .i64 (a).d, .int .i64 (a).x, .int .i64 (a).y, .int .i64 (a).z] := hd ⟨20, Ground.data⟩ (by simp) rfl
      have e60 : a'.eval (.tmp 60) = .agg #[.int .i64 (b).e, .int .i64 (b).d, .int .i64 (b).x, .int .i64 (b).y, .int .i64 (b).z] := hd ⟨21, Ground.data⟩ (by simp) rfl
      have ec : ∀ v, a'.eval (.const v) = v := fun _ => rfl
      have ef : ∀ g, a'.eval (.func g) = .func (.func g) #[] #[] := fun _ => rfl
      clear hd hs
      refine wpc ?_ (Calls.mono (order_any a b w') fun e w2 ⟨he, hb⟩ => ⟨_, he, _, rfl, hb, rfl⟩)
      (generalize a'.eval = ev at ec ef e59 e60 ⊢; simp [execOp, go_sem, *])
    · refine stepOne_run ⟨⟨⟨19, Ground.guard⟩, by simp, rfl, rfl⟩, fun _ _ h => h⟩ ?_
      intro a' w' hg hs hd
      have e2 : a'.eval (.tmp 2) = .pointer (some ⟨w.heap.size, 0, none⟩) := hs.rest 2 rfl
      have ec : ∀ v, a'.eval (.const v) = v := fun _ => rfl
      have ef : ∀ g, a'.eval (.func g) = .func (.func g) #[] #[] := fun _ => rfl
      clear hd hs
      obtain ⟨l0, l1, l2, l3, l4⟩ := KA5.later hg
      refine wpv (v := .agg #[.int .i64 (a).e, .int .i64 (a).d, .int .i64 (a).x, .int .i64 (a).y, .int .i64 (a).z]) ?_ ⟨_, rfl, Grow.rfl' _, rfl⟩
      (generalize a'.eval = ev at ec ef e2 ⊢; simp [execOp, go_sem, *])
    · refine stepOne_run ⟨⟨⟨19, Ground.guard⟩, by simp, rfl, rfl⟩, fun _ _ h => h⟩ ?_
      intro a' w' hg hs hd
      have e3 : a'.eval (.tmp 3) = .pointer (some ⟨w.heap.size + 1, 0, none⟩) := hs.rest 3 rfl
      have ec : ∀ v, a'.eval (.const v) = v := fun _ => rfl
      have ef : ∀ g, a'.eval (.func g) = .func (.func g) #[] #[] := fun _ => rfl
      clear hd hs
      obtain ⟨l0, l1, l2, l3, l4⟩ := KB5.later hg
      refine wpv (v := .agg #[.int .i64 (b).e, .int .i64 (b).d, .int .i64 (b).x, .int .i64 (b).y, .int .i64 (b).z]) ?_ ⟨_, rfl, Grow.rfl' _, rfl⟩
      (generalize a'.eval = ev at ec ef e3 ⊢; simp [execOp, go_sem, *])
    · refine stepOne_run ⟨⟨⟨19, Ground.guard⟩, by simp, rfl, rfl⟩, fun _ _ h => h⟩ ?_
      intro a' w' hg hs hd
      have e62 : a'.eval (.tmp 62) = .agg #[.int .i64 (a).e, .int .i64 (a).d, .int .i64 (a).x, .int .i64 (a).y, .int .i64 (a).z] := hd ⟨23, Ground.data⟩ (by simp) rfl
      have e63 : a'.eval (.tmp 63) = .agg #[.int .i64 (b).e, .int .i64 (b).d, .int .i64 (b).x, .int .i64 (b).y, .int .i64 (b).z] := hd ⟨24, Ground.data⟩ (by simp) rfl
      have ec : ∀ v, a'.eval (.const v) = v := fun _ => rfl
      have ef : ∀ g, a'.eval (.func g) = .func (.func g) #[] #[] := fun _ => rfl
      clear hd hs
      refine wpc ?_ (Calls.mono (refOrder_any a b w') fun e w2 ⟨he, hb⟩ => ⟨_, he, _, rfl, hb, rfl⟩)
      (generalize a'.eval = ev at ec ef e62 e63 ⊢; simp [execOp, go_sem, *])
    · refine stepOne_run ⟨⟨⟨19, Ground.guard⟩, by simp, rfl, rfl⟩, fun _ _ h => h⟩ ?_
      intro a' w' hg hs hd
      have e61 : a'.eval (.tmp 61) = .int .i64 (orderI a b) := hd ⟨22, Ground.data⟩ (by simp) rfl
      have e64 : a'.eval (.tmp 64) = .int .i64 (orderI a b) := hd ⟨25, Ground.data⟩ (by simp) rfl
      have ec : ∀ v, a'.eval (.const v) = v := fun _ => rfl
      have ef : ∀ g, a'.eval (.func g) = .func (.func g) #[] #[] := fun _ => rfl
      clear hd hs
      refine wpv (v := .bool true) ?_ ⟨_, rfl, Grow.rfl' _, rfl⟩
      (generalize a'.eval = ev at ec ef e61 e64 ⊢; simp [execOp, go_sem, *])
    · refine stepOne_run trivial ?_
      intro a' w' hg hs hd
      have e58 : a'.eval (.tmp 58) = .bool true := hd ⟨19, Ground.data⟩ (by simp) rfl
      have e65 : a'.eval (.tmp 65) = .bool true := hd ⟨26, Ground.data⟩ (by simp) rfl
      have ec : ∀ v, a'.eval (.const v) = v := fun _ => rfl
      have ef : ∀ g, a'.eval (.func g) = .func (.func g) #[] #[] := fun _ => rfl
      clear hd hs
      refine wpv (v := .bool true) ?_ ⟨_, rfl, Grow.rfl' _, rfl⟩
      (generalize a'.eval = ev at ec ef e58 e65 ⊢; simp [execOp, go_sem, *])
    · refine stepOne_run trivial ?_
      intro a' w' hg hs hd
      have e66 : a'.eval (.tmp 66) = .bool true := hd ⟨27, Ground.data⟩ (by simp) rfl
      have ec : ∀ v, a'.eval (.const v) = v := fun _ => rfl
      have ef : ∀ g, a'.eval (.func g) = .func (.func g) #[] #[] := fun _ => rfl
      clear hd hs
      refine wpv (v := .bool true) ?_ ⟨_, rfl, Grow.rfl' _, rfl⟩
      (generalize a'.eval = ev at ec ef e66 ⊢; simp [execOp, go_sem, *])
    · refine stepOne_run ⟨⟨⟨28, Ground.guard⟩, by simp, rfl, rfl⟩, fun _ _ h => h⟩ ?_
      intro a' w' hg hs hd
      have e6 : a'.eval (.tmp 6) = .pointer (some ⟨w2.heap.size, 0, none⟩) := hs.rest 6 rfl
      have ec : ∀ v, a'.eval (.const v) = v := fun _ => rfl
      have ef : ∀ g, a'.eval (.func g) = .func (.func g) #[] #[] := fun _ => rfl
      clear hd hs
      obtain ⟨l0, l1, l2, l3, l4⟩ := KX5.later hg
      refine wpv (v := .agg #[.int .i64 (joinR a b).e, .int .i64 (joinR a b).d, .int .i64 (joinR a b).x, .int .i64 (joinR a b).y, .int .i64 (joinR a b).z]) ?_ ⟨_, rfl, Grow.rfl' _, rfl⟩
      (generalize a'.eval = ev at ec ef e6 ⊢; simp [execOp, go_sem, *])
    · refine stepOne_run ⟨⟨⟨28, Ground.guard⟩, by simp, rfl, rfl⟩, fun _ _ h => h⟩ ?_
      intro a' w' hg hs hd
      have e8 : a'.eval (.tmp 8) = .pointer (some ⟨w3.heap.size, 0, none⟩) := hs.rest 8 rfl
      have ec : ∀ v, a'.eval (.const v) = v := fun _ => rfl
      have ef : ∀ g, a'.eval (.func g) = .func (.func g) #[] #[] := fun _ => rfl
      clear hd hs
      obtain ⟨l0, l1, l2, l3, l4⟩ := KY5.later hg
      refine wpv (v := .agg #[.int .i64 (joinR a b).e, .int .i64 (joinR a b).d, .int .i64 (joinR a b).x, .int .i64 (joinR a b).y, .int .i64 (joinR a b).z]) ?_ ⟨_, rfl, Grow.rfl' _, rfl⟩
      (generalize a'.eval = ev at ec ef e8 ⊢; simp [execOp, go_sem, *])
    · refine stepOne_run ⟨⟨⟨28, Ground.guard⟩, by simp, rfl, rfl⟩, fun _ _ h => h⟩ ?_
      intro a' w' hg hs hd
      have e68 : a'.eval (.tmp 68) = .agg #[.int .i64 (joinR a b).e, .int .i64 (joinR a b).d, .int .i64 (joinR a b).x, .int .i64 (joinR a b).y, .int .i64 (joinR a b).z] := hd ⟨29, Ground.data⟩ (by simp) rfl
      have e69 : a'.eval (.tmp 69) = .agg #[.int .i64 (joinR a b).e, .int .i64 (joinR a b).d, .int .i64 (joinR a b).x, .int .i64 (joinR a b).y, .int .i64 (joinR a b).z] := hd ⟨30, Ground.data⟩ (by simp) rfl
      have ec : ∀ v, a'.eval (.const v) = v := fun _ => rfl
      have ef : ∀ g, a'.eval (.func g) = .func (.func g) #[] #[] := fun _ => rfl
      clear hd hs
      have es := eqB_self (joinR a b)
      refine wpv (v := .bool true) ?_ ⟨_, rfl, Grow.rfl' _, rfl⟩
      (generalize a'.eval = ev at ec ef e68 e69 ⊢; simp [execOp, go_sem, *])
    · refine stepOne_run trivial ?_
      intro a' w' hg hs hd
      have e67 : a'.eval (.tmp 67) = .bool true := hd ⟨28, Ground.data⟩ (by simp) rfl
      have e70 : a'.eval (.tmp 70) = .bool true := hd ⟨31, Ground.data⟩ (by simp) rfl
      have ec : ∀ v, a'.eval (.const v) = v := fun _ => rfl
      have ef : ∀ g, a'.eval (.func g) = .func (.func g) #[] #[] := fun _ => rfl
      clear hd hs
      refine wpv (v := .bool true) ?_ ⟨_, rfl, Grow.rfl' _, rfl⟩
      (generalize a'.eval = ev at ec ef e67 e70 ⊢; simp [execOp, go_sem, *])
    · refine stepOne_run trivial ?_
      intro a' w' hg hs hd
      have e71 : a'.eval (.tmp 71) = .bool true := hd ⟨32, Ground.data⟩ (by simp) rfl
      have ec : ∀ v, a'.eval (.const v) = v := fun _ => rfl
      have ef : ∀ g, a'.eval (.func g) = .func (.func g) #[] #[] := fun _ => rfl
      clear hd hs
      refine wpv (v := .bool true) ?_ ⟨_, rfl, Grow.rfl' _, rfl⟩
      (generalize a'.eval = ev at ec ef e71 ⊢; simp [execOp, go_sem, *])
    · refine stepOne_run ⟨⟨⟨33, Ground.guard⟩, by simp, rfl, rfl⟩, fun _ _ h => h⟩ ?_
      intro a' w' hg hs hd
      have e7 : a'.eval (.tmp 7) = .int .i64 (errR a b) := hs.rest 7 rfl
      have ec : ∀ v, a'.eval (.const v) = v := fun _ => rfl
      have ef : ∀ g, a'.eval (.func g) = .func (.func g) #[] #[] := fun _ => rfl
      clear hd hs
      refine wpv (v := .int .i64 (errR a b)) ?_ ⟨_, rfl, Grow.rfl' _, rfl⟩
      (generalize a'.eval = ev at ec ef e7 ⊢; simp [execOp, go_sem, *])
    · refine stepOne_run ⟨⟨⟨33, Ground.guard⟩, by simp, rfl, rfl⟩, fun _ _ h => h⟩ ?_
      intro a' w' hg hs hd
      have e9 : a'.eval (.tmp 9) = .int .i64 (errR a b) := hs.rest 9 rfl
      have ec : ∀ v, a'.eval (.const v) = v := fun _ => rfl
      have ef : ∀ g, a'.eval (.func g) = .func (.func g) #[] #[] := fun _ => rfl
      clear hd hs
      refine wpv (v := .int .i64 (errR a b)) ?_ ⟨_, rfl, Grow.rfl' _, rfl⟩
      (generalize a'.eval = ev at ec ef e9 ⊢; simp [execOp, go_sem, *])
    · refine stepOne_run ⟨⟨⟨33, Ground.guard⟩, by simp, rfl, rfl⟩, fun _ _ h => h⟩ ?_
      intro a' w' hg hs hd
      have e73 : a'.eval (.tmp 73) = .int .i64 (errR a b) := hd ⟨34, Ground.data⟩ (by simp) rfl
      have e74 : a'.eval (.tmp 74) = .int .i64 (errR a b) := hd ⟨35, Ground.data⟩ (by simp) rfl
      have ec : ∀ v, a'.eval (.const v) = v := fun _ => rfl
      have ef : ∀ g, a'.eval (.func g) = .func (.func g) #[] #[] := fun _ => rfl
      clear hd hs
      refine wpv (v := .bool true) ?_ ⟨_, rfl, Grow.rfl' _, rfl⟩
      (generalize a'.eval = ev at ec ef e73 e74 ⊢; simp [execOp, go_sem, *])
    · refine stepOne_run trivial ?_
      intro a' w' hg hs hd
      have e72 : a'.eval (.tmp 72) = .bool true := hd ⟨33, Ground.data⟩ (by simp) rfl
      have e75 : a'.eval (.tmp 75) = .bool true := hd ⟨36, Ground.data⟩ (by simp) rfl
      have ec : ∀ v, a'.eval (.const v) = v := fun _ => rfl
      have ef : ∀ g, a'.eval (.func g) = .func (.func g) #[] #[] := fun _ => rfl
      clear hd hs
      refine wpv (v := .bool true) ?_ ⟨_, rfl, Grow.rfl' _, rfl⟩
      (generalize a'.eval = ev at ec ef e72 e75 ⊢; simp [execOp, go_sem, *])
    · refine stepOne_run trivial ?_
      intro a' w' hg hs hd
      have e76 : a'.eval (.tmp 76) = .bool true := hd ⟨37, Ground.data⟩ (by simp) rfl
      have ec : ∀ v, a'.eval (.const v) = v := fun _ => rfl
      have ef : ∀ g, a'.eval (.func g) = .func (.func g) #[] #[] := fun _ => rfl
      clear hd hs
      refine wpv (v := .bool true) ?_ ⟨_, rfl, Grow.rfl' _, rfl⟩
      (generalize a'.eval = ev at ec ef e76 ⊢; simp [execOp, go_sem, *])
    · refine stepOne_run ⟨⟨⟨38, Ground.guard⟩, by simp, rfl, rfl⟩, fun _ _ h => h⟩ ?_
      intro a' w' hg hs hd
      have e10 : a'.eval (.tmp 10) = .pointer (some ⟨w4.heap.size, 0, none⟩) := hs.rest 10 rfl
      have ec : ∀ v, a'.eval (.const v) = v := fun _ => rfl
      have ef : ∀ g, a'.eval (.func g) = .func (.func g) #[] #[] := fun _ => rfl
      clear hd hs
      obtain ⟨l0, l1, l2, l3, l4⟩ := KP5.later hg
      refine wpv (v := .agg #[.int .i64 (meetR a b).e, .int .i64 (meetR a b).d, .int .i64 (meetR a b).x, .int .i64 (meetR a b).y, .int .i64 (meetR a b).z]) ?_ ⟨_, rfl, Grow.rfl' _, rfl⟩
      (generalize a'.eval = ev at ec ef e10 ⊢; simp [execOp, go_sem, *])
    · refine stepOne_run ⟨⟨⟨38, Ground.guard⟩, by simp, rfl, rfl⟩, fun _ _ h => h⟩ ?_
      intro a' w' hg hs hd
      have e12 : a'.eval (.tmp 12) = .pointer (some ⟨w5.heap.size, 0, none⟩) := hs.rest 12 rfl
      have ec : ∀ v, a'.eval (.const v) = v := fun _ => rfl
      have ef : ∀ g, a'.eval (.func g) = .func (.func g) #[] #[] := fun _ => rfl
      clear hd hs
      obtain ⟨l0, l1, l2, l3, l4⟩ := KQ5.later hg
      refine wpv (v := .agg #[.int .i64 (meetR a b).e, .int .i64 (meetR a b).d, .int .i64 (meetR a b).x, .int .i64 (meetR a b).y, .int .i64 (meetR a b).z]) ?_ ⟨_, rfl, Grow.rfl' _, rfl⟩
      (generalize a'.eval = ev at ec ef e12 ⊢; simp [execOp, go_sem, *])
    · refine stepOne_run ⟨⟨⟨38, Ground.guard⟩, by simp, rfl, rfl⟩, fun _ _ h => h⟩ ?_
      intro a' w' hg hs hd
      have e78 : a'.eval (.tmp 78) = .agg #[.int .i64 (meetR a b).e, .int .i64 (meetR a b).d, .int .i64 (meetR a b).x, .int .i64 (meetR a b).y, .int .i64 (meetR a b).z] := hd ⟨39, Ground.data⟩ (by simp) rfl
      have e79 : a'.eval (.tmp 79) = .agg #[.int .i64 (meetR a b).e, .int .i64 (meetR a b).d, .int .i64 (meetR a b).x, .int .i64 (meetR a b).y, .int .i64 (meetR a b).z] := hd ⟨40, Ground.data⟩ (by simp) rfl
      have ec : ∀ v, a'.eval (.const v) = v := fun _ => rfl
      have ef : ∀ g, a'.eval (.func g) = .func (.func g) #[] #[] := fun _ => rfl
      clear hd hs
      have es := eqB_self (meetR a b)
      refine wpv (v := .bool true) ?_ ⟨_, rfl, Grow.rfl' _, rfl⟩
      (generalize a'.eval = ev at ec ef e78 e79 ⊢; simp [execOp, go_sem, *])
    · refine stepOne_run trivial ?_
      intro a' w' hg hs hd
      have e77 : a'.eval (.tmp 77) = .bool true := hd ⟨38, Ground.data⟩ (by simp) rfl
      have e80 : a'.eval (.tmp 80) = .bool true := hd ⟨41, Ground.data⟩ (by simp) rfl
      have ec : ∀ v, a'.eval (.const v) = v := fun _ => rfl
      have ef : ∀ g, a'.eval (.func g) = .func (.func g) #[] #[] := fun _ => rfl
      clear hd hs
      refine wpv (v := .bool true) ?_ ⟨_, rfl, Grow.rfl' _, rfl⟩
      (generalize a'.eval = ev at ec ef e77 e80 ⊢; simp [execOp, go_sem, *])
    · refine stepOne_run trivial ?_
      intro a' w' hg hs hd
      have e81 : a'.eval (.tmp 81) = .bool true := hd ⟨42, Ground.data⟩ (by simp) rfl
      have ec : ∀ v, a'.eval (.const v) = v := fun _ => rfl
      have ef : ∀ g, a'.eval (.func g) = .func (.func g) #[] #[] := fun _ => rfl
      clear hd hs
      refine wpv (v := .bool true) ?_ ⟨_, rfl, Grow.rfl' _, rfl⟩
      (generalize a'.eval = ev at ec ef e81 ⊢; simp [execOp, go_sem, *])
    · refine stepOne_run ⟨⟨⟨43, Ground.guard⟩, by simp, rfl, rfl⟩, fun _ _ h => h⟩ ?_
      intro a' w' hg hs hd
      have e11 : a'.eval (.tmp 11) = .int .i64 (errR a b) := hs.rest 11 rfl
      have ec : ∀ v, a'.eval (.const v) = v := fun _ => rfl
      have ef : ∀ g, a'.eval (.func g) = .func (.func g) #[] #[] := fun _ => rfl
      clear hd hs
      refine wpv (v := .int .i64 (errR a b)) ?_ ⟨_, rfl, Grow.rfl' _, rfl⟩
      (generalize a'.eval = ev at ec ef e11 ⊢; simp [execOp, go_sem, *])
    · refine stepOne_run ⟨⟨⟨43, Ground.guard⟩, by simp, rfl, rfl⟩, fun _ _ h => h⟩ ?_
      intro a' w' hg hs hd
      have e13 : a'.eval (.tmp 13) = .int .i64 (errR a b) := hs.rest 13 rfl
      have ec : ∀ v, a'.eval (.const v) = v := fun _ => rfl
      have ef : ∀ g, a'.eval (.func g) = .func (.func g) #[] #[] := fun _ => rfl
      clear hd hs
      refine wpv (v := .int .i64 (errR a b)) ?_ ⟨_, rfl, Grow.rfl' _, rfl⟩
      (generalize a'.eval = ev at ec ef e13 ⊢; simp [execOp, go_sem, *])
    · refine stepOne_run ⟨⟨⟨43, Ground.guard⟩, by simp, rfl, rfl⟩, fun _ _ h => h⟩ ?_
      intro a' w' hg hs hd
      have e83 : a'.eval (.tmp 83) = .int .i64 (errR a b) := hd ⟨44, Ground.data⟩ (by simp) rfl
      have e84 : a'.eval (.tmp 84) = .int .i64 (errR a b) := hd ⟨45, Ground.data⟩ (by simp) rfl
      have ec : ∀ v, a'.eval (.const v) = v := fun _ => rfl
      have ef : ∀ g, a'.eval (.func g) = .func (.func g) #[] #[] := fun _ => rfl
      clear hd hs
      refine wpv (v := .bool true) ?_ ⟨_, rfl, Grow.rfl' _, rfl⟩
      (generalize a'.eval = ev at ec ef e83 e84 ⊢; simp [execOp, go_sem, *])
    · refine stepOne_run trivial ?_
      intro a' w' hg hs hd
      have e82 : a'.eval (.tmp 82) = .bool true := hd ⟨43, Ground.data⟩ (by simp) rfl
      have e85 : a'.eval (.tmp 85) = .bool true := hd ⟨46, Ground.data⟩ (by simp) rfl
      have ec : ∀ v, a'.eval (.const v) = v := fun _ => rfl
      have ef : ∀ g, a'.eval (.func g) = .func (.func g) #[] #[] := fun _ => rfl
      clear hd hs
      refine wpv (v := .bool true) ?_ ⟨_, rfl, Grow.rfl' _, rfl⟩
      (generalize a'.eval = ev at ec ef e82 e85 ⊢; simp [execOp, go_sem, *])
    · refine stepOne_run trivial ?_
      intro a' w' hg hs hd
      have e86 : a'.eval (.tmp 86) = .bool true := hd ⟨47, Ground.data⟩ (by simp) rfl
      have ec : ∀ v, a'.eval (.const v) = v := fun _ => rfl
      have ef : ∀ g, a'.eval (.func g) = .func (.func g) #[] #[] := fun _ => rfl
      clear hd hs
      refine wpv (v := .bool true) ?_ ⟨_, rfl, Grow.rfl' _, rfl⟩
      (generalize a'.eval = ev at ec ef e86 ⊢; simp [execOp, go_sem, *])
  · intro a' w' hg hs hd
    have h0 : a'.eval (.tmp 4) = .bool true := hd 48 (by simp)
    go_wp2
    refine bodyPost_ret (v := .bool true) ?_ (by rw [hs.defers]) ⟨rfl, g5.trans' hg⟩
    clear hd hs
    simpa [results, Try.results4, Act.eval] using h0

end Go.Proofs.Ytbohgfcndclbjaa
