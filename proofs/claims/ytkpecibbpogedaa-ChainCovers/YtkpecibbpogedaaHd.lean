/-
  What the law's own head does to the world: the document's examples hold, and what was there stays as it was.
-/
import Derived.Test.YtkpecibbpogedaaPub
namespace Go.Proofs.Ytkpecibbpogedaa
set_option maxRecDepth 100000
open Go.RowKit
set_option linter.unusedVariables false

theorem chainO_by {α : Type} (O : Kin α) {l s c : List α} (hp : s.Perm (l.filter O.may)) (hs : s.Pairwise fun a b => O.ord a b ≤ 0) (hc : greedyO O s = c) : chainO O l = c := by
  rw [← hc]; exact (chainO_eq O (greedy_chain O hp hs)).symm

theorem at3_any (e x : Int) (w : World) :
    Calls Try.prog 31 #[.int .i64 e, .int .i64 x] w fun e' w' => e' = .returned (.agg #[.int .i64 (Tm.mk e 1 x 0 0).e, .int .i64 (Tm.mk e 1 x 0 0).d, .int .i64 (Tm.mk e 1 x 0 0).x, .int .i64 (Tm.mk e 1 x 0 0).y, .int .i64 (Tm.mk e 1 x 0 0).z]) ∧ Grow w w' := by
  go_enter Try.func31, Try.ntmps31
  go_wp2
  refine bodyPost_ret (v := .agg #[.int .i64 (Tm.mk e 1 x 0 0).e, .int .i64 (Tm.mk e 1 x 0 0).d, .int .i64 (Tm.mk e 1 x 0 0).x, .int .i64 (Tm.mk e 1 x 0 0).y, .int .i64 (Tm.mk e 1 x 0 0).z]) (by simp [results, Try.results31, go_sem]) rfl ⟨rfl, ?_⟩
  repeat (first | exact Below.refl _ _ | apply below_drewN | refine Below.alloc ?_ (by simp; try omega) _ | refine Below.setCell ?_ (by simp; try omega) _)

theorem eqTm5 (e d x y z e' d' x' y' z' : Int) (w : World) : (Op.equalIn 10000 25 (.agg #[.int .i64 e, .int .i64 d, .int .i64 x, .int .i64 y, .int .i64 z]) (.agg #[.int .i64 e', .int .i64 d', .int .i64 x', .int .i64 y', .int .i64 z'])).run Try.prog w = .ok (eqB ⟨e, d, x, y, z⟩ ⟨e', d', x', y', z'⟩) w := eqTm ⟨e, d, x, y, z⟩ ⟨e', d', x', y', z'⟩ w
attribute [local go_sem ↓] eqTm5
attribute [local go_sem] eqB

def exL : List Tm := [⟨2, 1, 1, 0, 0⟩, ⟨1, 1, 3, 0, 0⟩, ⟨3, 1, 1, 0, 0⟩, ⟨2, 1, 1, 0, 0⟩]
def exC : List Tm := [⟨1, 1, 3, 0, 0⟩, ⟨2, 1, 1, 0, 0⟩]
def exM : List Tm := [⟨1, 1, 0, 0, 0⟩]
theorem exC_is : chainO kinT exL = exC :=
  chainO_by kinT (s := [⟨1, 1, 3, 0, 0⟩, ⟨2, 1, 1, 0, 0⟩, ⟨2, 1, 1, 0, 0⟩, ⟨3, 1, 1, 0, 0⟩]) (.trans (.swap _ _ _) (.cons _ (.cons _ (.swap _ _ _)))) (by decide) rfl
theorem exM_is : chainO kinT (exC ++ [⟨1, 1, 0, 0, 0⟩]) = exM :=
  chainO_by kinT (s := [⟨1, 1, 0, 0, 0⟩, ⟨1, 1, 3, 0, 0⟩, ⟨2, 1, 1, 0, 0⟩]) (.trans (.swap _ _ _) (.cons _ (.swap _ _ _))) (by decide) rfl
theorem exL_row (w : World) : IsTms (w.alloc (.cells #[.int .i64 2, .int .i64 1, .int .i64 1, .int .i64 0, .int .i64 0, .int .i64 1, .int .i64 1, .int .i64 3, .int .i64 0, .int .i64 0, .int .i64 3, .int .i64 1, .int .i64 1, .int .i64 0, .int .i64 0, .int .i64 2, .int .i64 1, .int .i64 1, .int .i64 0, .int .i64 0] 25)) (some ⟨w.heap.size, 0, none⟩) 4 4 exL := by
  refine ⟨rfl, Nat.le_refl _, .inr ⟨_, _, rfl, fun j v hj => ?_⟩⟩
  have hj' : j < 20 := (List.getElem?_eq_some_iff.1 hj).1
  have : j = 0 ∨ j = 1 ∨ j = 2 ∨ j = 3 ∨ j = 4 ∨ j = 5 ∨ j = 6 ∨ j = 7 ∨ j = 8 ∨ j = 9 ∨ j = 10 ∨ j = 11 ∨ j = 12 ∨ j = 13 ∨ j = 14 ∨ j = 15 ∨ j = 16 ∨ j = 17 ∨ j = 18 ∨ j = 19 := by omega
  rcases this with rfl | rfl | rfl | rfl | rfl | rfl | rfl | rfl | rfl | rfl | rfl | rfl | rfl | rfl | rfl | rfl | rfl | rfl | rfl | rfl <;> simp [exL, flatT, encT] at hj <;> subst hj <;> simp [go_sem]

/-- The chain of the example lies in a block. -/
theorem exC_at {w : World} {s : Option Addr} {n cap : Nat} (h : IsTms w s n cap exC) : n = 2 ∧ 2 ≤ cap ∧ ∃ b o, s = some ⟨b, o, none⟩ ∧ (w.cell? ⟨b, o, none⟩ = some (.int .i64 1) ∧ w.cell? ⟨b, o + 1, none⟩ = some (.int .i64 1) ∧ w.cell? ⟨b, o + 2, none⟩ = some (.int .i64 3) ∧ w.cell? ⟨b, o + 3, none⟩ = some (.int .i64 0) ∧ w.cell? ⟨b, o + 4, none⟩ = some (.int .i64 0))
    ∧ (w.cell? ⟨b, o + 5, none⟩ = some (.int .i64 2) ∧ w.cell? ⟨b, o + 6, none⟩ = some (.int .i64 1) ∧ w.cell? ⟨b, o + 7, none⟩ = some (.int .i64 1) ∧ w.cell? ⟨b, o + 8, none⟩ = some (.int .i64 0) ∧ w.cell? ⟨b, o + 9, none⟩ = some (.int .i64 0)) := by
  obtain ⟨h1, h2, h3⟩ := h
  obtain rfl : n = 2 := h1.symm
  obtain ⟨b, o, rfl, hr⟩ := h3.resolve_left (by simp [exC])
  exact ⟨rfl, h2, b, o, rfl, ⟨hr 0 _ rfl, hr 1 _ rfl, hr 2 _ rfl, hr 3 _ rfl, hr 4 _ rfl⟩, hr 5 _ rfl, hr 6 _ rfl, hr 7 _ rfl, hr 8 _ rfl, hr 9 _ rfl⟩
theorem exM_at {w : World} {s : Option Addr} {n cap : Nat} (h : IsTms w s n cap exM) : n = 1 ∧ ∃ b o, s = some ⟨b, o, none⟩ ∧ (w.cell? ⟨b, o, none⟩ = some (.int .i64 1) ∧ w.cell? ⟨b, o + 1, none⟩ = some (.int .i64 1) ∧ w.cell? ⟨b, o + 2, none⟩ = some (.int .i64 0) ∧ w.cell? ⟨b, o + 3, none⟩ = some (.int .i64 0) ∧ w.cell? ⟨b, o + 4, none⟩ = some (.int .i64 0)) := by
  obtain ⟨h1, h2, h3⟩ := h
  obtain rfl : n = 1 := h1.symm
  obtain ⟨b, o, rfl, hr⟩ := h3.resolve_left (by simp [exM])
  exact ⟨rfl, b, o, rfl, hr 0 _ rfl, hr 1 _ rfl, hr 2 _ rfl, hr 3 _ rfl, hr 4 _ rfl⟩

set_option maxHeartbeats 4000000 in
theorem shown_any (w : World) :
    Calls Try.prog 9 #[] w fun e w' => e = .returned (.bool true) ∧ Grow w w' := by
  go_enter Try.func9, Try.ntmps9
  go_wp2_with fail
  refine (at3_any 2 1 _).mono ?_
  rintro e w1 ⟨rfl, hb⟩
  have G1 := hide hb
  clear hb
  go_wp2_with fail
  refine (at3_any 1 3 _).mono ?_
  rintro e w2 ⟨rfl, hb⟩
  have G2 := hide (Grow.trans' G1.out hb)
  clear hb G1
  go_wp2_with fail
  refine (at3_any 3 1 _).mono ?_
  rintro e w3 ⟨rfl, hb⟩
  have G3 := hide (Grow.trans' G2.out hb)
  clear hb G2
  go_wp2_with fail
  refine (at3_any 2 1 _).mono ?_
  rintro e w4 ⟨rfl, hb⟩
  have G4 := hide (Grow.trans' G3.out hb)
  clear hb G3
  go_wp2_with fail
  refine (chainT_any _ 4 4 exL _ (by omega) (exL_row w4)).mono ?_
  rintro e w5 ⟨v, rfl, hb, s, n, cap, rfl, hI⟩
  rw [exC_is] at hI
  have G5 := hide (Grow.trans' (Grow.trans' G4.out (Grow.alloc' _ _)) hb)
  obtain ⟨rfl, hcap, b, o, rfl, -⟩ := exC_at hI
  have HC5 := hide hI
  clear hb G4 hI
  go_wp2_with fail
  refine (at3_any 1 0 _).mono ?_
  rintro e w6 ⟨rfl, hb⟩
  have G6 := hide (Grow.trans' G5.out hb)
  have HC6 := hide (HC5.out.later hb)
  clear hb G5 HC5
  go_wp2_with fail
  refine (moreT_any (some ⟨b, o, none⟩) 2 cap exC ⟨1, 1, 0, 0, 0⟩ w6 (by omega) HC6.out).mono ?_
  rintro e w7 ⟨v, rfl, hb, s, n, capm, rfl, hI⟩
  rw [exM_is] at hI
  rw [show (kinT.may ⟨1, 1, 0, 0, 0⟩ && !coverB kinT exC ⟨1, 1, 0, 0, 0⟩) = true from rfl]
  obtain ⟨rfl, bm, om, rfl, -⟩ := exM_at hI
  have G7 := hide (Grow.trans' G6.out hb)
  have HC := hide (HC6.out.later hb)
  have HM := hide hI
  clear hb G6 HC6 hI
  go_wp2_with fail
  let FF : Nat → Value → World → Prop := fun i vF wF => match i with | 0 => vF = .slice (some ⟨b, o, none⟩) 2 cap | 1 => vF = .int .i64 2 | 2 => vF = .bool true | 3 => vF = .bool true | 4 => vF = .slice (some ⟨b, o, none⟩) 2 cap | 5 => vF = .pointer (some ⟨b, o, none⟩) | 6 => vF = .agg #[.int .i64 1, .int .i64 1, .int .i64 3, .int .i64 0, .int .i64 0] | 7 => vF = .agg #[.int .i64 1, .int .i64 1, .int .i64 3, .int .i64 0, .int .i64 0] | 8 => vF = .bool true | 9 => vF = .bool true | 10 => vF = .bool true | 11 => vF = .slice (some ⟨b, o, none⟩) 2 cap | 12 => vF = .pointer (some ⟨b, o + 5, none⟩) | 13 => vF = .agg #[.int .i64 2, .int .i64 1, .int .i64 1, .int .i64 0, .int .i64 0] | 14 => vF = .agg #[.int .i64 2, .int .i64 1, .int .i64 1, .int .i64 0, .int .i64 0] | 15 => vF = .bool true | 16 => vF = .bool true | 17 => vF = .bool true | 18 => vF = .slice (some ⟨bm, om, none⟩) 1 capm | 19 => vF = .int .i64 1 | 20 => vF = .bool true | 21 => vF = .bool true | 22 => vF = .bool true | 23 => vF = .slice (some ⟨bm, om, none⟩) 1 capm | 24 => vF = .pointer (some ⟨bm, om, none⟩) | 25 => vF = .agg #[.int .i64 1, .int .i64 1, .int .i64 0, .int .i64 0, .int .i64 0] | 26 => vF = .agg #[.int .i64 1, .int .i64 1, .int .i64 0, .int .i64 0, .int .i64 0] | 27 => vF = .bool true | 28 => vF = .bool true | 29 => vF = .bool true | 30 => vF = .bool true | 31 => vF = .bool true | 32 => vF = .bool true | 33 => vF = .slice (some ⟨b, o, none⟩) 2 cap | 34 => vF = .agg #[.int .i64 2, .int .i64 1, .int .i64 9, .int .i64 0, .int .i64 0] | 35 => vF = .bool true | 36 => vF = .bool true | 37 => vF = .bool true | 38 => vF = .slice (some ⟨b, o, none⟩) 2 cap | 39 => vF = .agg #[.int .i64 1, .int .i64 1, .int .i64 2, .int .i64 0, .int .i64 0] | 40 => vF = .bool false | 41 => vF = .bool true | 42 => vF = .bool true | 43 => vF = .bool true | _ => True
  have hstab : ∀ k v w1 w2, Grow w1 w2 → FF k v w1 → FF k v w2 := by
    intro k v w1 w2 hg h
    match k with
    | 0 => exact h
    | 1 => exact h
    | 2 => exact h
    | 3 => exact h
    | 4 => exact h
    | 5 => exact h
    | 6 => exact h
    | 7 => exact h
    | 8 => exact h
    | 9 => exact h
    | 10 => exact h
    | 11 => exact h
    | 12 => exact h
    | 13 => exact h
    | 14 => exact h
    | 15 => exact h
    | 16 => exact h
    | 17 => exact h
    | 18 => exact h
    | 19 => exact h
    | 20 => exact h
    | 21 => exact h
    | 22 => exact h
    | 23 => exact h
    | 24 => exact h
    | 25 => exact h
    | 26 => exact h
    | 27 => exact h
    | 28 => exact h
    | 29 => exact h
    | 30 => exact h
    | 31 => exact h
    | 32 => exact h
    | 33 => exact h
    | 34 => exact h
    | 35 => exact h
    | 36 => exact h
    | 37 => exact h
    | 38 => exact h
    | 39 => exact h
    | 40 => exact h
    | 41 => exact h
    | 42 => exact h
    | 43 => exact h
    | k + 44 => exact trivial
  refine wp_region_invK FF (fun _ => none) (by kernel_rfl) (by kernel_rfl) ?_ ?_
  · refine ⟨?_, ?_, ?_, ?_, ?_, ?_, ?_, ?_, ?_, ?_, ?_, ?_, ?_, ?_, ?_, ?_, ?_, ?_, ?_, ?_, ?_, ?_, ?_, ?_, ?_, ?_, ?_, ?_, ?_, ?_, ?_, ?_, ?_, ?_, ?_, ?_, ?_, ?_, ?_, ?_, ?_, ?_, ?_, ?_, trivial⟩
    · refine stepK_run hstab trivial (by intro j b h; cases h) ?_
      intro a' w' hg hs hd
      have e1 : a'.eval (.tmp 1) = .slice (some ⟨b, o, none⟩) 2 cap := hs.rest 1 rfl
      have ec : ∀ v, a'.eval (.const v) = v := fun _ => rfl
      have ef : ∀ g, a'.eval (.func g) = .func (.func g) #[] #[] := fun _ => rfl
      clear hd hs
      refine wpv (v := .slice (some ⟨b, o, none⟩) 2 cap) ?_ ⟨_, rfl, Grow.rfl' _, rfl⟩
      (generalize a'.eval = ev at ec ef e1 ⊢; simp [execOp, go_sem, *])
    · refine stepK_run hstab trivial (by intro j b h; cases h) ?_
      intro a' w' hg hs hd
      have e16 : a'.eval (.tmp 16) = .slice (some ⟨b, o, none⟩) 2 cap := hd ⟨0, Ground.data⟩ (by simp) rfl rfl
      have ec : ∀ v, a'.eval (.const v) = v := fun _ => rfl
      have ef : ∀ g, a'.eval (.func g) = .func (.func g) #[] #[] := fun _ => rfl
      clear hd hs
      refine wpv (v := .int .i64 2) ?_ ⟨_, rfl, Grow.rfl' _, rfl⟩
      (generalize a'.eval = ev at ec ef e16 ⊢; simp [go_sem, *])
    · refine stepK_run hstab trivial (by intro j b h; cases h) ?_
      intro a' w' hg hs hd
      have e17 : a'.eval (.tmp 17) = .int .i64 2 := hd ⟨1, Ground.data⟩ (by simp) rfl rfl
      have ec : ∀ v, a'.eval (.const v) = v := fun _ => rfl
      have ef : ∀ g, a'.eval (.func g) = .func (.func g) #[] #[] := fun _ => rfl
      clear hd hs
      refine wpv (v := .bool true) ?_ ⟨_, rfl, Grow.rfl' _, rfl⟩
      (generalize a'.eval = ev at ec ef e17 ⊢; simp [execOp, go_sem, *])
    · refine stepK_run hstab trivial (by intro j b h; cases h) ?_
      intro a' w' hg hs hd
      have e18 : a'.eval (.tmp 18) = .bool true := hd ⟨2, Ground.data⟩ (by simp) rfl rfl
      have ec : ∀ v, a'.eval (.const v) = v := fun _ => rfl
      have ef : ∀ g, a'.eval (.func g) = .func (.func g) #[] #[] := fun _ => rfl
      clear hd hs
      refine wpv (v := .bool true) ?_ ⟨_, rfl, Grow.rfl' _, rfl⟩
      (generalize a'.eval = ev at ec ef e18 ⊢; simp [execOp, go_sem, *])
    · refine stepK_run hstab ⟨⟨⟨3, Ground.guard⟩, by simp, rfl, rfl⟩, fun _ _ h => h⟩ (by intro j b h; cases h; rfl) ?_
      intro a' w' hg hs hd
      have e1 : a'.eval (.tmp 1) = .slice (some ⟨b, o, none⟩) 2 cap := hs.rest 1 rfl
      have ec : ∀ v, a'.eval (.const v) = v := fun _ => rfl
      have ef : ∀ g, a'.eval (.func g) = .func (.func g) #[] #[] := fun _ => rfl
      clear hd hs
      refine wpv (v := .slice (some ⟨b, o, none⟩) 2 cap) ?_ ⟨_, rfl, Grow.rfl' _, rfl⟩
      (generalize a'.eval = ev at ec ef e1 ⊢; simp [execOp, go_sem, *])
    · refine stepK_run hstab ⟨⟨⟨3, Ground.guard⟩, by simp, rfl, rfl⟩, fun _ _ h => h⟩ (by intro j b h; cases h; rfl) ?_
      intro a' w' hg hs hd
      have e20 : a'.eval (.tmp 20) = .slice (some ⟨b, o, none⟩) 2 cap := hd ⟨4, Ground.data⟩ (by simp) rfl rfl
      have ec : ∀ v, a'.eval (.const v) = v := fun _ => rfl
      have ef : ∀ g, a'.eval (.func g) = .func (.func g) #[] #[] := fun _ => rfl
      clear hd hs
      refine wpv (v := .pointer (some ⟨b, o, none⟩)) ?_ ⟨_, rfl, Grow.rfl' _, rfl⟩
      (generalize a'.eval = ev at ec ef e20 ⊢; simp [execOp, go_sem, *])
    · refine stepK_run hstab ⟨⟨⟨3, Ground.guard⟩, by simp, rfl, rfl⟩, fun _ _ h => h⟩ (by intro j b h; cases h; rfl) ?_
      intro a' w' hg hs hd
      have e21 : a'.eval (.tmp 21) = .pointer (some ⟨b, o, none⟩) := hd ⟨5, Ground.data⟩ (by simp) rfl rfl
      have ec : ∀ v, a'.eval (.const v) = v := fun _ => rfl
      have ef : ∀ g, a'.eval (.func g) = .func (.func g) #[] #[] := fun _ => rfl
      clear hd hs
      obtain ⟨-, -, b2, o2, hs2, ⟨y0, y1, y2, y3, y4⟩, y5, y6, y7, y8, y9⟩ := exC_at (HC.out.later hg); obtain ⟨rfl, rfl⟩ : b2 = b ∧ o2 = o := by (injection hs2 with hs3; injection hs3 with i1 i2 i3; exact ⟨i1.symm, i2.symm⟩)
      refine wpv (v := .agg #[.int .i64 1, .int .i64 1, .int .i64 3, .int .i64 0, .int .i64 0]) ?_ ⟨_, rfl, Grow.rfl' _, rfl⟩
      (generalize a'.eval = ev at ec ef e21 ⊢; simp [execOp, go_sem, *])
    · refine stepK_run hstab ⟨⟨⟨3, Ground.chain⟩, by simp, rfl, rfl⟩, fun _ _ h => h⟩ (by intro j b h; cases h; rfl) ?_
      intro a' w' hg hs hd
      have ec : ∀ v, a'.eval (.const v) = v := fun _ => rfl
      have ef : ∀ g, a'.eval (.func g) = .func (.func g) #[] #[] := fun _ => rfl
      clear hd hs
      refine wpc ?_ (Calls.mono (at3_any 1 3 w') fun e w2 ⟨he, hb⟩ => ⟨_, he, _, rfl, hb, rfl⟩)
      (generalize a'.eval = ev at ec ef ⊢; simp [execOp, go_sem, *])
    · refine stepK_run hstab ⟨⟨⟨3, Ground.guard⟩, by simp, rfl, rfl⟩, fun _ _ h => h⟩ (by intro j b h; cases h; rfl) ?_
      intro a' w' hg hs hd
      have e22 : a'.eval (.tmp 22) = .agg #[.int .i64 1, .int .i64 1, .int .i64 3, .int .i64 0, .int .i64 0] := hd ⟨6, Ground.data⟩ (by simp) rfl rfl
      have e23 : a'.eval (.tmp 23) = .agg #[.int .i64 1, .int .i64 1, .int .i64 3, .int .i64 0, .int .i64 0] := hd ⟨7, Ground.data⟩ (by simp) rfl rfl
      have ec : ∀ v, a'.eval (.const v) = v := fun _ => rfl
      have ef : ∀ g, a'.eval (.func g) = .func (.func g) #[] #[] := fun _ => rfl
      clear hd hs
      refine wpv (v := .bool true) ?_ ⟨_, rfl, Grow.rfl' _, rfl⟩
      (generalize a'.eval = ev at ec ef e22 e23 ⊢; simp [execOp, go_sem, *])
    · refine stepK_run hstab trivial (by intro j b h; cases h) ?_
      intro a' w' hg hs hd
      have e19 : a'.eval (.tmp 19) = .bool true := hd ⟨3, Ground.data⟩ (by simp) rfl rfl
      have e24 : a'.eval (.tmp 24) = .bool true := hd ⟨8, Ground.data⟩ (by simp) rfl rfl
      have ec : ∀ v, a'.eval (.const v) = v := fun _ => rfl
      have ef : ∀ g, a'.eval (.func g) = .func (.func g) #[] #[] := fun _ => rfl
      clear hd hs
      refine wpv (v := .bool true) ?_ ⟨_, rfl, Grow.rfl' _, rfl⟩
      (generalize a'.eval = ev at ec ef e19 e24 ⊢; simp [execOp, go_sem, *])
    · refine stepK_run hstab trivial (by intro j b h; cases h) ?_
      intro a' w' hg hs hd
      have e25 : a'.eval (.tmp 25) = .bool true := hd ⟨9, Ground.data⟩ (by simp) rfl rfl
      have ec : ∀ v, a'.eval (.const v) = v := fun _ => rfl
      have ef : ∀ g, a'.eval (.func g) = .func (.func g) #[] #[] := fun _ => rfl
      clear hd hs
      refine wpv (v := .bool true) ?_ ⟨_, rfl, Grow.rfl' _, rfl⟩
      (generalize a'.eval = ev at ec ef e25 ⊢; simp [execOp, go_sem, *])
    · refine stepK_run hstab ⟨⟨⟨10, Ground.guard⟩, by simp, rfl, rfl⟩, fun _ _ h => h⟩ (by intro j b h; cases h; rfl) ?_
      intro a' w' hg hs hd
      have e1 : a'.eval (.tmp 1) = .slice (some ⟨b, o, none⟩) 2 cap := hs.rest 1 rfl
      have ec : ∀ v, a'.eval (.const v) = v := fun _ => rfl
      have ef : ∀ g, a'.eval (.func g) = .func (.func g) #[] #[] := fun _ => rfl
      clear hd hs
      refine wpv (v := .slice (some ⟨b, o, none⟩) 2 cap) ?_ ⟨_, rfl, Grow.rfl' _, rfl⟩
      (generalize a'.eval = ev at ec ef e1 ⊢; simp [execOp, go_sem, *])
    · refine stepK_run hstab ⟨⟨⟨10, Ground.guard⟩, by simp, rfl, rfl⟩, fun _ _ h => h⟩ (by intro j b h; cases h; rfl) ?_
      intro a' w' hg hs hd
      have e27 : a'.eval (.tmp 27) = .slice (some ⟨b, o, none⟩) 2 cap := hd ⟨11, Ground.data⟩ (by simp) rfl rfl
      have ec : ∀ v, a'.eval (.const v) = v := fun _ => rfl
      have ef : ∀ g, a'.eval (.func g) = .func (.func g) #[] #[] := fun _ => rfl
      clear hd hs
      refine wpv (v := .pointer (some ⟨b, o + 5, none⟩)) ?_ ⟨_, rfl, Grow.rfl' _, rfl⟩
      (generalize a'.eval = ev at ec ef e27 ⊢; simp [execOp, go_sem, *])
    · refine stepK_run hstab ⟨⟨⟨10, Ground.guard⟩, by simp, rfl, rfl⟩, fun _ _ h => h⟩ (by intro j b h; cases h; rfl) ?_
      intro a' w' hg hs hd
      have e28 : a'.eval (.tmp 28) = .pointer (some ⟨b, o + 5, none⟩) := hd ⟨12, Ground.data⟩ (by simp) rfl rfl
      have ec : ∀ v, a'.eval (.const v) = v := fun _ => rfl
      have ef : ∀ g, a'.eval (.func g) = .func (.func g) #[] #[] := fun _ => rfl
      clear hd hs
      obtain ⟨-, -, b2, o2, hs2, ⟨y0, y1, y2, y3, y4⟩, y5, y6, y7, y8, y9⟩ := exC_at (HC.out.later hg); obtain ⟨rfl, rfl⟩ : b2 = b ∧ o2 = o := by (injection hs2 with hs3; injection hs3 with i1 i2 i3; exact ⟨i1.symm, i2.symm⟩)
      refine wpv (v := .agg #[.int .i64 2, .int .i64 1, .int .i64 1, .int .i64 0, .int .i64 0]) ?_ ⟨_, rfl, Grow.rfl' _, rfl⟩
      (generalize a'.eval = ev at ec ef e28 ⊢; simp [execOp, go_sem, *])
    · refine stepK_run hstab ⟨⟨⟨10, Ground.chain⟩, by simp, rfl, rfl⟩, fun _ _ h => h⟩ (by intro j b h; cases h; rfl) ?_
      intro a' w' hg hs hd
      have ec : ∀ v, a'.eval (.const v) = v := fun _ => rfl
      have ef : ∀ g, a'.eval (.func g) = .func (.func g) #[] #[] := fun _ => rfl
      clear hd hs
      refine wpc ?_ (Calls.mono (at3_any 2 1 w') fun e w2 ⟨he, hb⟩ => ⟨_, he, _, rfl, hb, rfl⟩)
      (generalize a'.eval = ev at ec ef ⊢; simp [execOp, go_sem, *])
    · refine stepK_run hstab ⟨⟨⟨10, Ground.guard⟩, by simp, rfl, rfl⟩, fun _ _ h => h⟩ (by intro j b h; cases h; rfl) ?_
      intro a' w' hg hs hd
      have e29 : a'.eval (.tmp 29) = .agg #[.int .i64 2, .int .i64 1, .int .i64 1, .int .i64 0, .int .i64 0] := hd ⟨13, Ground.data⟩ (by simp) rfl rfl
      have e30 : a'.eval (.tmp 30) = .agg #[.int .i64 2, .int .i64 1, .int .i64 1, .int .i64 0, .int .i64 0] := hd ⟨14, Ground.data⟩ (by simp) rfl rfl
      have ec : ∀ v, a'.eval (.const v) = v := fun _ => rfl
      have ef : ∀ g, a'.eval (.func g) = .func (.func g) #[] #[] := fun _ => rfl
      clear hd hs
      refine wpv (v := .bool true) ?_ ⟨_, rfl, Grow.rfl' _, rfl⟩
      (generalize a'.eval = ev at ec ef e29 e30 ⊢; simp [execOp, go_sem, *])
    · refine stepK_run hstab trivial (by intro j b h; cases h) ?_
      intro a' w' hg hs hd
      have e26 : a'.eval (.tmp 26) = .bool true := hd ⟨10, Ground.data⟩ (by simp) rfl rfl
      have e31 : a'.eval (.tmp 31) = .bool true := hd ⟨15, Ground.data⟩ (by simp) rfl rfl
      have ec : ∀ v, a'.eval (.const v) = v := fun _ => rfl
      have ef : ∀ g, a'.eval (.func g) = .func (.func g) #[] #[] := fun _ => rfl
      clear hd hs
      refine wpv (v := .bool true) ?_ ⟨_, rfl, Grow.rfl' _, rfl⟩
      (generalize a'.eval = ev at ec ef e26 e31 ⊢; simp [execOp, go_sem, *])
    · refine stepK_run hstab trivial (by intro j b h; cases h) ?_
      intro a' w' hg hs hd
      have e32 : a'.eval (.tmp 32) = .bool true := hd ⟨16, Ground.data⟩ (by simp) rfl rfl
      have ec : ∀ v, a'.eval (.const v) = v := fun _ => rfl
      have ef : ∀ g, a'.eval (.func g) = .func (.func g) #[] #[] := fun _ => rfl
      clear hd hs
      refine wpv (v := .bool true) ?_ ⟨_, rfl, Grow.rfl' _, rfl⟩
      (generalize a'.eval = ev at ec ef e32 ⊢; simp [execOp, go_sem, *])
    · refine stepK_run hstab ⟨⟨⟨17, Ground.guard⟩, by simp, rfl, rfl⟩, fun _ _ h => h⟩ (by intro j b h; cases h; rfl) ?_
      intro a' w' hg hs hd
      have e2 : a'.eval (.tmp 2) = .slice (some ⟨bm, om, none⟩) 1 capm := hs.rest 2 rfl
      have ec : ∀ v, a'.eval (.const v) = v := fun _ => rfl
      have ef : ∀ g, a'.eval (.func g) = .func (.func g) #[] #[] := fun _ => rfl
      clear hd hs
      refine wpv (v := .slice (some ⟨bm, om, none⟩) 1 capm) ?_ ⟨_, rfl, Grow.rfl' _, rfl⟩
      (generalize a'.eval = ev at ec ef e2 ⊢; simp [execOp, go_sem, *])
    · refine stepK_run hstab ⟨⟨⟨17, Ground.guard⟩, by simp, rfl, rfl⟩, fun _ _ h => h⟩ (by intro j b h; cases h; rfl) ?_
      intro a' w' hg hs hd
      have e34 : a'.eval (.tmp 34) = .slice (some ⟨bm, om, none⟩) 1 capm := hd ⟨18, Ground.data⟩ (by simp) rfl rfl
      have ec : ∀ v, a'.eval (.const v) = v := fun _ => rfl
      have ef : ∀ g, a'.eval (.func g) = .func (.func g) #[] #[] := fun _ => rfl
      clear hd hs
      refine wpv (v := .int .i64 1) ?_ ⟨_, rfl, Grow.rfl' _, rfl⟩
      (generalize a'.eval = ev at ec ef e34 ⊢; simp [go_sem, *])
    · refine stepK_run hstab ⟨⟨⟨17, Ground.guard⟩, by simp, rfl, rfl⟩, fun _ _ h => h⟩ (by intro j b h; cases h; rfl) ?_
      intro a' w' hg hs hd
      have e35 : a'.eval (.tmp 35) = .int .i64 1 := hd ⟨19, Ground.data⟩ (by simp) rfl rfl
      have ec : ∀ v, a'.eval (.const v) = v := fun _ => rfl
      have ef : ∀ g, a'.eval (.func g) = .func (.func g) #[] #[] := fun _ => rfl
      clear hd hs
      refine wpv (v := .bool true) ?_ ⟨_, rfl, Grow.rfl' _, rfl⟩
      (generalize a'.eval = ev at ec ef e35 ⊢; simp [execOp, go_sem, *])
    · refine stepK_run hstab trivial (by intro j b h; cases h) ?_
      intro a' w' hg hs hd
      have e33 : a'.eval (.tmp 33) = .bool true := hd ⟨17, Ground.data⟩ (by simp) rfl rfl
      have e36 : a'.eval (.tmp 36) = .bool true := hd ⟨20, Ground.data⟩ (by simp) rfl rfl
      have ec : ∀ v, a'.eval (.const v) = v := fun _ => rfl
      have ef : ∀ g, a'.eval (.func g) = .func (.func g) #[] #[] := fun _ => rfl
      clear hd hs
      refine wpv (v := .bool true) ?_ ⟨_, rfl, Grow.rfl' _, rfl⟩
      (generalize a'.eval = ev at ec ef e33 e36 ⊢; simp [execOp, go_sem, *])
    · refine stepK_run hstab trivial (by intro j b h; cases h) ?_
      intro a' w' hg hs hd
      have e37 : a'.eval (.tmp 37) = .bool true := hd ⟨21, Ground.data⟩ (by simp) rfl rfl
      have ec : ∀ v, a'.eval (.const v) = v := fun _ => rfl
      have ef : ∀ g, a'.eval (.func g) = .func (.func g) #[] #[] := fun _ => rfl
      clear hd hs
      refine wpv (v := .bool true) ?_ ⟨_, rfl, Grow.rfl' _, rfl⟩
      (generalize a'.eval = ev at ec ef e37 ⊢; simp [execOp, go_sem, *])
    · refine stepK_run hstab ⟨⟨⟨22, Ground.guard⟩, by simp, rfl, rfl⟩, fun _ _ h => h⟩ (by intro j b h; cases h; rfl) ?_
      intro a' w' hg hs hd
      have e2 : a'.eval (.tmp 2) = .slice (some ⟨bm, om, none⟩) 1 capm := hs.rest 2 rfl
      have ec : ∀ v, a'.eval (.const v) = v := fun _ => rfl
      have ef : ∀ g, a'.eval (.func g) = .func (.func g) #[] #[] := fun _ => rfl
      clear hd hs
      refine wpv (v := .slice (some ⟨bm, om, none⟩) 1 capm) ?_ ⟨_, rfl, Grow.rfl' _, rfl⟩
      (generalize a'.eval = ev at ec ef e2 ⊢; simp [execOp, go_sem, *])
    · refine stepK_run hstab ⟨⟨⟨22, Ground.guard⟩, by simp, rfl, rfl⟩, fun _ _ h => h⟩ (by intro j b h; cases h; rfl) ?_
      intro a' w' hg hs hd
      have e39 : a'.eval (.tmp 39) = .slice (some ⟨bm, om, none⟩) 1 capm := hd ⟨23, Ground.data⟩ (by simp) rfl rfl
      have ec : ∀ v, a'.eval (.const v) = v := fun _ => rfl
      have ef : ∀ g, a'.eval (.func g) = .func (.func g) #[] #[] := fun _ => rfl
      clear hd hs
      refine wpv (v := .pointer (some ⟨bm, om, none⟩)) ?_ ⟨_, rfl, Grow.rfl' _, rfl⟩
      (generalize a'.eval = ev at ec ef e39 ⊢; simp [execOp, go_sem, *])
    · refine stepK_run hstab ⟨⟨⟨22, Ground.guard⟩, by simp, rfl, rfl⟩, fun _ _ h => h⟩ (by intro j b h; cases h; rfl) ?_
      intro a' w' hg hs hd
      have e40 : a'.eval (.tmp 40) = .pointer (some ⟨bm, om, none⟩) := hd ⟨24, Ground.data⟩ (by simp) rfl rfl
      have ec : ∀ v, a'.eval (.const v) = v := fun _ => rfl
      have ef : ∀ g, a'.eval (.func g) = .func (.func g) #[] #[] := fun _ => rfl
      clear hd hs
      obtain ⟨-, b3, o3, hs4, y0, y1, y2, y3, y4⟩ := exM_at (HM.out.later hg); obtain ⟨rfl, rfl⟩ : b3 = bm ∧ o3 = om := by (injection hs4 with hs3; injection hs3 with i1 i2 i3; exact ⟨i1.symm, i2.symm⟩)
      refine wpv (v := .agg #[.int .i64 1, .int .i64 1, .int .i64 0, .int .i64 0, .int .i64 0]) ?_ ⟨_, rfl, Grow.rfl' _, rfl⟩
      (generalize a'.eval = ev at ec ef e40 ⊢; simp [execOp, go_sem, *])
    · refine stepK_run hstab ⟨⟨⟨22, Ground.chain⟩, by simp, rfl, rfl⟩, fun _ _ h => h⟩ (by intro j b h; cases h; rfl) ?_
      intro a' w' hg hs hd
      have ec : ∀ v, a'.eval (.const v) = v := fun _ => rfl
      have ef : ∀ g, a'.eval (.func g) = .func (.func g) #[] #[] := fun _ => rfl
      clear hd hs
      refine wpc ?_ (Calls.mono (at3_any 1 0 w') fun e w2 ⟨he, hb⟩ => ⟨_, he, _, rfl, hb, rfl⟩)
      (generalize a'.eval = ev at ec ef ⊢; simp [execOp, go_sem, *])
    · refine stepK_run hstab ⟨⟨⟨22, Ground.guard⟩, by simp, rfl, rfl⟩, fun _ _ h => h⟩ (by intro j b h; cases h; rfl) ?_
      intro a' w' hg hs hd
      have e41 : a'.eval (.tmp 41) = .agg #[.int .i64 1, .int .i64 1, .int .i64 0, .int .i64 0, .int .i64 0] := hd ⟨25, Ground.data⟩ (by simp) rfl rfl
      have e42 : a'.eval (.tmp 42) = .agg #[.int .i64 1, .int .i64 1, .int .i64 0, .int .i64 0, .int .i64 0] := hd ⟨26, Ground.data⟩ (by simp) rfl rfl
      have ec : ∀ v, a'.eval (.const v) = v := fun _ => rfl
      have ef : ∀ g, a'.eval (.func g) = .func (.func g) #[] #[] := fun _ => rfl
      clear hd hs
      refine wpv (v := .bool true) ?_ ⟨_, rfl, Grow.rfl' _, rfl⟩
      (generalize a'.eval = ev at ec ef e41 e42 ⊢; simp [execOp, go_sem, *])
    · refine stepK_run hstab trivial (by intro j b h; cases h) ?_
      intro a' w' hg hs hd
      have e38 : a'.eval (.tmp 38) = .bool true := hd ⟨22, Ground.data⟩ (by simp) rfl rfl
      have e43 : a'.eval (.tmp 43) = .bool true := hd ⟨27, Ground.data⟩ (by simp) rfl rfl
      have ec : ∀ v, a'.eval (.const v) = v := fun _ => rfl
      have ef : ∀ g, a'.eval (.func g) = .func (.func g) #[] #[] := fun _ => rfl
      clear hd hs
      refine wpv (v := .bool true) ?_ ⟨_, rfl, Grow.rfl' _, rfl⟩
      (generalize a'.eval = ev at ec ef e38 e43 ⊢; simp [execOp, go_sem, *])
    · refine stepK_run hstab trivial (by intro j b h; cases h) ?_
      intro a' w' hg hs hd
      have e44 : a'.eval (.tmp 44) = .bool true := hd ⟨28, Ground.data⟩ (by simp) rfl rfl
      have ec : ∀ v, a'.eval (.const v) = v := fun _ => rfl
      have ef : ∀ g, a'.eval (.func g) = .func (.func g) #[] #[] := fun _ => rfl
      clear hd hs
      refine wpv (v := .bool true) ?_ ⟨_, rfl, Grow.rfl' _, rfl⟩
      (generalize a'.eval = ev at ec ef e44 ⊢; simp [execOp, go_sem, *])
    · refine stepK_run hstab ⟨⟨⟨29, Ground.guard⟩, by simp, rfl, rfl⟩, fun _ _ h => h⟩ (by intro j b h; cases h; rfl) ?_
      intro a' w' hg hs hd
      have e3 : a'.eval (.tmp 3) = .bool true := hs.rest 3 rfl
      have ec : ∀ v, a'.eval (.const v) = v := fun _ => rfl
      have ef : ∀ g, a'.eval (.func g) = .func (.func g) #[] #[] := fun _ => rfl
      clear hd hs
      refine wpv (v := .bool true) ?_ ⟨_, rfl, Grow.rfl' _, rfl⟩
      (generalize a'.eval = ev at ec ef e3 ⊢; simp [execOp, go_sem, *])
    · refine stepK_run hstab trivial (by intro j b h; cases h) ?_
      intro a' w' hg hs hd
      have e45 : a'.eval (.tmp 45) = .bool true := hd ⟨29, Ground.data⟩ (by simp) rfl rfl
      have e46 : a'.eval (.tmp 46) = .bool true := hd ⟨30, Ground.data⟩ (by simp) rfl rfl
      have ec : ∀ v, a'.eval (.const v) = v := fun _ => rfl
      have ef : ∀ g, a'.eval (.func g) = .func (.func g) #[] #[] := fun _ => rfl
      clear hd hs
      refine wpv (v := .bool true) ?_ ⟨_, rfl, Grow.rfl' _, rfl⟩
      (generalize a'.eval = ev at ec ef e45 e46 ⊢; simp [execOp, go_sem, *])
    · refine stepK_run hstab trivial (by intro j b h; cases h) ?_
      intro a' w' hg hs hd
      have e47 : a'.eval (.tmp 47) = .bool true := hd ⟨31, Ground.data⟩ (by simp) rfl rfl
      have ec : ∀ v, a'.eval (.const v) = v := fun _ => rfl
      have ef : ∀ g, a'.eval (.func g) = .func (.func g) #[] #[] := fun _ => rfl
      clear hd hs
      refine wpv (v := .bool true) ?_ ⟨_, rfl, Grow.rfl' _, rfl⟩
      (generalize a'.eval = ev at ec ef e47 ⊢; simp [execOp, go_sem, *])
    · refine stepK_run hstab ⟨⟨⟨32, Ground.guard⟩, by simp, rfl, rfl⟩, fun _ _ h => h⟩ (by intro j b h; cases h; rfl) ?_
      intro a' w' hg hs hd
      have e1 : a'.eval (.tmp 1) = .slice (some ⟨b, o, none⟩) 2 cap := hs.rest 1 rfl
      have ec : ∀ v, a'.eval (.const v) = v := fun _ => rfl
      have ef : ∀ g, a'.eval (.func g) = .func (.func g) #[] #[] := fun _ => rfl
      clear hd hs
      refine wpv (v := .slice (some ⟨b, o, none⟩) 2 cap) ?_ ⟨_, rfl, Grow.rfl' _, rfl⟩
      (generalize a'.eval = ev at ec ef e1 ⊢; simp [execOp, go_sem, *])
    · refine stepK_run hstab ⟨⟨⟨32, Ground.chain⟩, by simp, rfl, rfl⟩, fun _ _ h => h⟩ (by intro j b h; cases h; rfl) ?_
      intro a' w' hg hs hd
      have ec : ∀ v, a'.eval (.const v) = v := fun _ => rfl
      have ef : ∀ g, a'.eval (.func g) = .func (.func g) #[] #[] := fun _ => rfl
      clear hd hs
      refine wpc ?_ (Calls.mono (at3_any 2 9 w') fun e w2 ⟨he, hb⟩ => ⟨_, he, _, rfl, hb, rfl⟩)
      (generalize a'.eval = ev at ec ef ⊢; simp [execOp, go_sem, *])
    · refine stepK_run hstab ⟨⟨⟨32, Ground.guard⟩, by simp, rfl, rfl⟩, fun _ _ h => h⟩ (by intro j b h; cases h; rfl) ?_
      intro a' w' hg hs hd
      have e49 : a'.eval (.tmp 49) = .slice (some ⟨b, o, none⟩) 2 cap := hd ⟨33, Ground.data⟩ (by simp) rfl rfl
      have e50 : a'.eval (.tmp 50) = .agg #[.int .i64 2, .int .i64 1, .int .i64 9, .int .i64 0, .int .i64 0] := hd ⟨34, Ground.data⟩ (by simp) rfl rfl
      have ec : ∀ v, a'.eval (.const v) = v := fun _ => rfl
      have ef : ∀ g, a'.eval (.func g) = .func (.func g) #[] #[] := fun _ => rfl
      clear hd hs
      refine wpc ?_ (Calls.mono (coversT_any (some ⟨b, o, none⟩) 2 cap exC ⟨2, 1, 9, 0, 0⟩ (by rfl) w' (by omega) (HC.out.later hg)) fun e w2 ⟨he, hb⟩ => ⟨_, he, _, rfl, hb, rfl⟩)
      (generalize a'.eval = ev at ec ef e49 e50 ⊢; simp [execOp, go_sem, *])
    · refine stepK_run hstab trivial (by intro j b h; cases h) ?_
      intro a' w' hg hs hd
      have e48 : a'.eval (.tmp 48) = .bool true := hd ⟨32, Ground.data⟩ (by simp) rfl rfl
      have e51 : a'.eval (.tmp 51) = .bool true := hd ⟨35, Ground.data⟩ (by simp) rfl rfl
      have ec : ∀ v, a'.eval (.const v) = v := fun _ => rfl
      have ef : ∀ g, a'.eval (.func g) = .func (.func g) #[] #[] := fun _ => rfl
      clear hd hs
      refine wpv (v := .bool true) ?_ ⟨_, rfl, Grow.rfl' _, rfl⟩
      (generalize a'.eval = ev at ec ef e48 e51 ⊢; simp [execOp, go_sem, *])
    · refine stepK_run hstab trivial (by intro j b h; cases h) ?_
      intro a' w' hg hs hd
      have e52 : a'.eval (.tmp 52) = .bool true := hd ⟨36, Ground.data⟩ (by simp) rfl rfl
      have ec : ∀ v, a'.eval (.const v) = v := fun _ => rfl
      have ef : ∀ g, a'.eval (.func g) = .func (.func g) #[] #[] := fun _ => rfl
      clear hd hs
      refine wpv (v := .bool true) ?_ ⟨_, rfl, Grow.rfl' _, rfl⟩
      (generalize a'.eval = ev at ec ef e52 ⊢; simp [execOp, go_sem, *])
    · refine stepK_run hstab ⟨⟨⟨37, Ground.guard⟩, by simp, rfl, rfl⟩, fun _ _ h => h⟩ (by intro j b h; cases h; rfl) ?_
      intro a' w' hg hs hd
      have e1 : a'.eval (.tmp 1) = .slice (some ⟨b, o, none⟩) 2 cap := hs.rest 1 rfl
      have ec : ∀ v, a'.eval (.const v) = v := fun _ => rfl
      have ef : ∀ g, a'.eval (.func g) = .func (.func g) #[] #[] := fun _ => rfl
      clear hd hs
      refine wpv (v := .slice (some ⟨b, o, none⟩) 2 cap) ?_ ⟨_, rfl, Grow.rfl' _, rfl⟩
      (generalize a'.eval = ev at ec ef e1 ⊢; simp [execOp, go_sem, *])
    · refine stepK_run hstab ⟨⟨⟨37, Ground.chain⟩, by simp, rfl, rfl⟩, fun _ _ h => h⟩ (by intro j b h; cases h; rfl) ?_
      intro a' w' hg hs hd
      have ec : ∀ v, a'.eval (.const v) = v := fun _ => rfl
      have ef : ∀ g, a'.eval (.func g) = .func (.func g) #[] #[] := fun _ => rfl
      clear hd hs
      refine wpc ?_ (Calls.mono (at3_any 1 2 w') fun e w2 ⟨he, hb⟩ => ⟨_, he, _, rfl, hb, rfl⟩)
      (generalize a'.eval = ev at ec ef ⊢; simp [execOp, go_sem, *])
    · refine stepK_run hstab ⟨⟨⟨37, Ground.guard⟩, by simp, rfl, rfl⟩, fun _ _ h => h⟩ (by intro j b h; cases h; rfl) ?_
      intro a' w' hg hs hd
      have e54 : a'.eval (.tmp 54) = .slice (some ⟨b, o, none⟩) 2 cap := hd ⟨38, Ground.data⟩ (by simp) rfl rfl
      have e55 : a'.eval (.tmp 55) = .agg #[.int .i64 1, .int .i64 1, .int .i64 2, .int .i64 0, .int .i64 0] := hd ⟨39, Ground.data⟩ (by simp) rfl rfl
      have ec : ∀ v, a'.eval (.const v) = v := fun _ => rfl
      have ef : ∀ g, a'.eval (.func g) = .func (.func g) #[] #[] := fun _ => rfl
      clear hd hs
      refine wpc ?_ (Calls.mono (coversT_any (some ⟨b, o, none⟩) 2 cap exC ⟨1, 1, 2, 0, 0⟩ (by rfl) w' (by omega) (HC.out.later hg)) fun e w2 ⟨he, hb⟩ => ⟨_, he, _, rfl, hb, rfl⟩)
      (generalize a'.eval = ev at ec ef e54 e55 ⊢; simp [execOp, go_sem, *])
    · refine stepK_run hstab ⟨⟨⟨37, Ground.guard⟩, by simp, rfl, rfl⟩, fun _ _ h => h⟩ (by intro j b h; cases h; rfl) ?_
      intro a' w' hg hs hd
      have e56 : a'.eval (.tmp 56) = .bool false := hd ⟨40, Ground.data⟩ (by simp) rfl rfl
      have ec : ∀ v, a'.eval (.const v) = v := fun _ => rfl
      have ef : ∀ g, a'.eval (.func g) = .func (.func g) #[] #[] := fun _ => rfl
      clear hd hs
      refine wpv (v := .bool true) ?_ ⟨_, rfl, Grow.rfl' _, rfl⟩
      (generalize a'.eval = ev at ec ef e56 ⊢; simp [execOp, go_sem, *])
    · refine stepK_run hstab trivial (by intro j b h; cases h) ?_
      intro a' w' hg hs hd
      have e53 : a'.eval (.tmp 53) = .bool true := hd ⟨37, Ground.data⟩ (by simp) rfl rfl
      have e57 : a'.eval (.tmp 57) = .bool true := hd ⟨41, Ground.data⟩ (by simp) rfl rfl
      have ec : ∀ v, a'.eval (.const v) = v := fun _ => rfl
      have ef : ∀ g, a'.eval (.func g) = .func (.func g) #[] #[] := fun _ => rfl
      clear hd hs
      refine wpv (v := .bool true) ?_ ⟨_, rfl, Grow.rfl' _, rfl⟩
      (generalize a'.eval = ev at ec ef e53 e57 ⊢; simp [execOp, go_sem, *])
    · refine stepK_run hstab trivial (by intro j b h; cases h) ?_
      intro a' w' hg hs hd
      have e58 : a'.eval (.tmp 58) = .bool true := hd ⟨42, Ground.data⟩ (by simp) rfl rfl
      have ec : ∀ v, a'.eval (.const v) = v := fun _ => rfl
      have ef : ∀ g, a'.eval (.func g) = .func (.func g) #[] #[] := fun _ => rfl
      clear hd hs
      refine wpv (v := .bool true) ?_ ⟨_, rfl, Grow.rfl' _, rfl⟩
      (generalize a'.eval = ev at ec ef e58 ⊢; simp [execOp, go_sem, *])
  · intro a' w' hg hs hd
    have e0 : a'.eval (.tmp 0) = .bool true := hd 43 (by simp) (by intro k h; cases h)
    go_wp2_with fail
    refine bodyPost_ret (v := .bool true) ?_ (by rw [hs.defers]) ⟨rfl, Grow.trans' G7.out hg⟩
    clear hd hs hstab
    simpa [results, Try.results9, Act.eval] using e0

end Go.Proofs.Ytkpecibbpogedaa
