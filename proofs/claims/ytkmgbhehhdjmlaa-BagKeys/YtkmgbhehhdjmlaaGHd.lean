/-
  What the laws' own functions do to the world: shown is true; many is how often a record is in a row; what was there stays as it was.
-/
import Derived.Test.YtkmgbhehhdjmlaaGMin
import Derived.Test.YtkmgbhehhdjmlaaGSam
namespace Go.Proofs.Ytkmgbhehhdjmlaa
set_option maxRecDepth 100000
open Go.RowKit Go.Sort
attribute [local go_sem ↓] eqRc
set_option linter.unusedVariables false
set_option linter.unusedSimpArgs false

theorem example_mns : mns [⟨2, 5⟩, ⟨1, 6⟩, ⟨2, 5⟩] [⟨2, 5⟩, ⟨3, 7⟩] = [⟨1, 6⟩, ⟨2, 5⟩] := by
  refine (mns_of ?_ ?_).symm
  · simp [SortedR, ordR, cmpI]
  · intro x
    by_cases h1 : x = ⟨2, 5⟩
    · subst h1; decide
    · by_cases h2 : x = ⟨1, 6⟩
      · subst h2; decide
      · simp [List.count_cons, Ne.symm h1, Ne.symm h2]
theorem wf_small (n : Int) (h : -100 ≤ n ∧ n ≤ 100) : (Lit.int .i64 n).wf = true := WalkArith.wf_i64 ⟨by omega, by omega⟩
set_option maxHeartbeats 1000000 in
theorem shown_any (w : World) : Calls Try.prog 8 #[] w fun e w' => e = .returned (.bool true) ∧ Grow w w' := by
  have R1 : Hid (IsRcs (w.alloc (.cells #[.int .i64 2, .int .i64 5, .int .i64 1, .int .i64 6, .int .i64 2, .int .i64 5] 24)) (some ⟨w.heap.size, 0, none⟩) 3 3 [⟨2, 5⟩, ⟨1, 6⟩, ⟨2, 5⟩]) :=
    hide ⟨rfl, Nat.le_refl _, .inr ⟨_, _, rfl, fun j v hj => by
      have hj' : j < 6 := by simpa [flatR, encR] using (List.getElem?_eq_some_iff.1 hj).1
      have : j = 0 ∨ j = 1 ∨ j = 2 ∨ j = 3 ∨ j = 4 ∨ j = 5 := by omega
      rcases this with rfl | rfl | rfl | rfl | rfl | rfl <;> simp [flatR, encR] at hj <;> subst hj <;> simp [go_sem]⟩⟩
  obtain ⟨wa, hwa⟩ : ∃ wa, wa = w.alloc (.cells #[.int .i64 2, .int .i64 5, .int .i64 1, .int .i64 6, .int .i64 2, .int .i64 5] 24) := ⟨_, rfl⟩
  have GA : Hid (Grow w wa) := hide (by rw [hwa]; exact Grow.alloc' _ _)
  have hza : wa.heap.size = w.heap.size + 1 := by rw [hwa]; simp
  have R2 : Hid (IsRcs (wa.alloc (.cells #[.int .i64 2, .int .i64 5, .int .i64 3, .int .i64 7] 24)) (some ⟨w.heap.size + 1, 0, none⟩) 2 2 [⟨2, 5⟩, ⟨3, 7⟩]) :=
    hide (by rw [← hza]; exact ⟨rfl, Nat.le_refl _, .inr ⟨_, _, rfl, fun j v hj => by
      have hj' : j < 4 := by simpa [flatR, encR] using (List.getElem?_eq_some_iff.1 hj).1
      have : j = 0 ∨ j = 1 ∨ j = 2 ∨ j = 3 := by omega
      rcases this with rfl | rfl | rfl | rfl <;> simp [flatR, encR] at hj <;> subst hj <;> simp [go_sem]⟩⟩)
  rw [← hwa] at R1
  have C := hide (minus_at (some ⟨w.heap.size, 0, none⟩) (some ⟨w.heap.size + 1, 0, none⟩) 3 2 3 2 _ _ (wa.alloc (.cells #[.int .i64 2, .int .i64 5, .int .i64 3, .int .i64 7] 24)) (by omega) (by omega)
    (fun r hr => by simp at hr; rcases hr with rfl | rfl | rfl <;> exact ⟨wf_small _ (by decide), wf_small _ (by decide)⟩)
    (fun r hr => by simp at hr; rcases hr with rfl | rfl <;> exact ⟨wf_small _ (by decide), wf_small _ (by decide)⟩) (R1.out.later (Grow.alloc' _ _)) R2.out)
  rw [example_mns] at C
  have G2 := hide (Grow.trans' GA.out (Grow.alloc' wa (.cells #[.int .i64 2, .int .i64 5, .int .i64 3, .int .i64 7] 24)))
  rw [hwa] at C G2
  clear hwa hza R1 R2 GA
  go_enter Try.func8, Try.ntmps8
  go_wp2_with fail
  refine (C.out).mono ?_
  rintro e w3 ⟨s3, n3, c3, rfl, hb, hI⟩
  have hn : n3 = 2 := hI.1.symm
  subst hn
  obtain ⟨b, o, rfl, hr⟩ := hI.2.2.resolve_left (by simp)
  obtain ⟨p0, p1⟩ := hr.at 0 (by simp)
  obtain ⟨q0, q1⟩ := hr.at 1 (by simp)
  simp only [Nat.zero_mul, Nat.add_zero, Nat.one_mul, List.getElem_cons_zero, List.getElem_cons_succ] at p0 p1 q0 q1
  have G3 := hide (Grow.trans' G2.out hb)
  have e1 := eqRc ⟨1, 6⟩ ⟨1, 6⟩
  have e2 := eqRc ⟨2, 5⟩ ⟨2, 5⟩
  simp only [show eqR ⟨1, 6⟩ ⟨1, 6⟩ = true from rfl, show eqR ⟨2, 5⟩ ⟨2, 5⟩ = true from rfl] at e1 e2
  clear hb hI hr C
  go_wp2_with fail
  go_ret
  exact ⟨rfl, G3.out⟩

set_option maxHeartbeats 2000000 in
theorem many_at (s : Option Addr) (n cap : Nat) (d : List Rc) (x : Rc) (w : World) (hbig : n ≤ 1000000) (hd : IsRcs w s n cap d) :
    Calls Try.prog 26 #[.slice s n cap, .agg #[.int .i64 x.k, .int .i64 x.v]] w fun e w' => e = .returned (.int .i64 (d.count x : Int)) ∧ Grow w w' := by
  have KX : Hid (Box (w.alloc (.cells #[.int .i64 x.k, .int .i64 x.v] 24)) w.heap.size x) := hide (Box.new _ _)
  have G0 : Hid (Grow w (w.alloc (.cells #[.int .i64 x.k, .int .i64 x.v] 24))) := hide (Grow.alloc' _ _)
  have HI := hide (hd.later G0.out)
  clear hd
  go_enter Try.func26, Try.ntmps26
  go_wp2_with fail
  generalize w.alloc (.cells #[.int .i64 x.k, .int .i64 x.v] 24) = w0 at *
  generalize w.heap.size = P at *
  go_loopw [5, 6] (fun v i wr => ∃ (k : Nat), k ≤ n ∧ v = .int .i64 ((d.take k).count x : Int) ∧ i = .int .i64 k ∧ Grow w0 wr) (fun _ i _ => n - (intOf i).toNat)
  case atStart => exact ⟨0, Nat.zero_le _, rfl, rfl, Grow.rfl' _⟩
  case round =>
    obtain ⟨k, hk, rfl, rfl, hg⟩ := hrel
    have HG := hide hg
    by_cases hlt : k < n
    · have hkd : k < d.length := by rw [HI.out.1]; exact hlt
      have hne : ¬ d = [] := fun h => by rw [h] at hkd; simp at hkd
      obtain ⟨b, o, rfl, hr1⟩ := HI.out.2.2.resolve_left hne
      obtain ⟨p0, p1⟩ := (hr1.later hg).at k hkd
      obtain ⟨q0, q1⟩ := KX.out.later hg
      obtain ⟨y, hy⟩ : ∃ y, y = d[k] := ⟨_, rfl⟩
      rw [← hy] at p0 p1
      have hi1 : (0 : Int) ≤ (k : Int) := by omega
      have hi2 : (k : Int) < (n : Int) := by omega
      have HX : Hid (d.take (k + 1) = d.take k ++ [y]) := hide (by rw [hy, List.take_append_getElem])
      obtain ⟨c, hc⟩ : ∃ c : Nat, c = (d.take k).count x := ⟨_, rfl⟩
      have hc1 : c ≤ 1000000 := by
        have := List.count_le_length (a := x) (l := d.take k)
        rw [List.length_take] at this
        omega
      have HC := hide hc
      rw [← hc]
      have hc2 : (0 : Int) ≤ (c : Int) := by omega
      have hc3 : (c : Int) ≤ 1000000 := by omega
      clear hne hr1 hy hg hkd hc
      cases es : eqR y x
      · have hxy : ¬ y = x := fun h => by rw [(eqR_iff y x).2 h] at es; cases es
        have HXY : Hid ((d.take (k + 1)).count x = c) := hide (by rw [HX.out, List.count_append, HC.out]; simp [hxy])
        clear hxy
        go_wp2
        go_quiet (fail)
        have G2 := hide (Grow.trans' HG.out (below_drewN (Below.refl _ _) nq))
        clear p0 p1 q0 q1
        generalize wr.drewN nq = wz at *
        go_wp2_with fail
        go_roundw
        case rel => exact ⟨k + 1, by omega, by rw [HXY.out], by go_num, G2.out⟩
        case measure => simp [intOf]; omega
      · have hxy := (eqR_iff y x).1 es
        have HXY : Hid ((d.take (k + 1)).count x = c + 1) := hide (by rw [HX.out, List.count_append, HC.out]; simp [hxy])
        clear hxy
        go_wp2
        go_quiet (fail)
        have G2 := hide (Grow.trans' HG.out (below_drewN (Below.refl _ _) nq))
        clear p0 p1 q0 q1
        generalize wr.drewN nq = wz at *
        go_wp2_with fail
        go_roundw
        case rel => exact ⟨k + 1, by omega, by rw [HXY.out]; go_num, by go_num, G2.out⟩
        case measure => simp [intOf]; omega
    · have hkn : k = n := by omega
      have HA : Hid (d.take k = d) := hide (List.take_of_length_le (by rw [HI.out.1]; omega))
      rw [HA.out]
      clear hg
      go_wp2_with fail
      go_ret
      exact ⟨rfl, Grow.trans' G0.out HG.out⟩

end Go.Proofs.Ytkmgbhehhdjmlaa
