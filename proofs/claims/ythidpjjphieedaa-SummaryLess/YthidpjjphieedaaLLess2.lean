/-
  What the law SummaryLess does: for every two summaries and every two times it returns true, and what was there stays as it was.
-/
import Derived.Test.YthidpjjphieedaaLLessA
import Derived.Test.YthidpjjphieedaaLLessB
import Derived.Test.YthidpjjphieedaaLLessC
import Derived.Test.YthidpjjphieedaaLLessD
namespace Go.Proofs.Ythidpjjphieedaa
open Go.RowKit
set_option linter.unusedVariables false

theorem leS_may {s r : Sm} (h : leS s r = true) : mayS s = true ∧ mayS r = true ∧ s.f = r.f ∧ s.t = r.t := by
  obtain ⟨h1, h2, h3, h4, -⟩ := (leS_iff s r).1 h
  exact ⟨h1, h2, h3, h4⟩
theorem five_0 : fiveAt 0 = Tm.mk 0 0 0 0 0 := rfl
theorem five_1 : fiveAt 1 = Tm.mk 0 1 500 0 0 := rfl
theorem five_2 : fiveAt 2 = Tm.mk 0 2 500 500 0 := rfl
theorem five_3 : fiveAt 3 = Tm.mk 0 3 500 500 500 := rfl

theorem SummaryLess_any (s r : Sm) (x y : Tm) (w : World) :
    Calls Try.prog 7 #[.agg #[.int .i64 s.f, .int .i64 s.t, .int .i64 s.k, .int .i64 s.ep, .int .i64 s.x, .int .i64 s.y, .int .i64 s.z], .agg #[.int .i64 r.f, .int .i64 r.t, .int .i64 r.k, .int .i64 r.ep, .int .i64 r.x, .int .i64 r.y, .int .i64 r.z], .agg #[.int .i64 x.e, .int .i64 x.d, .int .i64 x.x, .int .i64 x.y, .int .i64 x.z, .int .i64 y.e, .int .i64 y.d, .int .i64 y.x, .int .i64 y.y, .int .i64 y.z]] w fun e w' => e = .returned (.bool true) ∧ Below w.heap.size w w' := by
  cases h1 : mayS s
  · exact SummaryLess_a1 s r x y w h1 (by
      cases h : leS s r
      · rfl
      · have := (leS_may h).1; rw [h1] at this; cases this)
  cases h2 : mayS r
  · exact SummaryLess_a2 s r x y w h1 h2 (by
      cases h : leS s r
      · rfl
      · have := (leS_may h).2.1; rw [h2] at this; cases this)
  have hss := leS_refl h1
  cases hl : leS s r
  · by_cases hf : s.f = r.f
    rotate_left
    · cases hu : leB x y
      · exact SummaryLess_cf1 s r x y _ _ _ _ _ _ _ _ w h1 h2 rfl rfl rfl rfl rfl rfl rfl hu rfl hl hf hss
      by_cases hE : applyE s x = 0
      rotate_left
      · exact SummaryLess_cf2 s r x y _ _ _ _ _ _ _ _ w h1 h2 rfl rfl rfl rfl rfl rfl rfl hu rfl hl hE hf hss
      by_cases hL : applyE s y = 0
      rotate_left
      · exact SummaryLess_cf3 s r x y _ _ _ 0 _ _ _ _ w h1 h2 rfl hE rfl rfl rfl rfl rfl hu rfl hl hL hf hss
      exact SummaryLess_cf4 s r x y _ _ _ 0 _ 0 _ true w h1 h2 rfl hE rfl rfl rfl hL rfl hu (up_apply hu hE hL) hl hf hss
    by_cases ht : s.t = r.t
    rotate_left
    · cases hu : leB x y
      · exact SummaryLess_ct1 s r x y _ _ _ _ _ _ _ _ w h1 h2 rfl rfl rfl rfl rfl rfl rfl hu rfl hl hf ht hss
      by_cases hE : applyE s x = 0
      rotate_left
      · exact SummaryLess_ct2 s r x y _ _ _ _ _ _ _ _ w h1 h2 rfl rfl rfl rfl rfl rfl rfl hu rfl hl hE hf ht hss
      by_cases hL : applyE s y = 0
      rotate_left
      · exact SummaryLess_ct3 s r x y _ _ _ 0 _ _ _ _ w h1 h2 rfl hE rfl rfl rfl rfl rfl hu rfl hl hL hf ht hss
      exact SummaryLess_ct4 s r x y _ _ _ 0 _ 0 _ true w h1 h2 rfl hE rfl rfl rfl hL rfl hu (up_apply hu hE hL) hl hf ht hss
    have hn := fun two h k one => not_less h1 h2 hf ht hl two h k one
    have a1 := apply_zero h1
    have a2 := apply_zero h2
    rw [← hf] at a2
    have hd := (mayS_iff s).1 h1
    obtain ⟨⟨d0, d3, -, -⟩, -⟩ := hd
    obtain ⟨f, st, sk, sp, sx, sy, sz⟩ := s
    obtain ⟨f', st', rk, rp, rx, ry, rz⟩ := r
    simp only at hf ht d0 d3 hn a1 a2
    subst hf ht
    have hj : f = 0 ∨ f = 1 ∨ f = 2 ∨ f = 3 := by omega
    rcases hj with rfl | rfl | rfl | rfl
    · rw [five_0] at hn
      cases hu : leB x y
      · exact SummaryLess_0_1 st sk sp sx sy sz rk rp rx ry rz x y _ _ _ _ _ _ _ _ w h1 h2 rfl rfl rfl rfl rfl rfl rfl hu rfl hl _ _ _ _ _ _ _ _ rfl rfl rfl rfl rfl a1.1 rfl a2.1 rfl rfl hn
      by_cases hE : applyE ⟨0, st, sk, sp, sx, sy, sz⟩ x = 0
      rotate_left
      · exact SummaryLess_0_2 st sk sp sx sy sz rk rp rx ry rz x y _ _ _ _ _ _ _ _ w h1 h2 rfl rfl rfl rfl rfl rfl rfl hu rfl hl hE _ _ _ _ _ _ _ _ rfl rfl rfl rfl rfl a1.1 rfl a2.1 rfl rfl hn
      by_cases hL : applyE ⟨0, st, sk, sp, sx, sy, sz⟩ y = 0
      rotate_left
      · exact SummaryLess_0_3 st sk sp sx sy sz rk rp rx ry rz x y _ _ _ 0 _ _ _ _ w h1 h2 rfl hE rfl rfl rfl rfl rfl hu rfl hl hL _ _ _ _ _ _ _ _ rfl rfl rfl rfl rfl a1.1 rfl a2.1 rfl rfl hn
      exact SummaryLess_0_4 st sk sp sx sy sz rk rp rx ry rz x y _ _ _ 0 _ 0 _ true w h1 h2 rfl hE rfl rfl rfl hL rfl hu (up_apply hu hE hL) hl _ _ _ _ _ _ _ _ rfl rfl rfl rfl rfl a1.1 rfl a2.1 rfl rfl hn
    · rw [five_1] at hn
      cases hu : leB x y
      · exact SummaryLess_1_1 st sk sp sx sy sz rk rp rx ry rz x y _ _ _ _ _ _ _ _ w h1 h2 rfl rfl rfl rfl rfl rfl rfl hu rfl hl _ _ _ _ _ _ _ _ rfl rfl rfl rfl rfl a1.1 rfl a2.1 rfl rfl hn
      by_cases hE : applyE ⟨1, st, sk, sp, sx, sy, sz⟩ x = 0
      rotate_left
      · exact SummaryLess_1_2 st sk sp sx sy sz rk rp rx ry rz x y _ _ _ _ _ _ _ _ w h1 h2 rfl rfl rfl rfl rfl rfl rfl hu rfl hl hE _ _ _ _ _ _ _ _ rfl rfl rfl rfl rfl a1.1 rfl a2.1 rfl rfl hn
      by_cases hL : applyE ⟨1, st, sk, sp, sx, sy, sz⟩ y = 0
      rotate_left
      · exact SummaryLess_1_3 st sk sp sx sy sz rk rp rx ry rz x y _ _ _ 0 _ _ _ _ w h1 h2 rfl hE rfl rfl rfl rfl rfl hu rfl hl hL _ _ _ _ _ _ _ _ rfl rfl rfl rfl rfl a1.1 rfl a2.1 rfl rfl hn
      exact SummaryLess_1_4 st sk sp sx sy sz rk rp rx ry rz x y _ _ _ 0 _ 0 _ true w h1 h2 rfl hE rfl rfl rfl hL rfl hu (up_apply hu hE hL) hl _ _ _ _ _ _ _ _ rfl rfl rfl rfl rfl a1.1 rfl a2.1 rfl rfl hn
    · rw [five_2] at hn
      cases hu : leB x y
      · exact SummaryLess_2_1 st sk sp sx sy sz rk rp rx ry rz x y _ _ _ _ _ _ _ _ w h1 h2 rfl rfl rfl rfl rfl rfl rfl hu rfl hl _ _ _ _ _ _ _ _ rfl rfl rfl rfl rfl a1.1 rfl a2.1 rfl rfl hn
      by_cases hE : applyE ⟨2, st, sk, sp, sx, sy, sz⟩ x = 0
      rotate_left
      · exact SummaryLess_2_2 st sk sp sx sy sz rk rp rx ry rz x y _ _ _ _ _ _ _ _ w h1 h2 rfl rfl rfl rfl rfl rfl rfl hu rfl hl hE _ _ _ _ _ _ _ _ rfl rfl rfl rfl rfl a1.1 rfl a2.1 rfl rfl hn
      by_cases hL : applyE ⟨2, st, sk, sp, sx, sy, sz⟩ y = 0
      rotate_left
      · exact SummaryLess_2_3 st sk sp sx sy sz rk rp rx ry rz x y _ _ _ 0 _ _ _ _ w h1 h2 rfl hE rfl rfl rfl rfl rfl hu rfl hl hL _ _ _ _ _ _ _ _ rfl rfl rfl rfl rfl a1.1 rfl a2.1 rfl rfl hn
      exact SummaryLess_2_4 st sk sp sx sy sz rk rp rx ry rz x y _ _ _ 0 _ 0 _ true w h1 h2 rfl hE rfl rfl rfl hL rfl hu (up_apply hu hE hL) hl _ _ _ _ _ _ _ _ rfl rfl rfl rfl rfl a1.1 rfl a2.1 rfl rfl hn
    · rw [five_3] at hn
      cases hu : leB x y
      · exact SummaryLess_3_1 st sk sp sx sy sz rk rp rx ry rz x y _ _ _ _ _ _ _ _ w h1 h2 rfl rfl rfl rfl rfl rfl rfl hu rfl hl _ _ _ _ _ _ _ _ rfl rfl rfl rfl rfl a1.1 rfl a2.1 rfl rfl hn
      by_cases hE : applyE ⟨3, st, sk, sp, sx, sy, sz⟩ x = 0
      rotate_left
      · exact SummaryLess_3_2 st sk sp sx sy sz rk rp rx ry rz x y _ _ _ _ _ _ _ _ w h1 h2 rfl rfl rfl rfl rfl rfl rfl hu rfl hl hE _ _ _ _ _ _ _ _ rfl rfl rfl rfl rfl a1.1 rfl a2.1 rfl rfl hn
      by_cases hL : applyE ⟨3, st, sk, sp, sx, sy, sz⟩ y = 0
      rotate_left
      · exact SummaryLess_3_3 st sk sp sx sy sz rk rp rx ry rz x y _ _ _ 0 _ _ _ _ w h1 h2 rfl hE rfl rfl rfl rfl rfl hu rfl hl hL _ _ _ _ _ _ _ _ rfl rfl rfl rfl rfl a1.1 rfl a2.1 rfl rfl hn
      exact SummaryLess_3_4 st sk sp sx sy sz rk rp rx ry rz x y _ _ _ 0 _ 0 _ true w h1 h2 rfl hE rfl rfl rfl hL rfl hu (up_apply hu hE hL) hl _ _ _ _ _ _ _ _ rfl rfl rfl rfl rfl a1.1 rfl a2.1 rfl rfl hn
  · obtain ⟨-, -, hf, ht⟩ := leS_may hl
    obtain ⟨f, st, sk, sp, sx, sy, sz⟩ := s
    obtain ⟨f', st', rk, rp, rx, ry, rz⟩ := r
    simp only at hf ht
    subst hf ht
    by_cases hE : applyE ⟨f, st, sk, sp, sx, sy, sz⟩ x = 0
    rotate_left
    · cases hu : leB x y
      · exact SummaryLess_l1 f st sk sp sx sy sz rk rp rx ry rz x y _ _ _ _ _ _ _ _ w h1 h2 rfl rfl rfl rfl rfl rfl rfl hu rfl hl hE hss
      · exact SummaryLess_l2 f st sk sp sx sy sz rk rp rx ry rz x y _ _ _ _ _ _ _ _ w h1 h2 rfl rfl rfl rfl rfl rfl rfl hu rfl hl hE hss
    by_cases hF : applyE ⟨f, st, rk, rp, rx, ry, rz⟩ x = 0
    rotate_left
    · cases hu : leB x y
      · exact SummaryLess_la3 f st sk sp sx sy sz rk rp rx ry rz x y _ _ _ 0 _ _ _ _ w h1 h2 rfl hE rfl rfl rfl rfl rfl hu rfl hl hF hss
      by_cases hL : applyE ⟨f, st, sk, sp, sx, sy, sz⟩ y = 0
      rotate_left
      · exact SummaryLess_la4 f st sk sp sx sy sz rk rp rx ry rz x y _ _ _ 0 _ _ _ _ w h1 h2 rfl hE rfl rfl rfl rfl rfl hu rfl hl hF hL hss
      exact SummaryLess_la5 f st sk sp sx sy sz rk rp rx ry rz x y _ _ _ 0 _ 0 _ true w h1 h2 rfl hE rfl rfl rfl hL rfl hu (up_apply hu hE hL) hl hF hss
    have hp := le_apply hl hE hF
    cases hu : leB x y
    · exact SummaryLess_lb3 f st sk sp sx sy sz rk rp rx ry rz x y _ _ _ 0 0 _ true _ w h1 h2 rfl hE rfl hF rfl rfl hp hu rfl hl hss
    by_cases hL : applyE ⟨f, st, sk, sp, sx, sy, sz⟩ y = 0
    rotate_left
    · exact SummaryLess_lb4 f st sk sp sx sy sz rk rp rx ry rz x y _ _ _ 0 0 _ true _ w h1 h2 rfl hE rfl hF rfl rfl hp hu rfl hl hL hss
    exact SummaryLess_lb5 f st sk sp sx sy sz rk rp rx ry rz x y _ _ _ 0 0 0 true true w h1 h2 rfl hE rfl hF rfl hL hp hu (up_apply hu hE hL) hl hss

end Go.Proofs.Ythidpjjphieedaa
