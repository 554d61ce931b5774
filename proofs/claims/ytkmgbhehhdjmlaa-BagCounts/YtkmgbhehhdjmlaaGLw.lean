/-
  What the laws lean on besides: joins of two and of three rows, what is left with its length bounded; small facts.
-/
import Derived.Test.YtkmgbhehhdjmlaaGHd
namespace Go.Proofs.Ytkmgbhehhdjmlaa
set_option maxRecDepth 100000
open Go.RowKit Go.Sort
set_option linter.unusedVariables false

/-- The first 150. -/
theorem few_wf (s : Option Addr) (n cap : Nat) (d : List Rc) (w : World) (hd : IsRcs w s n cap d) (hwf : ∀ r ∈ d, RcWf r) :
    Calls Try.prog 9 #[.slice s n cap] w fun e w' => ∃ s' n' A, e = .returned (.slice s' n' cap) ∧ w' = w ∧ IsRcs w s' n' cap A ∧ n' ≤ 150 ∧ ∀ r ∈ A, RcWf r :=
  (few_at s n cap d w hd).mono fun e w' ⟨s', n', h1, h2, h3, h4⟩ => ⟨s', n', _, h1, h2, h3, h4, fun r hr => hwf r (List.mem_of_mem_take hr)⟩
theorem join2_at (sa sb : Option Addr) (na nb ca cb : Nat) (A B : List Rc) (w : World) (hA : IsRcs w sa na ca A) (hB : IsRcs w sb nb cb B) (h1 : na ≤ 1000) (h2 : nb ≤ 1000) :
    Calls Try.prog 17 #[.slice (some ⟨w.heap.size, 0, none⟩) 2 2] (w.alloc (.cells #[.slice sa na ca, .slice sb nb cb] 22))
      fun e w' => ∃ s2 n2 c2, e = .returned (.slice s2 n2 c2) ∧ Grow w w' ∧ IsRcs w' s2 n2 c2 (srt (A ++ B)) ∧ n2 = na + nb := by
  refine (join_at (some ⟨w.heap.size, 0, none⟩) 2 2 [A, B] _ rfl (by simp [hA.1, hB.1]; omega) (by omega) (.inr ⟨_, rfl, RowsAt.two hA hB⟩)).mono ?_
  rintro e w' ⟨s2, n2, c2, rfl, hg, hI⟩
  have hfl : [A, B].flatten = A ++ B := by simp
  rw [hfl] at hI
  refine ⟨s2, n2, c2, rfl, Grow.trans' (Grow.alloc' _ _) hg, hI, ?_⟩
  have := hI.1
  rw [srt_len, List.length_append, hA.1, hB.1] at this
  exact this.symm
theorem join3_at (sa sb sc : Option Addr) (na nb nc ca cb cc : Nat) (A B C : List Rc) (w : World) (hA : IsRcs w sa na ca A) (hB : IsRcs w sb nb cb B) (hC : IsRcs w sc nc cc C) (h1 : na ≤ 1000) (h2 : nb ≤ 1000) (h3 : nc ≤ 1000) :
    Calls Try.prog 17 #[.slice (some ⟨w.heap.size, 0, none⟩) 3 3] (w.alloc (.cells #[.slice sa na ca, .slice sb nb cb, .slice sc nc cc] 22))
      fun e w' => ∃ s2 n2 c2, e = .returned (.slice s2 n2 c2) ∧ Grow w w' ∧ IsRcs w' s2 n2 c2 (srt (A ++ B ++ C)) ∧ n2 = na + nb + nc := by
  refine (join_at (some ⟨w.heap.size, 0, none⟩) 3 3 [A, B, C] _ rfl (by simp [hA.1, hB.1, hC.1]; omega) (by omega) (.inr ⟨_, rfl, RowsAt.three hA hB hC⟩)).mono ?_
  rintro e w' ⟨s2, n2, c2, rfl, hg, hI⟩
  have hfl : [A, B, C].flatten = A ++ B ++ C := by simp
  rw [hfl] at hI
  refine ⟨s2, n2, c2, rfl, Grow.trans' (Grow.alloc' _ _) hg, hI, ?_⟩
  have := hI.1
  rw [srt_len, List.length_append, List.length_append, hA.1, hB.1, hC.1] at this
  exact this.symm
theorem join0_at (w : World) : Calls Try.prog 17 #[.slice none 0 0] w fun e w' => ∃ s2 c2, e = .returned (.slice s2 0 c2) ∧ Grow w w' := by
  refine (join_at none 0 0 [] w rfl (by simp) (by omega) (.inl rfl)).mono ?_
  rintro e w' ⟨s2, n2, c2, rfl, hg, hI⟩
  have : n2 = 0 := by rw [← hI.1, srt_len]; rfl
  subst this
  exact ⟨s2, c2, rfl, hg⟩
theorem minusN_at (s s' : Option Addr) (n m cap cap' : Nat) (d e : List Rc) (w : World) (hbig : n ≤ 1000000) (hbig' : m ≤ 1000000) (hwf : ∀ r ∈ d, RcWf r) (hwf' : ∀ r ∈ e, RcWf r) (hd : IsRcs w s n cap d) (he : IsRcs w s' m cap' e) :
    Calls Try.prog 19 #[.slice s n cap, .slice s' m cap'] w fun r w' => ∃ s2 n2 c2, r = .returned (.slice s2 n2 c2) ∧ Grow w w' ∧ IsRcs w' s2 n2 c2 (mns d e) ∧ n2 ≤ n := by
  refine (minus_at s s' n m cap cap' d e w hbig hbig' hwf hwf' hd he).mono ?_
  rintro r w' ⟨s2, n2, c2, rfl, hg, hI⟩
  exact ⟨s2, n2, c2, rfl, hg, hI, by rw [← hI.1, ← hd.1]; exact mns_len d e⟩
theorem IsRcs.nil (w : World) : IsRcs w none 0 0 [] := ⟨rfl, Nat.le_refl _, .inl rfl⟩
theorem wf_srt {d : List Rc} (h : ∀ r ∈ d, RcWf r) : ∀ r ∈ srt d, RcWf r := fun r hr => h r ((srt_perm d).mem_iff.1 hr)
theorem wf_app {d e : List Rc} (h : ∀ r ∈ d, RcWf r) (k : ∀ r ∈ e, RcWf r) : ∀ r ∈ d ++ e, RcWf r := fun r hr => (List.mem_append.1 hr).elim (h r) (k r)

end Go.Proofs.Ytkmgbhehhdjmlaa
