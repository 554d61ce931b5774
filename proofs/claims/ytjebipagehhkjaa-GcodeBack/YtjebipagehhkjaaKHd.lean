/-
  What the laws' own functions do to the world: shown is true; few is the first 260 nodes and the first 260 edges of a graph; what was there stays as it was.
-/
import Derived.Test.YtjebipagehhkjaaKPu
namespace Go.Proofs.Ytjebipagehhkjaa
set_option maxRecDepth 100000
open Go.ChangeShapes Go.WideShapes Go.ChangeAt Go.RowKit Go.Deep Go.Sort
set_option linter.unusedVariables false
set_option linter.unusedSimpArgs false

set_option maxHeartbeats 1000000 in
theorem few_00 (gs : Option Addr) (gn gc : Nat) (gt : Option Addr) (gm gq : Nat) (w : World) (h1 : ¬ 260 < gn) (h2 : ¬ 260 < gm) (hc1 : gn ≤ gc) (hc2 : gm ≤ gq) :
    Calls Try.prog 7 #[.agg #[.slice gs gn gc, .slice gt gm gq]] w fun e w' => e = .returned (.agg #[.slice gs gn gc, .slice gt gm gq]) ∧ Grow w w' := by
  have GG : Hid (Grow w ((w.alloc (.cells #[.slice gs gn gc, .slice gt gm gq] 25)).alloc (.cells #[.slice none 0 0, .slice none 0 0] 25))) := hide (Grow.trans' (Grow.alloc' _ _) (Grow.alloc' _ _))
  have i1 : ¬ (260 : Int) < (gn : Int) := by omega
  have i2 : ¬ (260 : Int) < (gm : Int) := by omega
  skip
  skip
  clear h1 h2 hc1 hc2
  go_enter Try.func7, Try.ntmps7
  go_wp2_with fail
  refine bodyPost_ret (v := .agg #[.slice gs gn gc, .slice gt gm gq]) (by simp [results, Try.results7, go_sem]) rfl ⟨rfl, ?_⟩
  (repeat (first | exact Below.refl _ _ | refine Below.setCell ?_ (by simp; try omega) _ | refine Below.alloc ?_ (by simp; try omega) _))
set_option maxHeartbeats 1000000 in
theorem few_01 (gs : Option Addr) (gn gc : Nat) (gt : Option Addr) (gm gq : Nat) (w : World) (h1 : ¬ 260 < gn) (h2 : 260 < gm) (hc1 : gn ≤ gc) (hc2 : gm ≤ gq) :
    Calls Try.prog 7 #[.agg #[.slice gs gn gc, .slice gt gm gq]] w fun e w' => e = .returned (.agg #[.slice gs gn gc, .slice gt 260 gq]) ∧ Grow w w' := by
  have GG : Hid (Grow w ((w.alloc (.cells #[.slice gs gn gc, .slice gt gm gq] 25)).alloc (.cells #[.slice none 0 0, .slice none 0 0] 25))) := hide (Grow.trans' (Grow.alloc' _ _) (Grow.alloc' _ _))
  have i1 : ¬ (260 : Int) < (gn : Int) := by omega
  have i2 : (260 : Int) < (gm : Int) := by omega
  skip
  have r2 : ∀ w, (Instr.slice 23 (.slice gt gm gq) none (some (.int .i64 260)) none).run Try.prog w = .ok (.slice gt 260 gq) w := fun w => run_headE gt gm gq 260 w (by omega)
  clear h1 h2 hc1 hc2
  go_enter Try.func7, Try.ntmps7
  go_wp2_with fail
  refine bodyPost_ret (v := .agg #[.slice gs gn gc, .slice gt 260 gq]) (by simp [results, Try.results7, go_sem]) rfl ⟨rfl, ?_⟩
  (repeat (first | exact Below.refl _ _ | refine Below.setCell ?_ (by simp; try omega) _ | refine Below.alloc ?_ (by simp; try omega) _))
set_option maxHeartbeats 1000000 in
theorem few_10 (gs : Option Addr) (gn gc : Nat) (gt : Option Addr) (gm gq : Nat) (w : World) (h1 : 260 < gn) (h2 : ¬ 260 < gm) (hc1 : gn ≤ gc) (hc2 : gm ≤ gq) :
    Calls Try.prog 7 #[.agg #[.slice gs gn gc, .slice gt gm gq]] w fun e w' => e = .returned (.agg #[.slice gs 260 gc, .slice gt gm gq]) ∧ Grow w w' := by
  have GG : Hid (Grow w ((w.alloc (.cells #[.slice gs gn gc, .slice gt gm gq] 25)).alloc (.cells #[.slice none 0 0, .slice none 0 0] 25))) := hide (Grow.trans' (Grow.alloc' _ _) (Grow.alloc' _ _))
  have i1 : (260 : Int) < (gn : Int) := by omega
  have i2 : ¬ (260 : Int) < (gm : Int) := by omega
  have r1 : ∀ w, (Instr.slice 22 (.slice gs gn gc) none (some (.int .i64 260)) none).run Try.prog w = .ok (.slice gs 260 gc) w := fun w => run_headN gs gn gc 260 w (by omega)
  skip
  clear h1 h2 hc1 hc2
  go_enter Try.func7, Try.ntmps7
  go_wp2_with fail
  refine bodyPost_ret (v := .agg #[.slice gs 260 gc, .slice gt gm gq]) (by simp [results, Try.results7, go_sem]) rfl ⟨rfl, ?_⟩
  (repeat (first | exact Below.refl _ _ | refine Below.setCell ?_ (by simp; try omega) _ | refine Below.alloc ?_ (by simp; try omega) _))
set_option maxHeartbeats 1000000 in
theorem few_11 (gs : Option Addr) (gn gc : Nat) (gt : Option Addr) (gm gq : Nat) (w : World) (h1 : 260 < gn) (h2 : 260 < gm) (hc1 : gn ≤ gc) (hc2 : gm ≤ gq) :
    Calls Try.prog 7 #[.agg #[.slice gs gn gc, .slice gt gm gq]] w fun e w' => e = .returned (.agg #[.slice gs 260 gc, .slice gt 260 gq]) ∧ Grow w w' := by
  have GG : Hid (Grow w ((w.alloc (.cells #[.slice gs gn gc, .slice gt gm gq] 25)).alloc (.cells #[.slice none 0 0, .slice none 0 0] 25))) := hide (Grow.trans' (Grow.alloc' _ _) (Grow.alloc' _ _))
  have i1 : (260 : Int) < (gn : Int) := by omega
  have i2 : (260 : Int) < (gm : Int) := by omega
  have r1 : ∀ w, (Instr.slice 22 (.slice gs gn gc) none (some (.int .i64 260)) none).run Try.prog w = .ok (.slice gs 260 gc) w := fun w => run_headN gs gn gc 260 w (by omega)
  have r2 : ∀ w, (Instr.slice 23 (.slice gt gm gq) none (some (.int .i64 260)) none).run Try.prog w = .ok (.slice gt 260 gq) w := fun w => run_headE gt gm gq 260 w (by omega)
  clear h1 h2 hc1 hc2
  go_enter Try.func7, Try.ntmps7
  go_wp2_with fail
  refine bodyPost_ret (v := .agg #[.slice gs 260 gc, .slice gt 260 gq]) (by simp [results, Try.results7, go_sem]) rfl ⟨rfl, ?_⟩
  (repeat (first | exact Below.refl _ _ | refine Below.setCell ?_ (by simp; try omega) _ | refine Below.alloc ?_ (by simp; try omega) _))
theorem few_raw (gs : Option Addr) (gn gc : Nat) (gt : Option Addr) (gm gq : Nat) (w : World) (hc1 : gn ≤ gc) (hc2 : gm ≤ gq) :
    Calls Try.prog 7 #[.agg #[.slice gs gn gc, .slice gt gm gq]] w fun e w' => e = .returned (.agg #[.slice gs (cutN 260 gn) gc, .slice gt (cutN 260 gm) gq]) ∧ Grow w w' := by
  unfold cutN
  by_cases h1 : 260 < gn <;> by_cases h2 : 260 < gm
  · rw [if_pos h1, if_pos h2]; exact few_11 gs gn gc gt gm gq w h1 h2 hc1 hc2
  · rw [if_pos h1, if_neg h2]; exact few_10 gs gn gc gt gm gq w h1 h2 hc1 hc2
  · rw [if_neg h1, if_pos h2]; exact few_01 gs gn gc gt gm gq w h1 h2 hc1 hc2
  · rw [if_neg h1, if_neg h2]; exact few_00 gs gn gc gt gm gq w h1 h2 hc1 hc2
def plN : List Nd := [⟨1, 0, 0, 0⟩, ⟨11, 0, 0, 0⟩]
def plE : List Ed := [⟨0, 1, 0⟩]
theorem str_of {T B S : TypeId} (hT : ByT T B) (hS : Try.prog.underlying S = some .string) (w : World) (s : Option Addr) (n cap : Nat) (d : List UInt8) (h : IsBy w s n cap d) : (convert T S (.slice s n cap)).run Try.prog w = .ok (.string ⟨d.toArray⟩) w := run_str_by hT hS w s n cap d h
set_option maxHeartbeats 2000000 in
theorem shown_any (w : World) : Calls Try.prog 6 #[] w fun e w' => e = .returned (.bool true) ∧ Grow w w' := by
  have GG : Hid (Grow w ((w.alloc (.cells #[.int .i64 1, .int .i64 0, .int .i64 0, .int .i64 0, .int .i64 11, .int .i64 0, .int .i64 0, .int .i64 0] 38)).alloc (.cells #[.int .i64 0, .int .i64 1, .int .i64 0] 40))) := hide (Grow.trans' (Grow.alloc' _ _) (Grow.alloc' _ _))
  have hz1 : (w.alloc (.cells #[.int .i64 1, .int .i64 0, .int .i64 0, .int .i64 0, .int .i64 11, .int .i64 0, .int .i64 0, .int .i64 0] 38)).heap.size = w.heap.size + 1 := by simp
  have IN : Hid (IsNds ((w.alloc (.cells #[.int .i64 1, .int .i64 0, .int .i64 0, .int .i64 0, .int .i64 11, .int .i64 0, .int .i64 0, .int .i64 0] 38)).alloc (.cells #[.int .i64 0, .int .i64 1, .int .i64 0] 40)) (some ⟨w.heap.size, 0, none⟩) 2 2 plN) := hide (isNds_lit _ _ _ _ rfl (by
    intro j hj v hv
    have : j = 0 ∨ j = 1 ∨ j = 2 ∨ j = 3 ∨ j = 4 ∨ j = 5 ∨ j = 6 ∨ j = 7 := by omega
    rcases this with rfl | rfl | rfl | rfl | rfl | rfl | rfl | rfl <;> simp [plN, flatN, encN] at hv <;> subst hv <;> simp [go_sem]))
  have IE : Hid (IsEds ((w.alloc (.cells #[.int .i64 1, .int .i64 0, .int .i64 0, .int .i64 0, .int .i64 11, .int .i64 0, .int .i64 0, .int .i64 0] 38)).alloc (.cells #[.int .i64 0, .int .i64 1, .int .i64 0] 40)) (some ⟨w.heap.size + 1, 0, none⟩) 1 1 plE) := hide (isEds_lit _ _ _ _ rfl (by
    intro j hj v hv
    have : j = 0 ∨ j = 1 ∨ j = 2 := by omega
    rcases this with rfl | rfl | rfl <;> simp [plE, flatE, encE] at hv <;> subst hv <;> simp [go_sem]))
  have hfit : fitG plN plE = true := by decide
  have HF := hide hfit
  clear hz1 hfit
  go_enter Try.func6, Try.ntmps6
  go_wp2_with fail
  generalize ((w.alloc (.cells #[.int .i64 1, .int .i64 0, .int .i64 0, .int .i64 0, .int .i64 11, .int .i64 0, .int .i64 0, .int .i64 0] 38)).alloc (.cells #[.int .i64 0, .int .i64 1, .int .i64 0] 40)) = w1 at *
  refine (put_any _ 2 2 _ 1 1 plN plE w1 (by omega) (by omega) IN.out IE.out).mono ?_
  rintro _ w2 ⟨hg, ⟨_, s, n, c, rfl, hI⟩ | ⟨hno, _⟩⟩
  rotate_left
  · rw [HF.out] at hno; cases hno
  have G2 := hide (Grow.trans' GG.out hg)
  have kc := str_of byT Try.underlying9 w2 s n c (putG plN plE) hI
  have hp : putG plN plE = [77, 71, 2, 1, 0, 0, 0, 0, 0, 11, 0, 0, 0, 0, 0, 1, 0, 1, 0] := put_shown
  rw [hp] at kc
  clear hg hI hp
  go_wp2_with fail
  go_ret
  exact ⟨rfl, G2.out⟩
end Go.Proofs.Ytjebipagehhkjaa
