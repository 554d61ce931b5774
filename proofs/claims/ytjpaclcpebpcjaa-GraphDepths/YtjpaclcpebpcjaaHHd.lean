/-
  What the laws' own functions do to the world: shown is true; few is the first 20 nodes and the first 40 edges of a graph; what was there stays as it was.
-/
import Derived.Test.YtjpaclcpebpcjaaHIs
namespace Go.Proofs.Ytjpaclcpebpcjaa
set_option maxRecDepth 100000
open Go.RowKit
set_option linter.unusedVariables false
set_option linter.unusedSimpArgs false

def cutN (k n : Nat) : Nat := if k < n then k else n
theorem cutN_le (k n : Nat) : cutN k n ≤ k ∧ cutN k n ≤ n := by unfold cutN; split <;> omega
theorem IsNds.cut {w : World} {s : Option Addr} {n c : Nat} {d : List Nd} (h : IsNds w s n c d) (k : Nat) : IsNds w s (cutN k n) c (d.take k) := by
  unfold cutN
  split
  · exact h.take' k (by omega)
  · rw [List.take_of_length_le (by rw [h.1]; omega)]; exact h
theorem IsEds.cut {w : World} {s : Option Addr} {n c : Nat} {d : List Ed} (h : IsEds w s n c d) (k : Nat) : IsEds w s (cutN k n) c (d.take k) := by
  unfold cutN
  split
  · exact h.take' k (by omega)
  · rw [List.take_of_length_le (by rw [h.1]; omega)]; exact h
set_option maxHeartbeats 1000000 in
theorem few_00 (gs : Option Addr) (gn gc : Nat) (gt : Option Addr) (gm gq : Nat) (w : World) (h1 : ¬ 20 < gn) (h2 : ¬ 40 < gm) (hc1 : gn ≤ gc) (hc2 : gm ≤ gq) :
    Calls Try.prog 20 #[.agg #[.slice gs gn gc, .slice gt gm gq]] w fun e w' => e = .returned (.agg #[.slice gs gn gc, .slice gt gm gq]) ∧ Grow w w' := by
  have GG : Hid (Grow w ((w.alloc (.cells #[.slice gs gn gc, .slice gt gm gq] 39)).alloc (.cells #[.slice none 0 0, .slice none 0 0] 39))) := hide (Grow.trans' (Grow.alloc' _ _) (Grow.alloc' _ _))
  have i1 : ¬ (20 : Int) < (gn : Int) := by omega
  have i2 : ¬ (40 : Int) < (gm : Int) := by omega
  skip
  skip
  clear h1 h2 hc1 hc2
  go_enter Try.func20, Try.ntmps20
  go_wp2_with fail
  refine bodyPost_ret (v := .agg #[.slice gs gn gc, .slice gt gm gq]) (by simp [results, Try.results20, go_sem]) rfl ⟨rfl, ?_⟩
  (repeat (first | exact Below.refl _ _ | refine Below.setCell ?_ (by simp; try omega) _ | refine Below.alloc ?_ (by simp; try omega) _))
set_option maxHeartbeats 1000000 in
theorem few_01 (gs : Option Addr) (gn gc : Nat) (gt : Option Addr) (gm gq : Nat) (w : World) (h1 : ¬ 20 < gn) (h2 : 40 < gm) (hc1 : gn ≤ gc) (hc2 : gm ≤ gq) :
    Calls Try.prog 20 #[.agg #[.slice gs gn gc, .slice gt gm gq]] w fun e w' => e = .returned (.agg #[.slice gs gn gc, .slice gt 40 gq]) ∧ Grow w w' := by
  have GG : Hid (Grow w ((w.alloc (.cells #[.slice gs gn gc, .slice gt gm gq] 39)).alloc (.cells #[.slice none 0 0, .slice none 0 0] 39))) := hide (Grow.trans' (Grow.alloc' _ _) (Grow.alloc' _ _))
  have i1 : ¬ (20 : Int) < (gn : Int) := by omega
  have i2 : (40 : Int) < (gm : Int) := by omega
  skip
  have r2 : ∀ w, (Instr.slice 37 (.slice gt gm gq) none (some (.int .i64 40)) none).run Try.prog w = .ok (.slice gt 40 gq) w := fun w => run_headE gt gm gq 40 w (by omega)
  clear h1 h2 hc1 hc2
  go_enter Try.func20, Try.ntmps20
  go_wp2_with fail
  refine bodyPost_ret (v := .agg #[.slice gs gn gc, .slice gt 40 gq]) (by simp [results, Try.results20, go_sem]) rfl ⟨rfl, ?_⟩
  (repeat (first | exact Below.refl _ _ | refine Below.setCell ?_ (by simp; try omega) _ | refine Below.alloc ?_ (by simp; try omega) _))
set_option maxHeartbeats 1000000 in
theorem few_10 (gs : Option Addr) (gn gc : Nat) (gt : Option Addr) (gm gq : Nat) (w : World) (h1 : 20 < gn) (h2 : ¬ 40 < gm) (hc1 : gn ≤ gc) (hc2 : gm ≤ gq) :
    Calls Try.prog 20 #[.agg #[.slice gs gn gc, .slice gt gm gq]] w fun e w' => e = .returned (.agg #[.slice gs 20 gc, .slice gt gm gq]) ∧ Grow w w' := by
  have GG : Hid (Grow w ((w.alloc (.cells #[.slice gs gn gc, .slice gt gm gq] 39)).alloc (.cells #[.slice none 0 0, .slice none 0 0] 39))) := hide (Grow.trans' (Grow.alloc' _ _) (Grow.alloc' _ _))
  have i1 : (20 : Int) < (gn : Int) := by omega
  have i2 : ¬ (40 : Int) < (gm : Int) := by omega
  have r1 : ∀ w, (Instr.slice 36 (.slice gs gn gc) none (some (.int .i64 20)) none).run Try.prog w = .ok (.slice gs 20 gc) w := fun w => run_headN gs gn gc 20 w (by omega)
  skip
  clear h1 h2 hc1 hc2
  go_enter Try.func20, Try.ntmps20
  go_wp2_with fail
  refine bodyPost_ret (v := .agg #[.slice gs 20 gc, .slice gt gm gq]) (by simp [results, Try.results20, go_sem]) rfl ⟨rfl, ?_⟩
  (repeat (first | exact Below.refl _ _ | refine Below.setCell ?_ (by simp; try omega) _ | refine Below.alloc ?_ (by simp; try omega) _))
set_option maxHeartbeats 1000000 in
theorem few_11 (gs : Option Addr) (gn gc : Nat) (gt : Option Addr) (gm gq : Nat) (w : World) (h1 : 20 < gn) (h2 : 40 < gm) (hc1 : gn ≤ gc) (hc2 : gm ≤ gq) :
    Calls Try.prog 20 #[.agg #[.slice gs gn gc, .slice gt gm gq]] w fun e w' => e = .returned (.agg #[.slice gs 20 gc, .slice gt 40 gq]) ∧ Grow w w' := by
  have GG : Hid (Grow w ((w.alloc (.cells #[.slice gs gn gc, .slice gt gm gq] 39)).alloc (.cells #[.slice none 0 0, .slice none 0 0] 39))) := hide (Grow.trans' (Grow.alloc' _ _) (Grow.alloc' _ _))
  have i1 : (20 : Int) < (gn : Int) := by omega
  have i2 : (40 : Int) < (gm : Int) := by omega
  have r1 : ∀ w, (Instr.slice 36 (.slice gs gn gc) none (some (.int .i64 20)) none).run Try.prog w = .ok (.slice gs 20 gc) w := fun w => run_headN gs gn gc 20 w (by omega)
  have r2 : ∀ w, (Instr.slice 37 (.slice gt gm gq) none (some (.int .i64 40)) none).run Try.prog w = .ok (.slice gt 40 gq) w := fun w => run_headE gt gm gq 40 w (by omega)
  clear h1 h2 hc1 hc2
  go_enter Try.func20, Try.ntmps20
  go_wp2_with fail
  refine bodyPost_ret (v := .agg #[.slice gs 20 gc, .slice gt 40 gq]) (by simp [results, Try.results20, go_sem]) rfl ⟨rfl, ?_⟩
  (repeat (first | exact Below.refl _ _ | refine Below.setCell ?_ (by simp; try omega) _ | refine Below.alloc ?_ (by simp; try omega) _))
theorem few_raw (gs : Option Addr) (gn gc : Nat) (gt : Option Addr) (gm gq : Nat) (w : World) (hc1 : gn ≤ gc) (hc2 : gm ≤ gq) :
    Calls Try.prog 20 #[.agg #[.slice gs gn gc, .slice gt gm gq]] w fun e w' => e = .returned (.agg #[.slice gs (cutN 20 gn) gc, .slice gt (cutN 40 gm) gq]) ∧ Grow w w' := by
  unfold cutN
  by_cases h1 : 20 < gn <;> by_cases h2 : 40 < gm
  · rw [if_pos h1, if_pos h2]; exact few_11 gs gn gc gt gm gq w h1 h2 hc1 hc2
  · rw [if_pos h1, if_neg h2]; exact few_10 gs gn gc gt gm gq w h1 h2 hc1 hc2
  · rw [if_neg h1, if_pos h2]; exact few_01 gs gn gc gt gm gq w h1 h2 hc1 hc2
  · rw [if_neg h1, if_neg h2]; exact few_00 gs gn gc gt gm gq w h1 h2 hc1 hc2
set_option maxHeartbeats 2000000 in
theorem shown_any (w : World) : Calls Try.prog 9 #[] w fun e w' => e = .returned (.bool true) ∧ Grow w w' := by
  go_enter Try.func9, Try.ntmps9
  go_wp2_with fail
  refine (ins_at 4 (z := 2) rfl _).mono ?_
  rintro _ w1 ⟨rfl, rfl⟩
  go_wp2_with fail
  refine (has_at 11 (q := false) rfl _).mono ?_
  rintro _ w1 ⟨rfl, rfl⟩
  go_wp2_with fail
  refine (has_at 2 (q := true) rfl _).mono ?_
  rintro _ w1 ⟨rfl, rfl⟩
  go_wp2_with fail
  refine (inD_at 8 0 0 2 (z := 1) (by show wrap64 (2 - 1) = 1; exact IntWalk.wrap64_in 1 ⟨by omega, by omega⟩) _).mono ?_
  rintro _ w2 ⟨rfl, hb2⟩
  have G2 := hide hb2
  clear hb2
  go_wp2_with fail
  refine (dep_raw none 0 0 none 0 0 [] 0 0 _ (by omega) (IsNds_nil _)).mono ?_
  rintro _ w3 ⟨rfl, hb3⟩
  have G3 := hide (Grow.trans' G2.out hb3)
  clear hb3
  have hd : depP [] ⟨0, 0⟩ = -1 := rfl
  rw [hd]
  go_wp2_with fail
  go_ret
  exact ⟨rfl, G3.out⟩

end Go.Proofs.Ytjpaclcpebpcjaa
