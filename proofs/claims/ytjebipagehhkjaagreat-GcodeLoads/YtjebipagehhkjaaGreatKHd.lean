/-
  What the laws' own functions do to the world: shown is true; few is the first 260 nodes and the first 260 edges of a graph; what was there stays as it was.
-/
import Derived.Test.YtjebipagehhkjaaGreatKPu
namespace Go.Proofs.YtjebipagehhkjaaGreat
set_option maxRecDepth 100000
open Go.ChangeShapes Go.WideShapes Go.ChangeAt Go.RowKit Go.Deep Go.Sort
set_option linter.unusedVariables false
set_option linter.unusedSimpArgs false

def plN : List Nd := [⟨1, 0, 0, 0⟩, ⟨11, 0, 0, 0⟩]
def plE : List Ed := [⟨0, 1, 0⟩]
theorem str_of {T B S : TypeId} (hT : ByT T B) (hS : Tryz.prog.underlying S = some .string) (w : World) (s : Option Addr) (n cap : Nat) (d : List UInt8) (h : IsBy w s n cap d) : (convert T S (.slice s n cap)).run Tryz.prog w = .ok (.string ⟨d.toArray⟩) w := run_str_by hT hS w s n cap d h
set_option maxHeartbeats 2000000 in
theorem shown_any (w : World) : Calls Tryz.prog 5 #[] w fun e w' => e = .returned (.bool true) ∧ Grow w w' := by
  have GG : Hid (Grow w ((w.alloc (.cells #[.int .i64 1, .int .i64 0, .int .i64 0, .int .i64 0, .int .i64 11, .int .i64 0, .int .i64 0, .int .i64 0] 37)).alloc (.cells #[.int .i64 0, .int .i64 1, .int .i64 0] 39))) := hide (Grow.trans' (Grow.alloc' _ _) (Grow.alloc' _ _))
  have hz1 : (w.alloc (.cells #[.int .i64 1, .int .i64 0, .int .i64 0, .int .i64 0, .int .i64 11, .int .i64 0, .int .i64 0, .int .i64 0] 37)).heap.size = w.heap.size + 1 := by simp
  have IN : Hid (IsNds ((w.alloc (.cells #[.int .i64 1, .int .i64 0, .int .i64 0, .int .i64 0, .int .i64 11, .int .i64 0, .int .i64 0, .int .i64 0] 37)).alloc (.cells #[.int .i64 0, .int .i64 1, .int .i64 0] 39)) (some ⟨w.heap.size, 0, none⟩) 2 2 plN) := hide (isNds_lit _ _ _ _ rfl (by
    intro j hj v hv
    have : j = 0 ∨ j = 1 ∨ j = 2 ∨ j = 3 ∨ j = 4 ∨ j = 5 ∨ j = 6 ∨ j = 7 := by omega
    rcases this with rfl | rfl | rfl | rfl | rfl | rfl | rfl | rfl <;> simp [plN, flatN, encN] at hv <;> subst hv <;> simp [go_sem]))
  have IE : Hid (IsEds ((w.alloc (.cells #[.int .i64 1, .int .i64 0, .int .i64 0, .int .i64 0, .int .i64 11, .int .i64 0, .int .i64 0, .int .i64 0] 37)).alloc (.cells #[.int .i64 0, .int .i64 1, .int .i64 0] 39)) (some ⟨w.heap.size + 1, 0, none⟩) 1 1 plE) := hide (isEds_lit _ _ _ _ rfl (by
    intro j hj v hv
    have : j = 0 ∨ j = 1 ∨ j = 2 := by omega
    rcases this with rfl | rfl | rfl <;> simp [plE, flatE, encE] at hv <;> subst hv <;> simp [go_sem]))
  have hfit : fitG plN plE = true := by decide
  have HF := hide hfit
  clear hz1 hfit
  go_enter Tryz.func5, Tryz.ntmps5
  go_wp2_with fail
  generalize ((w.alloc (.cells #[.int .i64 1, .int .i64 0, .int .i64 0, .int .i64 0, .int .i64 11, .int .i64 0, .int .i64 0, .int .i64 0] 37)).alloc (.cells #[.int .i64 0, .int .i64 1, .int .i64 0] 39)) = w1 at *
  refine (put_any _ 2 2 _ 1 1 plN plE w1 (by omega) (by omega) IN.out IE.out).mono ?_
  rintro _ w2 ⟨hg, ⟨_, s, n, c, rfl, hI⟩ | ⟨hno, _⟩⟩
  rotate_left
  · rw [HF.out] at hno; cases hno
  have G2 := hide (Grow.trans' GG.out hg)
  have kc := str_of byT Tryz.underlying9 w2 s n c (putG plN plE) hI
  have hp : putG plN plE = [77, 71, 2, 1, 0, 0, 0, 0, 0, 11, 0, 0, 0, 0, 0, 1, 0, 1, 0] := put_shown
  rw [hp] at kc
  clear hg hI hp
  go_wp2_with fail
  go_ret
  exact ⟨rfl, G2.out⟩
end Go.Proofs.YtjebipagehhkjaaGreat
