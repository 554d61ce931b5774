/-
  What the laws' own functions do to the world: shown is true; few is the first 260 nodes and the first 260 edges of a graph; what was there stays as it was.
-/
import Derived.Test.YtjebipagehhkjaaGreatKWg
/-
  What gcode's Put does to the world: the bytes of the graph, in a row of the call's own, or the error; what was there stays as it was.
-/
namespace Go.Proofs.YtjebipagehhkjaaGreat
set_option maxRecDepth 100000
open Go.ChangeShapes Go.WideShapes Go.ChangeAt Go.RowKit Go.Deep Go.Sort
set_option linter.unusedVariables false
set_option linter.unusedSimpArgs false

set_option maxHeartbeats 2000000 in
theorem put_any (gs : Option Addr) (gn gc : Nat) (gt : Option Addr) (gm gq : Nat) (N : List Nd) (E : List Ed) (w : World) (hn : gn ≤ 260) (hm : gm ≤ 260) (hN : IsNds w gs gn gc N) (hE : IsEds w gt gm gq E) :
    Calls Tryz.prog 11 #[.agg #[.slice gs gn gc, .slice gt gm gq]] w fun e w' => Grow w w' ∧ ((fitG N E = true ∧ ∃ s n c, e = .returned (.tuple #[.slice s n c, .int .i64 0]) ∧ IsBy w' s n c (putG N E)) ∨ (fitG N E = false ∧ e = .returned (.tuple #[.slice none 0 0, .int .i64 1]))) := by
  have hz0 : (w.alloc (.cells #[.slice gs gn gc, .slice gt gm gq] 27)).heap.size = w.heap.size + 1 := by simp
  have kc : (convert 22 22 (.slice (some ⟨w.heap.size + 1, 0, none⟩) 2 2)).run Tryz.prog ((w.alloc (.cells #[.slice gs gn gc, .slice gt gm gq] 27)).alloc (.cells #[.int .u8 77, .int .u8 71] 5)) = .ok (.slice (some ⟨w.heap.size + 1, 0, none⟩) 2 2) ((w.alloc (.cells #[.slice gs gn gc, .slice gt gm gq] 27)).alloc (.cells #[.int .u8 77, .int .u8 71] 5 (2, 3))) := by
    have := Lib.run_convert_bytes_const (P := Tryz.prog) (w.alloc (.cells #[.slice gs gn gc, .slice gt gm gq] 27)) 22 5 #[.int .u8 77, .int .u8 71] 2 2 Tryz.underlying22 Tryz.underlying5
    rw [hz0] at this
    exact this
  have hz1 : ((w.alloc (.cells #[.slice gs gn gc, .slice gt gm gq] 27)).alloc (.cells #[.int .u8 77, .int .u8 71] 5 (2, 3))).heap.size = w.heap.size + 1 + 1 := by simp
  have GM : Hid (Grow w (((w.alloc (.cells #[.slice gs gn gc, .slice gt gm gq] 27)).alloc (.cells #[.int .u8 77, .int .u8 71] 5 (2, 3))).alloc (.cells #[.slice (some ⟨w.heap.size + 1, 0, none⟩) 2 2, .bool false] 51))) := hide (Grow.trans' (Grow.trans' (Grow.alloc' _ _) (Grow.alloc' _ _)) (Grow.alloc' _ _))
  have HW : Hid (Wr w (((w.alloc (.cells #[.slice gs gn gc, .slice gt gm gq] 27)).alloc (.cells #[.int .u8 77, .int .u8 71] 5 (2, 3))).alloc (.cells #[.slice (some ⟨w.heap.size + 1, 0, none⟩) 2 2, .bool false] 51)) (w.heap.size + 1 + 1) (some [77, 71])) := hide (by
    refine ⟨GM.out, by omega, some ⟨w.heap.size + 1, 0, none⟩, 2, 2, [77, 71], ?_, .inr ⟨rfl, rfl, w.heap.size + 1, (2, 3), rfl, by omega, ?_⟩, fun e h => Option.some.inj h⟩
    · have := (MapKept.heap_alloc ((w.alloc (.cells #[.slice gs gn gc, .slice gt gm gq] 27)).alloc (.cells #[.int .u8 77, .int .u8 71] 5 (2, 3))) (.cells #[.slice (some ⟨w.heap.size + 1, 0, none⟩) 2 2, .bool false] 51)).1
      rw [hz1] at this
      exact this
    · have h1 := (MapKept.heap_alloc (w.alloc (.cells #[.slice gs gn gc, .slice gt gm gq] 27)) (.cells #[.int .u8 77, .int .u8 71] 5 (2, 3))).1
      rw [hz0] at h1
      have h2 := (Grow.alloc' ((w.alloc (.cells #[.slice gs gn gc, .slice gt gm gq] 27)).alloc (.cells #[.int .u8 77, .int .u8 71] 5 (2, 3))) (.cells #[.slice (some ⟨w.heap.size + 1, 0, none⟩) 2 2, .bool false] 51)).block (w.heap.size + 1) (by rw [hz1]; omega)
      rw [h2]
      exact h1)
  have HN := hide hN
  have HE := hide hE
  have HNm := hide hn
  have HEm := hide hm
  clear hz0 hz1 hN hE hn hm
  go_enter Tryz.func11, Tryz.ntmps11
  go_wp2_with fail
  generalize (((w.alloc (.cells #[.slice gs gn gc, .slice gt gm gq] 27)).alloc (.cells #[.int .u8 77, .int .u8 71] 5 (2, 3))).alloc (.cells #[.slice (some ⟨w.heap.size + 1, 0, none⟩) 2 2, .bool false] 51)) = w1 at *
  obtain ⟨B, hB⟩ : ∃ B, B = w.heap.size + 1 + 1 := ⟨_, rfl⟩
  rw [← hB] at HW ⊢
  clear hB kc
  refine (wgraph_any w w1 B _ gs gn gc gt gm gq N E HNm.out HEm.out HW.out HN.out HE.out (fun d hd => by cases hd; decide) rfl).mono ?_
  rintro _ w2 ⟨rfl, hW2, hT2⟩
  cases hf : fitG N E
  · rw [hf] at hW2
    obtain ⟨hg, hl, s, n, c, d, hC, hO, hd⟩ := hW2
    have HG := hide hg
    obtain ⟨c0, c1⟩ := hC.cells
    simp only [push, Bool.false_eq_true, if_false, Option.isNone_none] at c0 c1
    clear hg hl hO hd hT2 hC
    go_wp2_with fail
    exact bodyPost_ret (v := .tuple #[.slice none 0 0, .int .i64 1]) (by simp [results, Tryz.results11, go_sem]) rfl ⟨HG.out, .inr ⟨hf, rfl⟩⟩
  · rw [hf] at hW2
    obtain ⟨hg, hl, s, n, c, d, hC, hO, hd⟩ := hW2
    have HG := hide hg
    obtain ⟨c0, c1⟩ := hC.cells
    have hdd := hd _ (by simp [push]; rfl)
    have hI : IsBy w2 s n c (putG N E) := by
      have hd2 : d = putG N E := by rw [hdd]; simp [putG, HN.out.1, HE.out.1]
      rw [← hd2]
      exact hO.is
    have HI := hide hI
    simp only [push, if_true, Option.map_some, Option.isNone_some] at c0 c1
    clear hg hl hO hd hT2 hC hI hdd
    go_wp2_with fail
    exact bodyPost_ret (v := .tuple #[.slice s n c, .int .i64 0]) (by simp [results, Tryz.results11, go_sem]) rfl ⟨HG.out, .inl ⟨hf, s, n, c, rfl, HI.out⟩⟩
end Go.Proofs.YtjebipagehhkjaaGreat
namespace Go.Proofs.YtjebipagehhkjaaGreat
set_option maxRecDepth 100000
open Go.ChangeShapes Go.WideShapes Go.ChangeAt Go.RowKit Go.Deep Go.Sort
set_option linter.unusedVariables false
set_option linter.unusedSimpArgs false

def plN : List Nd := [⟨1, 0, 0, 0⟩, ⟨11, 0, 0, 0⟩]
def plE : List Ed := [⟨0, 1, 0⟩]
theorem str_of {T B S : TypeId} (hT : ByT T B) (hS : Tryz.prog.underlying S = some .string) (w : World) (s : Option Addr) (n cap : Nat) (d : List UInt8) (h : IsBy w s n cap d) : (convert T S (.slice s n cap)).run Tryz.prog w = .ok (.string ⟨d.toArray⟩) w := run_str_by hT hS w s n cap d h
set_option maxHeartbeats 2000000 in
theorem shown_any (w : World) : Calls Tryz.prog 5 #[] w fun e w' => e = .returned (.bool true) ∧ Grow w w' := by
  have GG : Hid (Grow w ((w.alloc (.cells #[.int .i64 1, .int .i64 0, .int .i64 0, .int .i64 0, .int .i64 11, .int .i64 0, .int .i64 0, .int .i64 0] 37)).alloc (.cells #[.int .i64 0, .int .i64 1, .int .i64 0] 39))) := hide (Grow.trans' (Grow.alloc' _ _) (Grow.alloc' _ _))
  have hz1 : (w.alloc (.cells #[.int .i64 1, .int .i64 0, .int .i64 0, .int .i64 0, .int .i64 11, .int .i64 0, .int .i64 0, .int .i64 0] 37)).heap.size = w.heap.size + 1 := by simp
  have IN : Hid (IsNds ((w.alloc (.cells #[.int .i64 1, .int .i64 0, .int .i64 0, .int .i64 0, .int .i64 11, .int .i64 0, .int .i64 0, .int .i64 0] 37)).alloc (.cells #[.int .i64 0, .int .i64 1, .int .i64 0] 39)) (some ⟨w.heap.size, 0, none⟩) 2 2 plN) := hide (isNds_lit _ _ _ _ rfl (by
    intro j hj v hv
    have : j = 0 ∨ j = 1 ∨ j = 2 ∨ j = 3 ∨ j = 4 ∨ j = 5 ∨ j = 6 ∨ j = 7 := by omega
    rcases this with rfl | rfl | rfl | rfl | rfl | rfl | rfl | rfl <;> simp [plN, flatN, encN] at hv <;> subst hv <;> simp [go_sem]))
  have IE : Hid (IsEds ((w.alloc (.cells #[.int .i64 1, .int .i64 0, .int .i64 0, .int .i64 0, .int .i64 11, .int .i64 0, .int .i64 0, .int .i64 0] 37)).alloc (.cells #[.int .i64 0, .int .i64 1, .int .i64 0] 39)) (some ⟨w.heap.size + 1, 0, none⟩) 1 1 plE) := hide (isEds_lit _ _ _ _ rfl (by
    intro j hj v hv
    have : j = 0 ∨ j = 1 ∨ j = 2 := by omega
    rcases this with rfl | rfl | rfl <;> simp [plE, flatE, encE] at hv <;> subst hv <;> simp [go_sem]))
  have hfit : fitG plN plE = true := by decide
  have HF := hide hfit
  clear hz1 hfit
  go_enter Tryz.func5, Tryz.ntmps5
  go_wp2_with fail
  generalize ((w.alloc (.cells #[.int .i64 1, .int .i64 0, .int .i64 0, .int .i64 0, .int .i64 11, .int .i64 0, .int .i64 0, .int .i64 0] 37)).alloc (.cells #[.int .i64 0, .int .i64 1, .int .i64 0] 39)) = w1 at *
  refine (put_any _ 2 2 _ 1 1 plN plE w1 (by omega) (by omega) IN.out IE.out).mono ?_
  rintro _ w2 ⟨hg, ⟨_, s, n, c, rfl, hI⟩ | ⟨hno, _⟩⟩
  rotate_left
  · rw [HF.out] at hno; cases hno
  have G2 := hide (Grow.trans' GG.out hg)
  have kc := str_of byT Tryz.underlying9 w2 s n c (putG plN plE) hI
  have hp : putG plN plE = [77, 71, 2, 1, 0, 0, 0, 0, 0, 11, 0, 0, 0, 0, 0, 1, 0, 1, 0] := put_shown
  rw [hp] at kc
  clear hg hI hp
  go_wp2_with fail
  go_ret
  exact ⟨rfl, G2.out⟩
end Go.Proofs.YtjebipagehhkjaaGreat
