/-
  What the laws' own functions do to the world: shown is true; few is the first 14 nodes and the first 26 edges of a graph; what was there stays as it was.
-/
import Derived.Test.YtdgmfjaldicmgaaVGr
import Derived.Test.YtdgmfjaldicmgaaVMore
namespace Go.Proofs.Ytdgmfjaldicmgaa
set_option maxRecDepth 100000
open Go.RowKit
set_option linter.unusedVariables false
set_option linter.unusedSimpArgs false

def cutN (k n : Nat) : Nat := if k < n then k else n
theorem cutN_le (k n : Nat) : cutN k n ≤ k ∧ cutN k n ≤ n := by unfold cutN; split <;> omega
theorem IsNds.cut {w : World} {s : Option Addr} {n c : Nat} {d : List Nd} (h : IsNds w s n c d) (k : Nat) : IsNds w s (cutN k n) c (d.take k) := by
  unfold cutN
  split
  · exact h.take' k (by omega)
  · rw [List.take_of_length_le (by rw [h.1]; omega)]; exact h
theorem IsEds.cut {w : World} {s : Option Addr} {n c : Nat} {d : List Ed} (h : IsEds w s n c d) (k : Nat) : IsEds w s (cutN k n) c (d.take k) := by
  unfold cutN
  split
  · exact h.take' k (by omega)
  · rw [List.take_of_length_le (by rw [h.1]; omega)]; exact h
set_option maxHeartbeats 1000000 in
theorem few_00 (gs : Option Addr) (gn gc : Nat) (gt : Option Addr) (gm gq : Nat) (w : World) (h1 : ¬ 14 < gn) (h2 : ¬ 26 < gm) (hc1 : gn ≤ gc) (hc2 : gm ≤ gq) :
    Calls Try.prog 12 #[.agg #[.slice gs gn gc, .slice gt gm gq]] w fun e w' => e = .returned (.agg #[.slice gs gn gc, .slice gt gm gq]) ∧ Grow w w' := by
  have GG : Hid (Grow w ((w.alloc (.cells #[.slice gs gn gc, .slice gt gm gq] 29)).alloc (.cells #[.slice none 0 0, .slice none 0 0] 29))) := hide (Grow.trans' (Grow.alloc' _ _) (Grow.alloc' _ _))
  have i1 : ¬ (14 : Int) < (gn : Int) := by omega
  have i2 : ¬ (26 : Int) < (gm : Int) := by omega
  skip
  skip
  clear h1 h2 hc1 hc2
  go_enter Try.func12, Try.ntmps12
  go_wp2_with fail
  refine bodyPost_ret (v := .agg #[.slice gs gn gc, .slice gt gm gq]) (by simp [results, Try.results12, go_sem]) rfl ⟨rfl, ?_⟩
  (repeat (first | exact Below.refl _ _ | refine Below.setCell ?_ (by simp; try omega) _ | refine Below.alloc ?_ (by simp; try omega) _))
set_option maxHeartbeats 1000000 in
theorem few_01 (gs : Option Addr) (gn gc : Nat) (gt : Option Addr) (gm gq : Nat) (w : World) (h1 : ¬ 14 < gn) (h2 : 26 < gm) (hc1 : gn ≤ gc) (hc2 : gm ≤ gq) :
    Calls Try.prog 12 #[.agg #[.slice gs gn gc, .slice gt gm gq]] w fun e w' => e = .returned (.agg #[.slice gs gn gc, .slice gt 26 gq]) ∧ Grow w w' := by
  have GG : Hid (Grow w ((w.alloc (.cells #[.slice gs gn gc, .slice gt gm gq] 29)).alloc (.cells #[.slice none 0 0, .slice none 0 0] 29))) := hide (Grow.trans' (Grow.alloc' _ _) (Grow.alloc' _ _))
  have i1 : ¬ (14 : Int) < (gn : Int) := by omega
  have i2 : (26 : Int) < (gm : Int) := by omega
  skip
  have r2 : ∀ w, (Instr.slice 27 (.slice gt gm gq) none (some (.int .i64 26)) none).run Try.prog w = .ok (.slice gt 26 gq) w := fun w => run_headE gt gm gq 26 w (by omega)
  clear h1 h2 hc1 hc2
  go_enter Try.func12, Try.ntmps12
  go_wp2_with fail
  refine bodyPost_ret (v := .agg #[.slice gs gn gc, .slice gt 26 gq]) (by simp [results, Try.results12, go_sem]) rfl ⟨rfl, ?_⟩
  (repeat (first | exact Below.refl _ _ | refine Below.setCell ?_ (by simp; try omega) _ | refine Below.alloc ?_ (by simp; try omega) _))
set_option maxHeartbeats 1000000 in
theorem few_10 (gs : Option Addr) (gn gc : Nat) (gt : Option Addr) (gm gq : Nat) (w : World) (h1 : 14 < gn) (h2 : ¬ 26 < gm) (hc1 : gn ≤ gc) (hc2 : gm ≤ gq) :
    Calls Try.prog 12 #[.agg #[.slice gs gn gc, .slice gt gm gq]] w fun e w' => e = .returned (.agg #[.slice gs 14 gc, .slice gt gm gq]) ∧ Grow w w' := by
  have GG : Hid (Grow w ((w.alloc (.cells #[.slice gs gn gc, .slice gt gm gq] 29)).alloc (.cells #[.slice none 0 0, .slice none 0 0] 29))) := hide (Grow.trans' (Grow.alloc' _ _) (Grow.alloc' _ _))
  have i1 : (14 : Int) < (gn : Int) := by omega
  have i2 : ¬ (26 : Int) < (gm : Int) := by omega
  have r1 : ∀ w, (Instr.slice 26 (.slice gs gn gc) none (some (.int .i64 14)) none).run Try.prog w = .ok (.slice gs 14 gc) w := fun w => run_headN gs gn gc 14 w (by omega)
  skip
  clear h1 h2 hc1 hc2
  go_enter Try.func12, Try.ntmps12
  go_wp2_with fail
  refine bodyPost_ret (v := .agg #[.slice gs 14 gc, .slice gt gm gq]) (by simp [results, Try.results12, go_sem]) rfl ⟨rfl, ?_⟩
  (repeat (first | exact Below.refl _ _ | refine Below.setCell ?_ (by simp; try omega) _ | refine Below.alloc ?_ (by simp; try omega) _))
set_option maxHeartbeats 1000000 in
theorem few_11 (gs : Option Addr) (gn gc : Nat) (gt : Option Addr) (gm gq : Nat) (w : World) (h1 : 14 < gn) (h2 : 26 < gm) (hc1 : gn ≤ gc) (hc2 : gm ≤ gq) :
    Calls Try.prog 12 #[.agg #[.slice gs gn gc, .slice gt gm gq]] w fun e w' => e = .returned (.agg #[.slice gs 14 gc, .slice gt 26 gq]) ∧ Grow w w' := by
  have GG : Hid (Grow w ((w.alloc (.cells #[.slice gs gn gc, .slice gt gm gq] 29)).alloc (.cells #[.slice none 0 0, .slice none 0 0] 29))) := hide (Grow.trans' (Grow.alloc' _ _) (Grow.alloc' _ _))
  have i1 : (14 : Int) < (gn : Int) := by omega
  have i2 : (26 : Int) < (gm : Int) := by omega
  have r1 : ∀ w, (Instr.slice 26 (.slice gs gn gc) none (some (.int .i64 14)) none).run Try.prog w = .ok (.slice gs 14 gc) w := fun w => run_headN gs gn gc 14 w (by omega)
  have r2 : ∀ w, (Instr.slice 27 (.slice gt gm gq) none (some (.int .i64 26)) none).run Try.prog w = .ok (.slice gt 26 gq) w := fun w => run_headE gt gm gq 26 w (by omega)
  clear h1 h2 hc1 hc2
  go_enter Try.func12, Try.ntmps12
  go_wp2_with fail
  refine bodyPost_ret (v := .agg #[.slice gs 14 gc, .slice gt 26 gq]) (by simp [results, Try.results12, go_sem]) rfl ⟨rfl, ?_⟩
  (repeat (first | exact Below.refl _ _ | refine Below.setCell ?_ (by simp; try omega) _ | refine Below.alloc ?_ (by simp; try omega) _))
theorem few_raw (gs : Option Addr) (gn gc : Nat) (gt : Option Addr) (gm gq : Nat) (w : World) (hc1 : gn ≤ gc) (hc2 : gm ≤ gq) :
    Calls Try.prog 12 #[.agg #[.slice gs gn gc, .slice gt gm gq]] w fun e w' => e = .returned (.agg #[.slice gs (cutN 14 gn) gc, .slice gt (cutN 26 gm) gq]) ∧ Grow w w' := by
  unfold cutN
  by_cases h1 : 14 < gn <;> by_cases h2 : 26 < gm
  · rw [if_pos h1, if_pos h2]; exact few_11 gs gn gc gt gm gq w h1 h2 hc1 hc2
  · rw [if_pos h1, if_neg h2]; exact few_10 gs gn gc gt gm gq w h1 h2 hc1 hc2
  · rw [if_neg h1, if_pos h2]; exact few_01 gs gn gc gt gm gq w h1 h2 hc1 hc2
  · rw [if_neg h1, if_neg h2]; exact few_00 gs gn gc gt gm gq w h1 h2 hc1 hc2

/-! ## A row stored into a graph of the call's own -/
theorem BlkG.lt {w : World} {b : Nat} (h : BlkG w b) : b < w.heap.size := by
  obtain ⟨cs, h, _⟩ := h
  exact (Array.getElem?_eq_some_iff.1 h).1
theorem BlkG.frozen {w : World} {b : Nat} (h : BlkG w b) (j : Nat) : w.frozen? ⟨b, j, none⟩ = false := by
  obtain ⟨cs, h, _⟩ := h
  exact frozen_of_row w b j cs _ h
/-- A whole graph stored into a block of the call's own. -/
theorem wpList_putG2 {ops : Array Oper} {rest : List Oper} {o : Oper} {a : Act} {w : World} {Q : Exit → Act → World → Prop} (hgd : o.guard = none) (x y : Operand) (ho : o.op = .store 29 x y) (b : Nat) (g : GA)
    (hx : a.eval x = .pointer (some ⟨b, 0, none⟩)) (hy : a.eval y = .agg #[.slice g.s g.n g.c, .slice g.t g.m g.q]) (hb : BlkG w b) (W : World) (hg : Grow W w) (hW : W.heap.size ≤ b) (h : ∀ w2, Grow W w2 → BoxG w2 b g → BlkG w2 b → (∀ k, k ≠ b → w2.heap[k]? = w.heap[k]?) → w2.heap.size = w.heap.size → wpList Try.prog ops Q rest (a.put o.dst undef) w2) : wpList Try.prog ops Q (o :: rest) a w := by
  have hb' := hb
  obtain ⟨cs, hb1, hs⟩ := hb
  refine wpList_store_row hgd 29 x y ho b _ hx hy _ _ hb1 (by kernel_rfl) (by rw [hs]; rfl) (by simp [Value.oneCell']) (h _ (below_setRow hg hW _) (hb'.box g) ?_ (fun k hk => setRow_other w b k _ hk) (by simp [World.setRow]))
  exact ⟨_, setRow_heap w b cs _ _ _ hb1, rfl⟩
theorem cell_of_heap {w w' : World} {k : Nat} (h : w'.heap[k]? = w.heap[k]?) (j : Nat) : w'.cell? ⟨k, j, none⟩ = w.cell? ⟨k, j, none⟩ := by
  simp only [World.cell?, h]
theorem wpList_setN {ops : Array Oper} {rest : List Oper} {o : Oper} {a : Act} {w : World} {Q : Exit → Act → World → Prop} (hgd : o.guard = none) (x y : Operand) (ho : o.op = .store 26 x y) (b : Nat) (g : GA) (s : Option Addr) (n c : Nat)
    (hx : a.eval x = .pointer (some ⟨b, 0, none⟩)) (hy : a.eval y = .slice s n c) (hb : BlkG w b) (hG : BoxG w b g) (W : World) (hg : Grow W w) (hW : W.heap.size ≤ b)
    (h : ∀ w2, Grow W w2 → BoxG w2 b ⟨s, n, c, g.t, g.m, g.q, [], []⟩ → BlkG w2 b → (∀ k, k ≠ b → w2.heap[k]? = w.heap[k]?) → w2.heap.size = w.heap.size → wpList Try.prog ops Q rest (a.put o.dst undef) w2) : wpList Try.prog ops Q (o :: rest) a w := by
  have hf := hb.frozen 0
  have hl := hb.lt
  obtain ⟨h0, h1⟩ := hG
  have hK : BoxG (w.setCell ⟨b, 0, none⟩ (.slice s n c)) b ⟨s, n, c, g.t, g.m, g.q, [], []⟩ := by
    constructor <;> simp [go_sem, h0, h1]
  have hB : BlkG (w.setCell ⟨b, 0, none⟩ (.slice s n c)) b := by
    obtain ⟨cs, hc, hs⟩ := hb
    exact ⟨_, heap_setCell_same w b 0 cs _ _ hc, by simpa using hs⟩
  have hO : ∀ k, k ≠ b → (w.setCell ⟨b, 0, none⟩ (.slice s n c)).heap[k]? = w.heap[k]? := fun k hk => heap_setCell_other w ⟨b, 0, none⟩ k _ (fun e => hk (by simp [e]))
  have hgr : Grow W (w.setCell ⟨b, 0, none⟩ (.slice s n c)) := hg.setCell hW _
  have hz : (w.setCell ⟨b, 0, none⟩ (.slice s n c)).heap.size = w.heap.size := by simp
  refine wpList_plain hgd fun K hK' => ?_
  have hk2 := hK' _ _ (h _ hgr hK hB hO hz)
  clear hK' h hK hB hO hgr hz
  unfold Oper.wp
  simp only [execOp, ho]
  generalize a.eval = ev at hx hy ⊢
  simp [hx, hy, go_sem, h0, hf, Result.andThen]
  exact hk2
theorem wpList_setE {ops : Array Oper} {rest : List Oper} {o : Oper} {a : Act} {w : World} {Q : Exit → Act → World → Prop} (hgd : o.guard = none) (x y : Operand) (ho : o.op = .store 27 x y) (b : Nat) (g : GA) (s : Option Addr) (n c : Nat)
    (hx : a.eval x = .pointer (some ⟨b, 1, none⟩)) (hy : a.eval y = .slice s n c) (hb : BlkG w b) (hG : BoxG w b g) (W : World) (hg : Grow W w) (hW : W.heap.size ≤ b)
    (h : ∀ w2, Grow W w2 → BoxG w2 b ⟨g.s, g.n, g.c, s, n, c, [], []⟩ → BlkG w2 b → (∀ k, k ≠ b → w2.heap[k]? = w.heap[k]?) → w2.heap.size = w.heap.size → wpList Try.prog ops Q rest (a.put o.dst undef) w2) : wpList Try.prog ops Q (o :: rest) a w := by
  have hf := hb.frozen 1
  have hl := hb.lt
  obtain ⟨h0, h1⟩ := hG
  have hK : BoxG (w.setCell ⟨b, 1, none⟩ (.slice s n c)) b ⟨g.s, g.n, g.c, s, n, c, [], []⟩ := by
    constructor <;> simp [go_sem, h0, h1]
  have hB : BlkG (w.setCell ⟨b, 1, none⟩ (.slice s n c)) b := by
    obtain ⟨cs, hc, hs⟩ := hb
    exact ⟨_, heap_setCell_same w b 1 cs _ _ hc, by simpa using hs⟩
  have hO : ∀ k, k ≠ b → (w.setCell ⟨b, 1, none⟩ (.slice s n c)).heap[k]? = w.heap[k]? := fun k hk => heap_setCell_other w ⟨b, 1, none⟩ k _ (fun e => hk (by simp [e]))
  have hgr : Grow W (w.setCell ⟨b, 1, none⟩ (.slice s n c)) := hg.setCell hW _
  have hz : (w.setCell ⟨b, 1, none⟩ (.slice s n c)).heap.size = w.heap.size := by simp
  refine wpList_plain hgd fun K hK' => ?_
  have hk2 := hK' _ _ (h _ hgr hK hB hO hz)
  clear hK' h hK hB hO hgr hz
  unfold Oper.wp
  simp only [execOp, ho]
  generalize a.eval = ev at hx hy ⊢
  simp [hx, hy, go_sem, h1, hf, Result.andThen]
  exact hk2
/-- Rows of cells, written out. -/
theorem isNds_lit (w : World) (b n : Nat) (d : List Nd) (hn : d.length = n) (h : ∀ j, j < n * 4 → ∀ v, (flatN d)[j]? = some v → w.cell? ⟨b, j, none⟩ = some v) : IsNds w (some ⟨b, 0, none⟩) n n d :=
  ⟨hn, Nat.le_refl _, .inr ⟨b, 0, rfl, fun j v hj => by
    have hj' : j < n * 4 := by
      have := (List.getElem?_eq_some_iff.1 hj).1
      rw [flatN_len, hn] at this
      exact this
    rw [Nat.zero_add]
    exact h j hj' v hj⟩⟩
theorem isEds_lit (w : World) (b n : Nat) (d : List Ed) (hn : d.length = n) (h : ∀ j, j < n * 3 → ∀ v, (flatE d)[j]? = some v → w.cell? ⟨b, j, none⟩ = some v) : IsEds w (some ⟨b, 0, none⟩) n n d :=
  ⟨hn, Nat.le_refl _, .inr ⟨b, 0, rfl, fun j v hj => by
    have hj' : j < n * 3 := by
      have := (List.getElem?_eq_some_iff.1 hj).1
      rw [flatE_len, hn] at this
      exact this
    rw [Nat.zero_add]
    exact h j hj' v hj⟩⟩
theorem IsNds.keep {w w' : World} {b o n cap : Nat} {d : List Nd} (h : IsNds w (some ⟨b, o, none⟩) n cap d) (hk : ∀ j, w'.cell? ⟨b, j, none⟩ = w.cell? ⟨b, j, none⟩) : IsNds w' (some ⟨b, o, none⟩) n cap d :=
  ⟨h.1, h.2.1, h.2.2.imp id fun ⟨b', o', e, r⟩ => ⟨b', o', e, fun j v hj => by
    simp at e
    obtain ⟨rfl, rfl⟩ := e
    rw [hk]
    exact r j v hj⟩⟩
theorem IsEds.keep {w w' : World} {b o n cap : Nat} {d : List Ed} (h : IsEds w (some ⟨b, o, none⟩) n cap d) (hk : ∀ j, w'.cell? ⟨b, j, none⟩ = w.cell? ⟨b, j, none⟩) : IsEds w' (some ⟨b, o, none⟩) n cap d :=
  ⟨h.1, h.2.1, h.2.2.imp id fun ⟨b', o', e, r⟩ => ⟨b', o', e, fun j v hj => by
    simp at e
    obtain ⟨rfl, rfl⟩ := e
    rw [hk]
    exact r j v hj⟩⟩

def plN : List Nd := [⟨1, 0, 0, 0⟩, ⟨11, 0, 0, 0⟩]
def plE : List Ed := [⟨0, 1, 0⟩]
set_option maxHeartbeats 2000000 in
theorem plain_any (w : World) : Calls Try.prog 21 #[] w fun e w' => ∃ s t, e = .returned (.agg #[.slice (some ⟨s, 0, none⟩) 2 2, .slice (some ⟨t, 0, none⟩) 1 1]) ∧ Grow w w' ∧ IsNds w' (some ⟨s, 0, none⟩) 2 2 plN ∧ IsEds w' (some ⟨t, 0, none⟩) 1 1 plE := by
  have GG : Hid (Grow w (((w.alloc (.cells #[.slice none 0 0, .slice none 0 0] 29)).alloc (.cells #[.int .i64 1, .int .i64 0, .int .i64 0, .int .i64 0, .int .i64 11, .int .i64 0, .int .i64 0, .int .i64 0] 23)).alloc (.cells #[.int .i64 0, .int .i64 1, .int .i64 0] 50))) := hide (Grow.trans' (Grow.trans' (Grow.alloc' _ _) (Grow.alloc' _ _)) (Grow.alloc' _ _))
  have KB : Hid (BlkG (((w.alloc (.cells #[.slice none 0 0, .slice none 0 0] 29)).alloc (.cells #[.int .i64 1, .int .i64 0, .int .i64 0, .int .i64 0, .int .i64 11, .int .i64 0, .int .i64 0, .int .i64 0] 23)).alloc (.cells #[.int .i64 0, .int .i64 1, .int .i64 0] 50)) w.heap.size) := hide (((BlkG.new w _ _).later (Grow.alloc' _ _)).later (Grow.alloc' _ _))
  have hz1 : (w.alloc (.cells #[.slice none 0 0, .slice none 0 0] 29)).heap.size = w.heap.size + 1 := by simp
  have hz2 : ((w.alloc (.cells #[.slice none 0 0, .slice none 0 0] 29)).alloc (.cells #[.int .i64 1, .int .i64 0, .int .i64 0, .int .i64 0, .int .i64 11, .int .i64 0, .int .i64 0, .int .i64 0] 23)).heap.size = w.heap.size + 2 := by simp
  have IN : Hid (IsNds (((w.alloc (.cells #[.slice none 0 0, .slice none 0 0] 29)).alloc (.cells #[.int .i64 1, .int .i64 0, .int .i64 0, .int .i64 0, .int .i64 11, .int .i64 0, .int .i64 0, .int .i64 0] 23)).alloc (.cells #[.int .i64 0, .int .i64 1, .int .i64 0] 50)) (some ⟨w.heap.size + 1, 0, none⟩) 2 2 plN) := hide (isNds_lit _ _ _ _ rfl (by
    intro j hj v hv
    have : j = 0 ∨ j = 1 ∨ j = 2 ∨ j = 3 ∨ j = 4 ∨ j = 5 ∨ j = 6 ∨ j = 7 := by omega
    rcases this with rfl | rfl | rfl | rfl | rfl | rfl | rfl | rfl <;> simp [plN, flatN, encN] at hv <;> subst hv <;> simp [go_sem]))
  have IE : Hid (IsEds (((w.alloc (.cells #[.slice none 0 0, .slice none 0 0] 29)).alloc (.cells #[.int .i64 1, .int .i64 0, .int .i64 0, .int .i64 0, .int .i64 11, .int .i64 0, .int .i64 0, .int .i64 0] 23)).alloc (.cells #[.int .i64 0, .int .i64 1, .int .i64 0] 50)) (some ⟨w.heap.size + 2, 0, none⟩) 1 1 plE) := hide (isEds_lit _ _ _ _ rfl (by
    intro j hj v hv
    have : j = 0 ∨ j = 1 ∨ j = 2 := by omega
    rcases this with rfl | rfl | rfl <;> simp [plE, flatE, encE] at hv <;> subst hv <;> simp [go_sem]))
  clear hz1 hz2
  go_enter Try.func21, Try.ntmps21
  go_wp2_with (refine wpList_putG rfl _ _ rfl w.heap.size ⟨some ⟨w.heap.size + 1, 0, none⟩, 2, 2, some ⟨w.heap.size + 2, 0, none⟩, 1, 1, [], []⟩ rfl rfl KB.out w GG.out (Nat.le_refl _) ?_)
  intro w2 hg2 hb2 hoth hsz
  have G2 := hide hg2
  have BB := hide hb2
  have IN2 := hide (IN.out.keep (w' := w2) fun j => hoth ⟨w.heap.size + 1, j, none⟩ (by simp))
  have IE2 := hide (IE.out.keep (w' := w2) fun j => hoth ⟨w.heap.size + 2, j, none⟩ (by simp))
  clear hg2 hb2 hoth hsz
  go_wp2_with fail
  exact bodyPost_ret (resultsG (fn := Try.f21) (i := 0) rfl _ _ (b := w.heap.size) (g := ⟨some ⟨w.heap.size + 1, 0, none⟩, 2, 2, some ⟨w.heap.size + 2, 0, none⟩, 1, 1, [], []⟩) rfl BB.out) rfl ⟨_, _, rfl, G2.out, IN2.out, IE2.out⟩
set_option maxHeartbeats 2000000 in
theorem shown_any (w : World) : Calls Try.prog 9 #[] w fun e w' => e = .returned (.bool true) ∧ Grow w w' := by
  go_enter Try.func9, Try.ntmps9
  go_wp2_with fail
  refine (plain_any _).mono ?_
  rintro _ w1 ⟨s, t, rfl, hb, hN, hE⟩
  have G1 := hide hb
  have HN := hide hN
  have HE := hide hE
  have BA := hide (BlkG.new w1 (.slice none 0 0) (.slice none 0 0))
  clear hb hN hE
  go_wp2_with (refine wpList_putG2 rfl _ _ rfl w1.heap.size ⟨some ⟨s, 0, none⟩, 2, 2, some ⟨t, 0, none⟩, 1, 1, [], []⟩ rfl rfl BA.out w1 (Grow.alloc' _ _) (Nat.le_refl _) ?_)
  intro w2 hg2 hb2 hk2 _ _
  have G12 := hide hg2
  have BG := hide hb2
  have BK := hide hk2
  obtain ⟨g0, g1⟩ := hb2
  dsimp only at g0 g1
  clear hg2 hk2 BA
  generalize hP : w1.heap.size = P at *
  have HP := hide hP
  clear hP
  have C1 := hide (graph_raw (some ⟨s, 0, none⟩) 2 2 (some ⟨t, 0, none⟩) 1 1 plN plE w2 (by omega) (by omega) (HN.out.later G12.out) (HE.out.later G12.out) plain_err.1)
  go_wp2_with fail
  refine C1.out.mono ?_
  rintro _ w3 ⟨rfl, hb⟩
  have G13 := hide (Grow.trans' G12.out hb)
  have BG3 := hide (BG.out.later hb)
  have BK3 := hide (BK.out.later hb)
  clear hb g0 g1 C1 BG BK
  go_wp2_with (refine wpList_setE rfl _ _ rfl P ⟨some ⟨s, 0, none⟩, 2, 2, some ⟨t, 0, none⟩, 1, 1, [], []⟩ none 0 0 rfl rfl BK3.out BG3.out w1 G13.out (Nat.le_of_eq HP.out) ?_)
  intro w4 hg4 hb4 hk4 _ _
  have G14 := hide hg4
  obtain ⟨g0, g1⟩ := hb4
  dsimp only at g0 g1
  have HN4 := hide (HN.out.later hg4)
  clear hg4 hk4
  have C2 := hide (graph_raw (some ⟨s, 0, none⟩) 2 2 none 0 0 plN [] w4 (by omega) (by omega) HN4.out ⟨rfl, Nat.le_refl _, .inl rfl⟩ plain_err.2)
  have KB : Hid (BoxG w4 P ⟨some ⟨s, 0, none⟩, 2, 2, none, 0, 0, [], []⟩) := hide ⟨g0, g1⟩
  go_wp2_with fail
  refine C2.out.mono ?_
  rintro _ w5 ⟨rfl, hb⟩
  have G15 := hide (Grow.trans' G14.out hb)
  obtain ⟨h0, h1⟩ := KB.out.later hb
  dsimp only at h0 h1
  have hRow := (HN4.out.later hb).2.2.resolve_left (by simp [plN])
  obtain ⟨b', o', he, hr⟩ := hRow
  have hbo : b' = s ∧ o' = 0 := by simp at he; exact ⟨he.1.symm, he.2.symm⟩
  obtain ⟨rfl, rfl⟩ := hbo
  obtain ⟨p0, p1, p2, p3⟩ := hr.at 0 (by simp [plN])
  simp [plN] at p0 p1 p2 p3
  have C3 := hide (fun w => node_any 1 0 0 0 (p := true) (by decide) w)
  clear hb g0 g1 he hr C2
  go_wp2_with fail
  refine (C3.out _).mono ?_
  rintro _ w6 ⟨rfl, hb⟩
  have G16 := hide (Grow.trans' G1.out (Grow.trans' G15.out hb))
  clear hb
  go_wp2_with fail
  go_ret
  exact ⟨rfl, G16.out⟩

end Go.Proofs.Ytdgmfjaldicmgaa
