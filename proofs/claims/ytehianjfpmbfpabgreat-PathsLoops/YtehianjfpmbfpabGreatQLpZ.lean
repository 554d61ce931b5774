/-
  The graph of one loop that the law PathsLoops builds: what its paths sum up to between its places, and what that makes of a time there.
-/
import Derived.Test.YtehianjfpmbfpabGreatQHdZ
namespace Go.Proofs.YtehianjfpmbfpabGreat
set_option maxRecDepth 100000
open Go.RowKit
set_option linter.unusedVariables false
set_option linter.unusedSimpArgs false

def lpN : List Nd := [⟨1, 0, 0, 0⟩, ⟨8, 0, 0, 1⟩, ⟨4, 0, 0, 1⟩, ⟨10, 6, 0, 1⟩, ⟨9, 0, 0, 0⟩, ⟨11, 0, 0, 0⟩]
def lpE : List Ed := [⟨0, 1, 0⟩, ⟨1, 2, 0⟩, ⟨2, 3, 0⟩, ⟨3, 2, 1⟩, ⟨2, 4, 0⟩, ⟨4, 5, 0⟩]
def lpO : List (Lc × List Sm) := [(⟨2, 0⟩, [⟨1, 1, 1, 0, 0, 0, 0⟩]), (⟨2, -1⟩, [⟨1, 1, 1, 0, 0, 0, 0⟩]), (⟨3, 0⟩, [⟨1, 1, 1, 0, 0, 0, 0⟩]), (⟨3, -1⟩, [⟨1, 1, 1, 0, 1, 0, 0⟩]), (⟨2, 1⟩, [⟨1, 1, 1, 0, 1, 0, 0⟩]), (⟨4, 0⟩, [⟨1, 1, 1, 0, 0, 0, 0⟩]), (⟨4, -1⟩, [⟨1, 0, 0, 0, 0, 0, 0⟩]), (⟨5, 0⟩, [⟨1, 0, 0, 0, 0, 0, 0⟩])]
theorem lp_acc : AccG lpN lpE := errG_zero.1 (by kernel_rfl)
theorem lp_closed : closedB (stepsG lpN lpE) lpO = true := by kernel_rfl
theorem lp_start : coverB kinS (outF lpO ⟨2, 0⟩) (sameS (depP lpN ⟨2, 0⟩)) = true := by decide
theorem lp_in : Way (stepsG lpN lpE) ⟨2, 0⟩ (sameS (depP lpN ⟨2, 0⟩)) ⟨2, -1⟩ ⟨1, 1, 1, 0, 0, 0, 0⟩ :=
  Way.more (S := stepsG lpN lpE) (a := ⟨2, 0⟩) (s0 := sameS (depP lpN ⟨2, 0⟩)) ⟨⟨2, 0⟩, ⟨2, -1⟩, ⟨1, 1, 1, 0, 0, 0, 0⟩⟩ _ .none (List.mem_of_getElem? (i := 5) (by kernel_rfl)) (by kernel_rfl)
theorem lp_feed : Way (stepsG lpN lpE) ⟨2, 0⟩ (sameS (depP lpN ⟨2, 0⟩)) ⟨3, 0⟩ ⟨1, 1, 1, 0, 0, 0, 0⟩ :=
  Way.more (S := stepsG lpN lpE) ⟨⟨2, -1⟩, ⟨3, 0⟩, ⟨1, 1, 1, 0, 0, 0, 0⟩⟩ _ lp_in (List.mem_of_getElem? (i := 3) (by kernel_rfl)) (by kernel_rfl)
theorem lp_fed : Way (stepsG lpN lpE) ⟨2, 0⟩ (sameS (depP lpN ⟨2, 0⟩)) ⟨3, -1⟩ ⟨1, 1, 1, 0, 1, 0, 0⟩ :=
  Way.more (S := stepsG lpN lpE) ⟨⟨3, 0⟩, ⟨3, -1⟩, ⟨1, 1, 1, 0, 1, 0, 0⟩⟩ _ lp_feed (List.mem_of_getElem? (i := 8) (by kernel_rfl)) (by kernel_rfl)
theorem lp_round : Way (stepsG lpN lpE) ⟨2, 0⟩ (sameS (depP lpN ⟨2, 0⟩)) ⟨2, 1⟩ ⟨1, 1, 1, 0, 1, 0, 0⟩ :=
  Way.more (S := stepsG lpN lpE) ⟨⟨3, -1⟩, ⟨2, 1⟩, ⟨1, 1, 1, 0, 0, 0, 0⟩⟩ _ lp_fed (List.mem_of_getElem? (i := 7) (by kernel_rfl)) (by kernel_rfl)
theorem lp_leave : Way (stepsG lpN lpE) ⟨2, 0⟩ (sameS (depP lpN ⟨2, 0⟩)) ⟨4, 0⟩ ⟨1, 1, 1, 0, 0, 0, 0⟩ :=
  Way.more (S := stepsG lpN lpE) ⟨⟨2, -1⟩, ⟨4, 0⟩, ⟨1, 1, 1, 0, 0, 0, 0⟩⟩ _ lp_in (List.mem_of_getElem? (i := 4) (by kernel_rfl)) (by kernel_rfl)
theorem lp_left : Way (stepsG lpN lpE) ⟨2, 0⟩ (sameS (depP lpN ⟨2, 0⟩)) ⟨4, -1⟩ ⟨1, 0, 0, 0, 0, 0, 0⟩ :=
  Way.more (S := stepsG lpN lpE) ⟨⟨4, 0⟩, ⟨4, -1⟩, ⟨1, 0, 0, 0, 0, 0, 0⟩⟩ _ lp_leave (List.mem_of_getElem? (i := 10) (by kernel_rfl)) (by kernel_rfl)
theorem lp_out : Way (stepsG lpN lpE) ⟨2, 0⟩ (sameS (depP lpN ⟨2, 0⟩)) ⟨5, 0⟩ ⟨1, 0, 0, 0, 0, 0, 0⟩ :=
  Way.more (S := stepsG lpN lpE) ⟨⟨4, -1⟩, ⟨5, 0⟩, ⟨0, 0, 0, 0, 0, 0, 0⟩⟩ _ lp_left (List.mem_of_getElem? (i := 9) (by kernel_rfl)) (by kernel_rfl)
theorem lp_sums1 : SumsOf lpN lpE ⟨2, 0⟩ ⟨2, 1⟩ [⟨1, 1, 1, 0, 1, 0, 0⟩] :=
  ⟨fun _ => front_one lp_round fun r hr => closed_out lpO lp_start lp_closed hr, fun h => by revert h; decide⟩
theorem lp_sums2 : SumsOf lpN lpE ⟨2, 0⟩ ⟨5, 0⟩ [⟨1, 0, 0, 0, 0, 0, 0⟩] :=
  ⟨fun _ => front_one lp_out fun r hr => closed_out lpO lp_start lp_closed hr, fun h => by revert h; decide⟩
theorem lp_sums3 : SumsOf lpN lpE ⟨2, 0⟩ ⟨1, 0⟩ [] :=
  ⟨fun _ => front_nil fun r hr => closed_out lpO lp_start lp_closed hr, fun _ => rfl⟩
theorem lp_may3 {e : Int} (h0 : 0 ≤ e) (h1 : e ≤ 524288) : mayB ⟨e, 0, 0, 0, 0⟩ = true := (may_iff' _).2 (by refine ⟨⟨?_, ?_, ?_, ?_⟩, ⟨?_, ?_, ?_⟩, ⟨?_, ?_, ?_⟩, ⟨?_, ?_, ?_⟩⟩ <;> (try dsimp only) <;> omega)
theorem lp_raw1 (e c : Int) : rawT ⟨1, 1, 1, 0, 1, 0, 0⟩ ⟨e, 1, c, 0, 0⟩ = ⟨e, 1, c + 1, 0, 0⟩ := by simp [rawT, compI]
theorem lp_raw2 (e c : Int) : rawT ⟨1, 0, 0, 0, 0, 0, 0⟩ ⟨e, 1, c, 0, 0⟩ = ⟨e, 0, 0, 0, 0⟩ := by simp [rawT, compI]
section
variable {e c : Int} (h0 : 0 ≤ e) (h1 : e ≤ 524288) (h2 : 0 ≤ c) (h3 : c ≤ 500)
include h0 h1 h2 h3
theorem lp_may : mayB ⟨e, 1, c, 0, 0⟩ = true := (may_iff' _).2 (by refine ⟨⟨?_, ?_, ?_, ?_⟩, ⟨?_, ?_, ?_⟩, ⟨?_, ?_, ?_⟩, ⟨?_, ?_, ?_⟩⟩ <;> (try dsimp only) <;> omega)
theorem lp_may2 : mayB ⟨e, 1, c + 1, 0, 0⟩ = true := (may_iff' _).2 (by refine ⟨⟨?_, ?_, ?_, ?_⟩, ⟨?_, ?_, ?_⟩, ⟨?_, ?_, ?_⟩, ⟨?_, ?_, ?_⟩⟩ <;> (try dsimp only) <;> omega)
theorem lp_back : chainO kinT (madeL [⟨1, 1, 1, 0, 1, 0, 0⟩] ⟨e, 1, c, 0, 0⟩) = [⟨e, 1, c + 1, 0, 0⟩] := by
  have hf : fitT ⟨1, 1, 1, 0, 1, 0, 0⟩ ⟨e, 1, c, 0, 0⟩ = true := by
    unfold fitT
    rw [lp_may h0 h1 h2 h3]
    rfl
  have he : applyE ⟨1, 1, 1, 0, 1, 0, 0⟩ ⟨e, 1, c, 0, 0⟩ = 0 := by
    unfold applyE
    rw [if_pos hf, if_pos (by rw [lp_raw1]; exact lp_may2 h0 h1 h2 h3)]
  have e1 : madeL [⟨1, 1, 1, 0, 1, 0, 0⟩] ⟨e, 1, c, 0, 0⟩ = [⟨e, 1, c + 1, 0, 0⟩] := by
    unfold madeL applyT
    simp only [List.filter_cons, List.filter_nil, he, decide_true, if_true, List.map_cons, List.map_nil, lp_raw1]
  rw [e1]
  exact chain_one kinT (lp_may2 h0 h1 h2 h3)
theorem lp_gone : chainO kinT (madeL [⟨1, 0, 0, 0, 0, 0, 0⟩] ⟨e, 1, c, 0, 0⟩) = [⟨e, 0, 0, 0, 0⟩] := by
  have hf : fitT ⟨1, 0, 0, 0, 0, 0, 0⟩ ⟨e, 1, c, 0, 0⟩ = true := by
    unfold fitT
    rw [lp_may h0 h1 h2 h3]
    rfl
  have he : applyE ⟨1, 0, 0, 0, 0, 0, 0⟩ ⟨e, 1, c, 0, 0⟩ = 0 := by
    unfold applyE
    rw [if_pos hf, if_pos (by rw [lp_raw2]; exact lp_may3 h0 h1)]
  have e1 : madeL [⟨1, 0, 0, 0, 0, 0, 0⟩] ⟨e, 1, c, 0, 0⟩ = [⟨e, 0, 0, 0, 0⟩] := by
    unfold madeL applyT
    simp only [List.filter_cons, List.filter_nil, he, decide_true, if_true, List.map_cons, List.map_nil, lp_raw2]
  rw [e1]
  exact chain_one kinT (lp_may3 h0 h1)
end

/-- A time stored into a block of the call's own, and its first counter after that. -/
theorem BlkT.frozen {w : World} {b : Nat} (h : BlkT w b) (j : Nat) : w.frozen? ⟨b, j, none⟩ = false := by
  obtain ⟨cs, h, k⟩ := h
  exact frozen_of_row w b j cs _ h
theorem BlkT.lt {w : World} {b : Nat} (h : BlkT w b) : b < w.heap.size := by
  obtain ⟨cs, h, k⟩ := h
  exact (Array.getElem?_eq_some_iff.1 h).1
theorem wpList_putT2 {ops : Array Oper} {rest : List Oper} {o : Oper} {a : Act} {w : World} {Q : Exit → Act → World → Prop} (hgd : o.guard = none) (x y : Operand) (ho : o.op = .store 44 x y) (b : Nat) (t : Tm)
    (hx : a.eval x = .pointer (some ⟨b, 0, none⟩)) (hy : a.eval y = .agg #[.int .i64 t.e, .int .i64 t.d, .int .i64 t.x, .int .i64 t.y, .int .i64 t.z]) (hb : BlkT w b) (W : World) (hg : Grow W w) (hW : W.heap.size ≤ b) (h : ∀ w2, Grow W w2 → Box w2 b t → BlkT w2 b → wpList Tryz.prog ops Q rest (a.put o.dst undef) w2) : wpList Tryz.prog ops Q (o :: rest) a w := by
  obtain ⟨cs, hb1, hs⟩ := hb
  refine wpList_store_row hgd 44 x y ho b _ hx hy _ _ hb1 (by kernel_rfl) (by rw [hs]; rfl) (by simp [Value.oneCell']) (h _ (below_setRow hg hW _) ?_ ⟨_, setRow_heap w b cs _ _ _ hb1, rfl⟩)
  exact ⟨by rw [cell_setRow_same w b 0 _ _ _ _ hb1]; rfl, by rw [cell_setRow_same w b 1 _ _ _ _ hb1]; rfl, by rw [cell_setRow_same w b 2 _ _ _ _ hb1]; rfl, by rw [cell_setRow_same w b 3 _ _ _ _ hb1]; rfl, by rw [cell_setRow_same w b 4 _ _ _ _ hb1]; rfl⟩
theorem wpList_setX {ops : Array Oper} {rest : List Oper} {o : Oper} {a : Act} {w : World} {Q : Exit → Act → World → Prop} (hgd : o.guard = none) (x y : Operand) (ho : o.op = .store 3 x y) (b : Nat) (t : Tm) (v : Int)
    (hx : a.eval x = .pointer (some ⟨b, 2, none⟩)) (hy : a.eval y = .int .i64 v) (hb : BlkT w b) (hG : Box w b t) (W : World) (hg : Grow W w) (hW : W.heap.size ≤ b)
    (h : ∀ w2, Grow W w2 → Box w2 b ⟨t.e, t.d, v, t.y, t.z⟩ → wpList Tryz.prog ops Q rest (a.put o.dst undef) w2) : wpList Tryz.prog ops Q (o :: rest) a w := by
  have hf := hb.frozen 2
  have hl := hb.lt
  obtain ⟨h0, h1, h2, h3, h4⟩ := hG
  have hK : Box (w.setCell ⟨b, 2, none⟩ (.int .i64 v)) b ⟨t.e, t.d, v, t.y, t.z⟩ := by
    refine ⟨?_, ?_, ?_, ?_, ?_⟩ <;> simp [go_sem, h0, h1, h2, h3, h4]
  have hgr : Grow W (w.setCell ⟨b, 2, none⟩ (.int .i64 v)) := hg.setCell hW _
  refine wpList_plain hgd fun K hK' => ?_
  have hk2 := hK' _ _ (h _ hgr hK)
  clear hK' h hK hgr
  unfold Oper.wp
  simp only [execOp, ho]
  generalize a.eval = ev at hx hy ⊢
  simp [hx, hy, go_sem, h2, hf, Result.andThen]
  exact hk2

end Go.Proofs.YtehianjfpmbfpabGreat
