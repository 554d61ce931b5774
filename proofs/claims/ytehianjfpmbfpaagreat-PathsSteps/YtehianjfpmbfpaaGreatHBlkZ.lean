import Derived.Test.YtehianjfpmbfpaaGreatEq
import Derived.Test.YtehianjfpmbfpaaGreatSBase
import Derived.Test.YtehianjfpmbfpaaGreatHPlZ
import Derived.Test.YtehianjfpmbfpaaGreatQMpZ
import Derived.Test.YtehianjfpmbfpaaGreatSNdZ
import Derived.Laws.Tables
import Derived.Laws.AppendOwn
import Derived.Laws.CopyOwn
section
/-
  What Go's == says of two summaries: for every two, whether all seven numbers are the same.
-/
namespace Go.Proofs.YtehianjfpmbfpaaGreat
open Go.RowKit
attribute [local go_sem ↓] eqArr

set_option maxHeartbeats 1000000 in
theorem eqSm (a b : Sm) (w : World) : (Op.equalIn 10000 68 (.agg #[.int .i64 a.f, .int .i64 a.t, .int .i64 a.k, .int .i64 a.ep, .int .i64 a.x, .int .i64 a.y, .int .i64 a.z]) (.agg #[.int .i64 b.f, .int .i64 b.t, .int .i64 b.k, .int .i64 b.ep, .int .i64 b.x, .int .i64 b.y, .int .i64 b.z])).run Tryz.prog w = .ok (eqS a b) w := by
  have u3 := Tryz.underlying3
  have a3 := Tryz.isAgg3
  have z3 := Tryz.sizeOf3
  have a23 := Tryz.isAgg41
  have z23 := Tryz.sizeOf41
  have hS : Tryz.prog.underlying 68 = some (.struct (Tryz.prog.fieldsOf 68)) := by kernel_rfl
  rw [show (10000 : Nat) = 9999 + 1 from rfl, run_equalIn_agg w 9999 68 _ _ hS (by kernel_rfl)]
  simp only [Program.fieldsOf, Tryz.underlying68]
  go_simp
  unfold eqS
  by_cases h1 : a.f = b.f
  rotate_left
  · simp [h1]
  by_cases h2 : a.t = b.t
  rotate_left
  · simp [h1, h2]
  by_cases h3 : a.k = b.k
  rotate_left
  · simp [h1, h2, h3]
  by_cases h4 : a.ep = b.ep
  rotate_left
  · simp [h1, h2, h3, h4]
  by_cases h5 : a.x = b.x <;> by_cases h6 : a.y = b.y <;> by_cases h7 : a.z = b.z <;> simp [h1, h2, h3, h4, h5, h6, h7]

end Go.Proofs.YtehianjfpmbfpaaGreat
end

section
/-
  What graph's small functions, and the document's own, do to the world: Ins, HasOut, InDepth, Inner, Order, and cmp.Compare: each returns its plain answer, and what was there stays as it was; what Go's == says of two places.
-/
namespace Go.Proofs.YtehianjfpmbfpaaGreat
set_option maxRecDepth 100000
open Go.RowKit
set_option linter.unusedVariables false
set_option linter.unusedSimpArgs false

theorem ins_at (k : Int) {z : Int} (hz : insP k = z) (w : World) :
    Calls Tryz.prog 79 #[.int .i64 k] w fun e w' => e = .returned (.int .i64 z) ∧ w' = w := by
  subst hz
  have hc : k = 4 ∨ (¬ k = 4 ∧ 2 ≤ k ∧ k ≤ 11) ∨ (¬ k = 4 ∧ 2 ≤ k ∧ ¬ k ≤ 11) ∨ (¬ k = 4 ∧ ¬ 2 ≤ k) := by omega
  rcases hc with h1 | ⟨h1, h2, h3⟩ | ⟨h1, h2, h3⟩ | ⟨h1, h2⟩
  all_goals
    go_enter Tryz.func79, Tryz.ntmps79
    go_wp2
  all_goals go_ret
  all_goals exact ⟨ret_int (by simp [insP, *]; try omega), rfl⟩
theorem rins_at (k : Int) {z : Int} (hz : insP k = z) (w : World) :
    Calls Tryz.prog 63 #[.int .i64 k] w fun e w' => e = .returned (.int .i64 z) ∧ w' = w := by
  subst hz
  have hc : k = 4 ∨ (¬ k = 4 ∧ 2 ≤ k ∧ k ≤ 11) ∨ (¬ k = 4 ∧ 2 ≤ k ∧ ¬ k ≤ 11) ∨ (¬ k = 4 ∧ ¬ 2 ≤ k) := by omega
  rcases hc with h1 | ⟨h1, h2, h3⟩ | ⟨h1, h2, h3⟩ | ⟨h1, h2⟩
  all_goals
    go_enter Tryz.func63, Tryz.ntmps63
    go_wp2
  all_goals go_ret
  all_goals exact ⟨ret_int (by simp [insP, *]; try omega), rfl⟩
theorem has_at (k : Int) {q : Bool} (hz : hasP k = q) (w : World) :
    Calls Tryz.prog 78 #[.int .i64 k] w fun e w' => e = .returned (.bool q) ∧ w' = w := by
  subst hz
  by_cases h1 : 1 ≤ k <;> by_cases h2 : k ≤ 10
  all_goals
    go_enter Tryz.func78, Tryz.ntmps78
    go_wp2
  all_goals go_ret
  all_goals exact ⟨ret_bool (by simp [hasP, *]), rfl⟩
theorem rhas_at (k : Int) {q : Bool} (hz : hasP k = q) (w : World) :
    Calls Tryz.prog 27 #[.int .i64 k] w fun e w' => e = .returned (.bool q) ∧ w' = w := by
  subst hz
  by_cases h1 : 1 ≤ k <;> by_cases h2 : k ≤ 10
  all_goals
    go_enter Tryz.func27, Tryz.ntmps27
    go_wp2
  all_goals go_ret
  all_goals exact ⟨ret_bool (by simp [hasP, *]), rfl⟩
theorem inD_at (k a b d : Int) {z : Int} (hz : inDP ⟨k, a, b, d⟩ = z) (w : World) :
    Calls Tryz.prog 62 #[.agg #[.int .i64 k, .int .i64 a, .int .i64 b, .int .i64 d]] w fun e w' => e = .returned (.int .i64 z) ∧ Grow w w' := by
  subst hz
  have hc : k = 8 ∨ (¬ k = 8 ∧ k = 9) ∨ (¬ k = 8 ∧ ¬ k = 9) := by omega
  rcases hc with h1 | ⟨h1, h2⟩ | ⟨h1, h2⟩
  all_goals
    go_enter Tryz.func62, Tryz.ntmps62
    go_wp2
  all_goals go_ret
  all_goals exact ⟨ret_int (by simp [inDP, *]), Grow.alloc' _ _⟩
theorem rinD_at (k a b d : Int) {z : Int} (hz : inDP ⟨k, a, b, d⟩ = z) (w : World) :
    Calls Tryz.prog 42 #[.agg #[.int .i64 k, .int .i64 a, .int .i64 b, .int .i64 d]] w fun e w' => e = .returned (.int .i64 z) ∧ Grow w w' := by
  subst hz
  have hc : k = 8 ∨ (¬ k = 8 ∧ k = 9) ∨ (¬ k = 8 ∧ ¬ k = 9) := by omega
  rcases hc with h1 | ⟨h1, h2⟩ | ⟨h1, h2⟩
  all_goals
    go_enter Tryz.func42, Tryz.ntmps42
    go_wp2
  all_goals go_ret
  all_goals exact ⟨ret_int (by simp [inDP, *]), Grow.alloc' _ _⟩
theorem eqLc (a b c d : Int) (w : World) : (Op.equalIn 10000 27 (.agg #[.int .i64 a, .int .i64 b]) (.agg #[.int .i64 c, .int .i64 d])).run Tryz.prog w = .ok (eqL ⟨a, b⟩ ⟨c, d⟩) w := by
  have u3 := Tryz.underlying3
  have a3 := Tryz.isAgg3
  have z3 := Tryz.sizeOf3
  have hS : Tryz.prog.underlying 27 = some (.struct (Tryz.prog.fieldsOf 27)) := by kernel_rfl
  rw [show (10000 : Nat) = 9999 + 1 from rfl, run_equalIn_agg w 9999 27 _ _ hS (by kernel_rfl)]
  simp only [Program.fieldsOf, Tryz.underlying27]
  go_simp
  unfold eqL
  by_cases h1 : a = c <;> by_cases h2 : b = d <;> simp [h1, h2]
attribute [local go_sem ↓] eqLc

end Go.Proofs.YtehianjfpmbfpaaGreat
end

section
/-
  Blocks that a call has made for a struct of numbers: a whole struct stored into one, and read from it.
-/
namespace Go.Proofs.YtehianjfpmbfpaaGreat
set_option maxRecDepth 100000
open Go.RowKit
set_option linter.unusedVariables false
set_option linter.unusedSimpArgs false

/-- A summary lies in a block. -/
def BoxS (w : World) (b : Nat) (t : Sm) : Prop := w.cell? ⟨b, 0, none⟩ = some (.int .i64 t.f) ∧ w.cell? ⟨b, 1, none⟩ = some (.int .i64 t.t) ∧ w.cell? ⟨b, 2, none⟩ = some (.int .i64 t.k) ∧ w.cell? ⟨b, 3, none⟩ = some (.int .i64 t.ep) ∧ w.cell? ⟨b, 4, none⟩ = some (.int .i64 t.x) ∧ w.cell? ⟨b, 5, none⟩ = some (.int .i64 t.y) ∧ w.cell? ⟨b, 6, none⟩ = some (.int .i64 t.z)
theorem BoxS.later {w w' : World} {b : Nat} {t : Sm} (hg : Grow w w') (h : BoxS w b t) : BoxS w' b t := by
  obtain ⟨h0, h1, h2, h3, h4, h5, h6⟩ := h
  exact ⟨cell_later hg h0, cell_later hg h1, cell_later hg h2, cell_later hg h3, cell_later hg h4, cell_later hg h5, cell_later hg h6⟩
/-- A block of the call's own, for one of these. -/
def BlkS (w : World) (b : Nat) : Prop := ∃ cs, w.heap[b]? = some (.cells cs 68 (0, 0)) ∧ cs.size = 7
theorem BlkS.later {w w' : World} {b : Nat} (hg : Grow w w') (h : BlkS w b) : BlkS w' b := by
  obtain ⟨cs, h, k⟩ := h
  exact ⟨cs, (hg.block b (Array.getElem?_eq_some_iff.1 h).1).trans h, k⟩
theorem BlkS.lt {w : World} {b : Nat} (h : BlkS w b) : b < w.heap.size := by
  obtain ⟨cs, h, k⟩ := h
  exact (Array.getElem?_eq_some_iff.1 h).1
theorem BlkS.new (w : World) : BlkS (w.alloc (.cells #[.int .i64 0, .int .i64 0, .int .i64 0, .int .i64 0, .int .i64 0, .int .i64 0, .int .i64 0] 68)) w.heap.size := ⟨_, (MapKept.heap_alloc w _).1, rfl⟩
theorem BlkS.box {w : World} {b : Nat} (h : BlkS w b) (t : Sm) : BoxS (w.setRow b #[.int .i64 t.f, .int .i64 t.t, .int .i64 t.k, .int .i64 t.ep, .int .i64 t.x, .int .i64 t.y, .int .i64 t.z]) b t := by
  obtain ⟨cs, h, _⟩ := h
  exact ⟨by rw [cell_setRow_same w b 0 _ _ _ _ h]; rfl, by rw [cell_setRow_same w b 1 _ _ _ _ h]; rfl, by rw [cell_setRow_same w b 2 _ _ _ _ h]; rfl, by rw [cell_setRow_same w b 3 _ _ _ _ h]; rfl, by rw [cell_setRow_same w b 4 _ _ _ _ h]; rfl, by rw [cell_setRow_same w b 5 _ _ _ _ h]; rfl, by rw [cell_setRow_same w b 6 _ _ _ _ h]; rfl⟩
theorem wpList_storeS {ops : Array Oper} {rest : List Oper} {o : Oper} {a : Act} {w : World} {Q : Exit → Act → World → Prop} (hgd : o.guard = none) (x y : Operand) (ho : o.op = .store 68 x y) (b : Nat) (t : Sm)
    (hx : a.eval x = .pointer (some ⟨b, 0, none⟩)) (hy : a.eval y = .agg #[.int .i64 t.f, .int .i64 t.t, .int .i64 t.k, .int .i64 t.ep, .int .i64 t.x, .int .i64 t.y, .int .i64 t.z]) (hb : BlkS w b) (h : wpList Tryz.prog ops Q rest (a.put o.dst undef) (w.setRow b #[.int .i64 t.f, .int .i64 t.t, .int .i64 t.k, .int .i64 t.ep, .int .i64 t.x, .int .i64 t.y, .int .i64 t.z])) : wpList Tryz.prog ops Q (o :: rest) a w := by
  obtain ⟨cs, hb, hs⟩ := hb
  exact wpList_store_row hgd 68 x y ho b _ hx hy _ _ hb (by kernel_rfl) (by rw [hs]; rfl) (by simp [Value.oneCell']) h
theorem wpList_putS {ops : Array Oper} {rest : List Oper} {o : Oper} {a : Act} {w : World} {Q : Exit → Act → World → Prop} (hgd : o.guard = none) (x y : Operand) (ho : o.op = .store 68 x y) (b : Nat) (t : Sm)
    (hx : a.eval x = .pointer (some ⟨b, 0, none⟩)) (hy : a.eval y = .agg #[.int .i64 t.f, .int .i64 t.t, .int .i64 t.k, .int .i64 t.ep, .int .i64 t.x, .int .i64 t.y, .int .i64 t.z]) (hb : BlkS w b) (W : World) (hg : Grow W w) (hW : W.heap.size ≤ b) (h : ∀ w2, Grow W w2 → BoxS w2 b t → wpList Tryz.prog ops Q rest (a.put o.dst undef) w2) : wpList Tryz.prog ops Q (o :: rest) a w :=
  wpList_storeS hgd x y ho b t hx hy hb (h _ (below_setRow hg hW _) (hb.box t))
theorem resultsS {fn : Func} {i : Nat} (h : fn.results = #[.cell i 68]) (tmps : Array Value) (w : World) {b : Nat} {t : Sm} (ht : tmps.getD i undef = .pointer (some ⟨b, 0, none⟩)) (hb : BoxS w b t) :
    (results fn tmps).run Tryz.prog w = .ok (.agg #[.int .i64 t.f, .int .i64 t.t, .int .i64 t.k, .int .i64 t.ep, .int .i64 t.x, .int .i64 t.y, .int .i64 t.z]) w := by
  obtain ⟨h0, h1, h2, h3, h4, h5, h6⟩ := hb
  simp only [Array.getD_eq_getD_getElem?] at ht
  simp [results, h, ht, go_sem, h0, h1, h2, h3, h4, h5, h6]
/-- A block of the call's own, for one of these. -/
def BlkL (w : World) (b : Nat) : Prop := ∃ cs, w.heap[b]? = some (.cells cs 27 (0, 0)) ∧ cs.size = 2
theorem BlkL.later {w w' : World} {b : Nat} (hg : Grow w w') (h : BlkL w b) : BlkL w' b := by
  obtain ⟨cs, h, k⟩ := h
  exact ⟨cs, (hg.block b (Array.getElem?_eq_some_iff.1 h).1).trans h, k⟩
theorem BlkL.lt {w : World} {b : Nat} (h : BlkL w b) : b < w.heap.size := by
  obtain ⟨cs, h, k⟩ := h
  exact (Array.getElem?_eq_some_iff.1 h).1
theorem BlkL.new (w : World) : BlkL (w.alloc (.cells #[.int .i64 0, .int .i64 0] 27)) w.heap.size := ⟨_, (MapKept.heap_alloc w _).1, rfl⟩
theorem BlkL.box {w : World} {b : Nat} (h : BlkL w b) (t : Lc) : BoxL (w.setRow b #[.int .i64 t.n, .int .i64 t.p]) b t := by
  obtain ⟨cs, h, _⟩ := h
  exact ⟨by rw [cell_setRow_same w b 0 _ _ _ _ h]; rfl, by rw [cell_setRow_same w b 1 _ _ _ _ h]; rfl⟩
theorem wpList_storeL {ops : Array Oper} {rest : List Oper} {o : Oper} {a : Act} {w : World} {Q : Exit → Act → World → Prop} (hgd : o.guard = none) (x y : Operand) (ho : o.op = .store 27 x y) (b : Nat) (t : Lc)
    (hx : a.eval x = .pointer (some ⟨b, 0, none⟩)) (hy : a.eval y = .agg #[.int .i64 t.n, .int .i64 t.p]) (hb : BlkL w b) (h : wpList Tryz.prog ops Q rest (a.put o.dst undef) (w.setRow b #[.int .i64 t.n, .int .i64 t.p])) : wpList Tryz.prog ops Q (o :: rest) a w := by
  obtain ⟨cs, hb, hs⟩ := hb
  exact wpList_store_row hgd 27 x y ho b _ hx hy _ _ hb (by kernel_rfl) (by rw [hs]; rfl) (by simp [Value.oneCell']) h
theorem wpList_putL {ops : Array Oper} {rest : List Oper} {o : Oper} {a : Act} {w : World} {Q : Exit → Act → World → Prop} (hgd : o.guard = none) (x y : Operand) (ho : o.op = .store 27 x y) (b : Nat) (t : Lc)
    (hx : a.eval x = .pointer (some ⟨b, 0, none⟩)) (hy : a.eval y = .agg #[.int .i64 t.n, .int .i64 t.p]) (hb : BlkL w b) (W : World) (hg : Grow W w) (hW : W.heap.size ≤ b) (h : ∀ w2, Grow W w2 → BoxL w2 b t → wpList Tryz.prog ops Q rest (a.put o.dst undef) w2) : wpList Tryz.prog ops Q (o :: rest) a w :=
  wpList_storeL hgd x y ho b t hx hy hb (h _ (below_setRow hg hW _) (hb.box t))
theorem resultsL {fn : Func} {i : Nat} (h : fn.results = #[.cell i 27]) (tmps : Array Value) (w : World) {b : Nat} {t : Lc} (ht : tmps.getD i undef = .pointer (some ⟨b, 0, none⟩)) (hb : BoxL w b t) :
    (results fn tmps).run Tryz.prog w = .ok (.agg #[.int .i64 t.n, .int .i64 t.p]) w := by
  obtain ⟨h0, h1⟩ := hb
  simp only [Array.getD_eq_getD_getElem?] at ht
  simp [results, h, ht, go_sem, h0, h1]
/-- A block of the call's own, for one of these. -/
def BlkN (w : World) (b : Nat) : Prop := ∃ cs, w.heap[b]? = some (.cells cs 63 (0, 0)) ∧ cs.size = 4
theorem BlkN.later {w w' : World} {b : Nat} (hg : Grow w w') (h : BlkN w b) : BlkN w' b := by
  obtain ⟨cs, h, k⟩ := h
  exact ⟨cs, (hg.block b (Array.getElem?_eq_some_iff.1 h).1).trans h, k⟩
theorem BlkN.lt {w : World} {b : Nat} (h : BlkN w b) : b < w.heap.size := by
  obtain ⟨cs, h, k⟩ := h
  exact (Array.getElem?_eq_some_iff.1 h).1
theorem BlkN.new (w : World) : BlkN (w.alloc (.cells #[.int .i64 0, .int .i64 0, .int .i64 0, .int .i64 0] 63)) w.heap.size := ⟨_, (MapKept.heap_alloc w _).1, rfl⟩
theorem BlkN.box {w : World} {b : Nat} (h : BlkN w b) (t : Nd) : BoxN (w.setRow b #[.int .i64 t.k, .int .i64 t.a, .int .i64 t.b, .int .i64 t.d]) b t := by
  obtain ⟨cs, h, _⟩ := h
  exact ⟨by rw [cell_setRow_same w b 0 _ _ _ _ h]; rfl, by rw [cell_setRow_same w b 1 _ _ _ _ h]; rfl, by rw [cell_setRow_same w b 2 _ _ _ _ h]; rfl, by rw [cell_setRow_same w b 3 _ _ _ _ h]; rfl⟩
theorem wpList_storeN {ops : Array Oper} {rest : List Oper} {o : Oper} {a : Act} {w : World} {Q : Exit → Act → World → Prop} (hgd : o.guard = none) (x y : Operand) (ho : o.op = .store 63 x y) (b : Nat) (t : Nd)
    (hx : a.eval x = .pointer (some ⟨b, 0, none⟩)) (hy : a.eval y = .agg #[.int .i64 t.k, .int .i64 t.a, .int .i64 t.b, .int .i64 t.d]) (hb : BlkN w b) (h : wpList Tryz.prog ops Q rest (a.put o.dst undef) (w.setRow b #[.int .i64 t.k, .int .i64 t.a, .int .i64 t.b, .int .i64 t.d])) : wpList Tryz.prog ops Q (o :: rest) a w := by
  obtain ⟨cs, hb, hs⟩ := hb
  exact wpList_store_row hgd 63 x y ho b _ hx hy _ _ hb (by kernel_rfl) (by rw [hs]; rfl) (by simp [Value.oneCell']) h
theorem wpList_putN {ops : Array Oper} {rest : List Oper} {o : Oper} {a : Act} {w : World} {Q : Exit → Act → World → Prop} (hgd : o.guard = none) (x y : Operand) (ho : o.op = .store 63 x y) (b : Nat) (t : Nd)
    (hx : a.eval x = .pointer (some ⟨b, 0, none⟩)) (hy : a.eval y = .agg #[.int .i64 t.k, .int .i64 t.a, .int .i64 t.b, .int .i64 t.d]) (hb : BlkN w b) (W : World) (hg : Grow W w) (hW : W.heap.size ≤ b) (h : ∀ w2, Grow W w2 → BoxN w2 b t → wpList Tryz.prog ops Q rest (a.put o.dst undef) w2) : wpList Tryz.prog ops Q (o :: rest) a w :=
  wpList_storeN hgd x y ho b t hx hy hb (h _ (below_setRow hg hW _) (hb.box t))
theorem resultsN {fn : Func} {i : Nat} (h : fn.results = #[.cell i 63]) (tmps : Array Value) (w : World) {b : Nat} {t : Nd} (ht : tmps.getD i undef = .pointer (some ⟨b, 0, none⟩)) (hb : BoxN w b t) :
    (results fn tmps).run Tryz.prog w = .ok (.agg #[.int .i64 t.k, .int .i64 t.a, .int .i64 t.b, .int .i64 t.d]) w := by
  obtain ⟨h0, h1, h2, h3⟩ := hb
  simp only [Array.getD_eq_getD_getElem?] at ht
  simp [results, h, ht, go_sem, h0, h1, h2, h3]
/-- A block of the call's own, for one of these. -/
def BlkE (w : World) (b : Nat) : Prop := ∃ cs, w.heap[b]? = some (.cells cs 61 (0, 0)) ∧ cs.size = 3
theorem BlkE.later {w w' : World} {b : Nat} (hg : Grow w w') (h : BlkE w b) : BlkE w' b := by
  obtain ⟨cs, h, k⟩ := h
  exact ⟨cs, (hg.block b (Array.getElem?_eq_some_iff.1 h).1).trans h, k⟩
theorem BlkE.lt {w : World} {b : Nat} (h : BlkE w b) : b < w.heap.size := by
  obtain ⟨cs, h, k⟩ := h
  exact (Array.getElem?_eq_some_iff.1 h).1
theorem BlkE.new (w : World) : BlkE (w.alloc (.cells #[.int .i64 0, .int .i64 0, .int .i64 0] 61)) w.heap.size := ⟨_, (MapKept.heap_alloc w _).1, rfl⟩
theorem BlkE.box {w : World} {b : Nat} (h : BlkE w b) (t : Ed) : BoxE (w.setRow b #[.int .i64 t.f, .int .i64 t.t, .int .i64 t.p]) b t := by
  obtain ⟨cs, h, _⟩ := h
  exact ⟨by rw [cell_setRow_same w b 0 _ _ _ _ h]; rfl, by rw [cell_setRow_same w b 1 _ _ _ _ h]; rfl, by rw [cell_setRow_same w b 2 _ _ _ _ h]; rfl⟩
theorem wpList_storeE {ops : Array Oper} {rest : List Oper} {o : Oper} {a : Act} {w : World} {Q : Exit → Act → World → Prop} (hgd : o.guard = none) (x y : Operand) (ho : o.op = .store 61 x y) (b : Nat) (t : Ed)
    (hx : a.eval x = .pointer (some ⟨b, 0, none⟩)) (hy : a.eval y = .agg #[.int .i64 t.f, .int .i64 t.t, .int .i64 t.p]) (hb : BlkE w b) (h : wpList Tryz.prog ops Q rest (a.put o.dst undef) (w.setRow b #[.int .i64 t.f, .int .i64 t.t, .int .i64 t.p])) : wpList Tryz.prog ops Q (o :: rest) a w := by
  obtain ⟨cs, hb, hs⟩ := hb
  exact wpList_store_row hgd 61 x y ho b _ hx hy _ _ hb (by kernel_rfl) (by rw [hs]; rfl) (by simp [Value.oneCell']) h
theorem wpList_putE {ops : Array Oper} {rest : List Oper} {o : Oper} {a : Act} {w : World} {Q : Exit → Act → World → Prop} (hgd : o.guard = none) (x y : Operand) (ho : o.op = .store 61 x y) (b : Nat) (t : Ed)
    (hx : a.eval x = .pointer (some ⟨b, 0, none⟩)) (hy : a.eval y = .agg #[.int .i64 t.f, .int .i64 t.t, .int .i64 t.p]) (hb : BlkE w b) (W : World) (hg : Grow W w) (hW : W.heap.size ≤ b) (h : ∀ w2, Grow W w2 → BoxE w2 b t → wpList Tryz.prog ops Q rest (a.put o.dst undef) w2) : wpList Tryz.prog ops Q (o :: rest) a w :=
  wpList_storeE hgd x y ho b t hx hy hb (h _ (below_setRow hg hW _) (hb.box t))
theorem resultsE {fn : Func} {i : Nat} (h : fn.results = #[.cell i 61]) (tmps : Array Value) (w : World) {b : Nat} {t : Ed} (ht : tmps.getD i undef = .pointer (some ⟨b, 0, none⟩)) (hb : BoxE w b t) :
    (results fn tmps).run Tryz.prog w = .ok (.agg #[.int .i64 t.f, .int .i64 t.t, .int .i64 t.p]) w := by
  obtain ⟨h0, h1, h2⟩ := hb
  simp only [Array.getD_eq_getD_getElem?] at ht
  simp [results, h, ht, go_sem, h0, h1, h2]
theorem grow_setRow {W w : World} {b : Nat} (hg : Grow W w) (hb : W.heap.size ≤ b) (cs : Array Value) : Grow W (w.setRow b cs) := below_setRow hg hb cs

theorem GrewBut.cell' {w w2 : World} {base : Nat} {s : Option Addr} (h : GrewBut w w2 base s) {b o : Nat} {v : Value} (hb : w.cell? ⟨b, o, none⟩ = some v) (hs : ∀ a, s = some a → a.block < b) : w2.cell? ⟨b, o, none⟩ = some v := by
  refine h.grown.cell hb ?_
  cases s with
  | none => simp
  | some a =>
    intro e
    have := hs a rfl
    simp at e
    omega
theorem BoxS.but {w w2 : World} {base b : Nat} {s : Option Addr} {t} (hB : BoxS w b t) (h : GrewBut w w2 base s) (hs : ∀ a, s = some a → a.block < b) : BoxS w2 b t := by
  obtain ⟨h0, h1, h2, h3, h4, h5, h6⟩ := hB
  exact ⟨h.cell' h0 hs, h.cell' h1 hs, h.cell' h2 hs, h.cell' h3 hs, h.cell' h4 hs, h.cell' h5 hs, h.cell' h6 hs⟩
theorem BoxL.but {w w2 : World} {base b : Nat} {s : Option Addr} {t} (hB : BoxL w b t) (h : GrewBut w w2 base s) (hs : ∀ a, s = some a → a.block < b) : BoxL w2 b t := by
  obtain ⟨h0, h1⟩ := hB
  exact ⟨h.cell' h0 hs, h.cell' h1 hs⟩
theorem BoxN.but {w w2 : World} {base b : Nat} {s : Option Addr} {t} (hB : BoxN w b t) (h : GrewBut w w2 base s) (hs : ∀ a, s = some a → a.block < b) : BoxN w2 b t := by
  obtain ⟨h0, h1, h2, h3⟩ := hB
  exact ⟨h.cell' h0 hs, h.cell' h1 hs, h.cell' h2 hs, h.cell' h3 hs⟩
theorem BoxE.but {w w2 : World} {base b : Nat} {s : Option Addr} {t} (hB : BoxE w b t) (h : GrewBut w w2 base s) (hs : ∀ a, s = some a → a.block < b) : BoxE w2 b t := by
  obtain ⟨h0, h1, h2⟩ := hB
  exact ⟨h.cell' h0 hs, h.cell' h1 hs, h.cell' h2 hs⟩
theorem BoxG.but {w w2 : World} {base b : Nat} {s : Option Addr} {t} (hB : BoxG w b t) (h : GrewBut w w2 base s) (hs : ∀ a, s = some a → a.block < b) : BoxG w2 b t := by
  obtain ⟨h0, h1⟩ := hB
  exact ⟨h.cell' h0 hs, h.cell' h1 hs⟩

/-- A block of the call's own, for a graph. -/
def BlkG (w : World) (b : Nat) : Prop := ∃ cs, w.heap[b]? = some (.cells cs 25 (0, 0)) ∧ cs.size = 2
theorem BlkG.later {w w' : World} {b : Nat} (hg : Grow w w') (h : BlkG w b) : BlkG w' b := by
  obtain ⟨cs, h, k⟩ := h
  exact ⟨cs, (hg.block b (Array.getElem?_eq_some_iff.1 h).1).trans h, k⟩
theorem BlkG.new (w : World) (x y : Value) : BlkG (w.alloc (.cells #[x, y] 25)) w.heap.size := ⟨_, (MapKept.heap_alloc w _).1, rfl⟩
theorem BlkG.box {w : World} {b : Nat} (h : BlkG w b) (g : GA) : BoxG (w.setRow b #[.slice g.s g.n g.c, .slice g.t g.m g.q]) b g := by
  obtain ⟨cs, h, _⟩ := h
  exact ⟨by rw [cell_setRow_same w b 0 _ _ _ _ h]; rfl, by rw [cell_setRow_same w b 1 _ _ _ _ h]; rfl⟩
theorem wpList_putG {ops : Array Oper} {rest : List Oper} {o : Oper} {a : Act} {w : World} {Q : Exit → Act → World → Prop} (hgd : o.guard = none) (x y : Operand) (ho : o.op = .store 25 x y) (b : Nat) (g : GA)
    (hx : a.eval x = .pointer (some ⟨b, 0, none⟩)) (hy : a.eval y = .agg #[.slice g.s g.n g.c, .slice g.t g.m g.q]) (hb : BlkG w b) (W : World) (hg : Grow W w) (hW : W.heap.size ≤ b) (h : ∀ w2, Grow W w2 → BoxG w2 b g → (∀ x : Addr, x.block ≠ b → w2.cell? x = w.cell? x) → w2.heap.size = w.heap.size → wpList Tryz.prog ops Q rest (a.put o.dst undef) w2) : wpList Tryz.prog ops Q (o :: rest) a w := by
  have hb' := hb
  obtain ⟨cs, hb1, hs⟩ := hb
  exact wpList_store_row hgd 25 x y ho b _ hx hy _ _ hb1 (by kernel_rfl) (by rw [hs]; rfl) (by simp [Value.oneCell']) (h _ (below_setRow hg hW _) (hb'.box g) (fun x hx => cell_setRow_other w b _ x hx) (by simp [World.setRow]))
theorem resultsG {fn : Func} {i : Nat} (h : fn.results = #[.cell i 25]) (tmps : Array Value) (w : World) {b : Nat} {g : GA} (ht : tmps.getD i undef = .pointer (some ⟨b, 0, none⟩)) (hb : BoxG w b g) :
    (results fn tmps).run Tryz.prog w = .ok (.agg #[.slice g.s g.n g.c, .slice g.t g.m g.q]) w := by
  obtain ⟨h0, h1⟩ := hb
  simp only [Array.getD_eq_getD_getElem?] at ht
  simp [results, h, ht, go_sem, h0, h1]
/-- A value is a row of these. -/
def IsRowL (d : List Lc) (v : Value) (w : World) : Prop := ∃ s n c, v = .slice s n c ∧ IsLcs w s n c d
theorem IsRowL.later {d : List Lc} {v : Value} {w w' : World} (hg : Grow w w') : IsRowL d v w → IsRowL d v w' := fun ⟨s, n, c, e, h⟩ => ⟨s, n, c, e, h.later hg⟩
def IsRowI (d : List Int) (v : Value) (w : World) : Prop := ∃ s n c, v = .slice s n c ∧ IsIns w s n c d
theorem IsRowI.later {d : List Int} {v : Value} {w w' : World} (hg : Grow w w') : IsRowI d v w → IsRowI d v w' := fun ⟨s, n, c, e, h⟩ => ⟨s, n, c, e, h.later hg⟩
theorem rowL_of {f : Nat} {args : List Value} {w : World} {d : List Lc} (h : Calls Tryz.prog f args.toArray w fun e w' => ∃ s n c, e = .returned (.slice s n c) ∧ Grow w w' ∧ OwnL w' w.heap.size s n c d) :
    Calls Tryz.prog f args.toArray w fun e w' => ∃ v, e = .returned v ∧ Grow w w' ∧ IsRowL d v w' :=
  h.mono fun e w' ⟨s, n, c, he, hb, hO⟩ => ⟨_, he, hb, s, n, c, rfl, hO.is⟩
theorem rowI_of {f : Nat} {args : List Value} {w : World} {d : List Int} (h : Calls Tryz.prog f args.toArray w fun e w' => ∃ s n c, e = .returned (.slice s n c) ∧ Grow w w' ∧ OwnI w' w.heap.size s n c d) :
    Calls Tryz.prog f args.toArray w fun e w' => ∃ v, e = .returned v ∧ Grow w w' ∧ IsRowI d v w' :=
  h.mono fun e w' ⟨s, n, c, he, hb, hO⟩ => ⟨_, he, hb, s, n, c, rfl, hO.is⟩

end Go.Proofs.YtehianjfpmbfpaaGreat
end
