import Derived.Test.YtehianjfpmbfpaaGreatHBlkZ
import Derived.Test.YtehianjfpmbfpaaGreatQPmZ
import Derived.Test.YtehianjfpmbfpaaGreatVRgZ
section
/-
  Heads of rows of nodes and of edges; rows stored into a graph of the call's own; rows of cells, written out.
-/
namespace Go.Proofs.YtehianjfpmbfpaaGreat
set_option maxRecDepth 100000
open Go.RowKit Go.Sort
set_option linter.unusedVariables false
set_option linter.unusedSimpArgs false

def cutN (k n : Nat) : Nat := if k < n then k else n
theorem cutN_le (k n : Nat) : cutN k n ≤ k ∧ cutN k n ≤ n := by unfold cutN; split <;> omega
theorem IsNds.cut {w : World} {s : Option Addr} {n c : Nat} {d : List Nd} (h : IsNds w s n c d) (k : Nat) : IsNds w s (cutN k n) c (d.take k) := by
  unfold cutN
  split
  · exact h.take' k (by omega)
  · rw [List.take_of_length_le (by rw [h.1]; omega)]; exact h
theorem IsEds.cut {w : World} {s : Option Addr} {n c : Nat} {d : List Ed} (h : IsEds w s n c d) (k : Nat) : IsEds w s (cutN k n) c (d.take k) := by
  unfold cutN
  split
  · exact h.take' k (by omega)
  · rw [List.take_of_length_le (by rw [h.1]; omega)]; exact h
/-! ## A row stored into a graph of the call's own -/
theorem BlkG.lt {w : World} {b : Nat} (h : BlkG w b) : b < w.heap.size := by
  obtain ⟨cs, h, _⟩ := h
  exact (Array.getElem?_eq_some_iff.1 h).1
theorem BlkG.frozen {w : World} {b : Nat} (h : BlkG w b) (j : Nat) : w.frozen? ⟨b, j, none⟩ = false := by
  obtain ⟨cs, h, _⟩ := h
  exact frozen_of_row w b j cs _ h
/-- A whole graph stored into a block of the call's own. -/
theorem wpList_putG2 {ops : Array Oper} {rest : List Oper} {o : Oper} {a : Act} {w : World} {Q : Exit → Act → World → Prop} (hgd : o.guard = none) (x y : Operand) (ho : o.op = .store 25 x y) (b : Nat) (g : GA)
    (hx : a.eval x = .pointer (some ⟨b, 0, none⟩)) (hy : a.eval y = .agg #[.slice g.s g.n g.c, .slice g.t g.m g.q]) (hb : BlkG w b) (W : World) (hg : Grow W w) (hW : W.heap.size ≤ b) (h : ∀ w2, Grow W w2 → BoxG w2 b g → BlkG w2 b → (∀ k, k ≠ b → w2.heap[k]? = w.heap[k]?) → w2.heap.size = w.heap.size → wpList Tryz.prog ops Q rest (a.put o.dst undef) w2) : wpList Tryz.prog ops Q (o :: rest) a w := by
  have hb' := hb
  obtain ⟨cs, hb1, hs⟩ := hb
  refine wpList_store_row hgd 25 x y ho b _ hx hy _ _ hb1 (by kernel_rfl) (by rw [hs]; rfl) (by simp [Value.oneCell']) (h _ (below_setRow hg hW _) (hb'.box g) ?_ (fun k hk => setRow_other w b k _ hk) (by simp [World.setRow]))
  exact ⟨_, setRow_heap w b cs _ _ _ hb1, rfl⟩
theorem cell_of_heap {w w' : World} {k : Nat} (h : w'.heap[k]? = w.heap[k]?) (j : Nat) : w'.cell? ⟨k, j, none⟩ = w.cell? ⟨k, j, none⟩ := by
  simp only [World.cell?, h]
theorem wpList_setN {ops : Array Oper} {rest : List Oper} {o : Oper} {a : Act} {w : World} {Q : Exit → Act → World → Prop} (hgd : o.guard = none) (x y : Operand) (ho : o.op = .store 22 x y) (b : Nat) (g : GA) (s : Option Addr) (n c : Nat)
    (hx : a.eval x = .pointer (some ⟨b, 0, none⟩)) (hy : a.eval y = .slice s n c) (hb : BlkG w b) (hG : BoxG w b g) (W : World) (hg : Grow W w) (hW : W.heap.size ≤ b)
    (h : ∀ w2, Grow W w2 → BoxG w2 b ⟨s, n, c, g.t, g.m, g.q, [], []⟩ → BlkG w2 b → (∀ k, k ≠ b → w2.heap[k]? = w.heap[k]?) → w2.heap.size = w.heap.size → wpList Tryz.prog ops Q rest (a.put o.dst undef) w2) : wpList Tryz.prog ops Q (o :: rest) a w := by
  have hf := hb.frozen 0
  have hl := hb.lt
  obtain ⟨h0, h1⟩ := hG
  have hK : BoxG (w.setCell ⟨b, 0, none⟩ (.slice s n c)) b ⟨s, n, c, g.t, g.m, g.q, [], []⟩ := by
    constructor <;> simp [go_sem, h0, h1]
  have hB : BlkG (w.setCell ⟨b, 0, none⟩ (.slice s n c)) b := by
    obtain ⟨cs, hc, hs⟩ := hb
    exact ⟨_, heap_setCell_same w b 0 cs _ _ hc, by simpa using hs⟩
  have hO : ∀ k, k ≠ b → (w.setCell ⟨b, 0, none⟩ (.slice s n c)).heap[k]? = w.heap[k]? := fun k hk => heap_setCell_other w ⟨b, 0, none⟩ k _ (fun e => hk (by simp [e]))
  have hgr : Grow W (w.setCell ⟨b, 0, none⟩ (.slice s n c)) := hg.setCell hW _
  have hz : (w.setCell ⟨b, 0, none⟩ (.slice s n c)).heap.size = w.heap.size := by simp
  refine wpList_plain hgd fun K hK' => ?_
  have hk2 := hK' _ _ (h _ hgr hK hB hO hz)
  clear hK' h hK hB hO hgr hz
  unfold Oper.wp
  simp only [execOp, ho]
  generalize a.eval = ev at hx hy ⊢
  simp [hx, hy, go_sem, h0, hf, Result.andThen]
  exact hk2
theorem wpList_setE {ops : Array Oper} {rest : List Oper} {o : Oper} {a : Act} {w : World} {Q : Exit → Act → World → Prop} (hgd : o.guard = none) (x y : Operand) (ho : o.op = .store 23 x y) (b : Nat) (g : GA) (s : Option Addr) (n c : Nat)
    (hx : a.eval x = .pointer (some ⟨b, 1, none⟩)) (hy : a.eval y = .slice s n c) (hb : BlkG w b) (hG : BoxG w b g) (W : World) (hg : Grow W w) (hW : W.heap.size ≤ b)
    (h : ∀ w2, Grow W w2 → BoxG w2 b ⟨g.s, g.n, g.c, s, n, c, [], []⟩ → BlkG w2 b → (∀ k, k ≠ b → w2.heap[k]? = w.heap[k]?) → w2.heap.size = w.heap.size → wpList Tryz.prog ops Q rest (a.put o.dst undef) w2) : wpList Tryz.prog ops Q (o :: rest) a w := by
  have hf := hb.frozen 1
  have hl := hb.lt
  obtain ⟨h0, h1⟩ := hG
  have hK : BoxG (w.setCell ⟨b, 1, none⟩ (.slice s n c)) b ⟨g.s, g.n, g.c, s, n, c, [], []⟩ := by
    constructor <;> simp [go_sem, h0, h1]
  have hB : BlkG (w.setCell ⟨b, 1, none⟩ (.slice s n c)) b := by
    obtain ⟨cs, hc, hs⟩ := hb
    exact ⟨_, heap_setCell_same w b 1 cs _ _ hc, by simpa using hs⟩
  have hO : ∀ k, k ≠ b → (w.setCell ⟨b, 1, none⟩ (.slice s n c)).heap[k]? = w.heap[k]? := fun k hk => heap_setCell_other w ⟨b, 1, none⟩ k _ (fun e => hk (by simp [e]))
  have hgr : Grow W (w.setCell ⟨b, 1, none⟩ (.slice s n c)) := hg.setCell hW _
  have hz : (w.setCell ⟨b, 1, none⟩ (.slice s n c)).heap.size = w.heap.size := by simp
  refine wpList_plain hgd fun K hK' => ?_
  have hk2 := hK' _ _ (h _ hgr hK hB hO hz)
  clear hK' h hK hB hO hgr hz
  unfold Oper.wp
  simp only [execOp, ho]
  generalize a.eval = ev at hx hy ⊢
  simp [hx, hy, go_sem, h1, hf, Result.andThen]
  exact hk2
/-- Rows of cells, written out. -/
theorem isNds_lit (w : World) (b n : Nat) (d : List Nd) (hn : d.length = n) (h : ∀ j, j < n * 4 → ∀ v, (flatN d)[j]? = some v → w.cell? ⟨b, j, none⟩ = some v) : IsNds w (some ⟨b, 0, none⟩) n n d :=
  ⟨hn, Nat.le_refl _, .inr ⟨b, 0, rfl, fun j v hj => by
    have hj' : j < n * 4 := by
      have := (List.getElem?_eq_some_iff.1 hj).1
      rw [flatN_len, hn] at this
      exact this
    rw [Nat.zero_add]
    exact h j hj' v hj⟩⟩
theorem isEds_lit (w : World) (b n : Nat) (d : List Ed) (hn : d.length = n) (h : ∀ j, j < n * 3 → ∀ v, (flatE d)[j]? = some v → w.cell? ⟨b, j, none⟩ = some v) : IsEds w (some ⟨b, 0, none⟩) n n d :=
  ⟨hn, Nat.le_refl _, .inr ⟨b, 0, rfl, fun j v hj => by
    have hj' : j < n * 3 := by
      have := (List.getElem?_eq_some_iff.1 hj).1
      rw [flatE_len, hn] at this
      exact this
    rw [Nat.zero_add]
    exact h j hj' v hj⟩⟩
theorem IsNds.keep {w w' : World} {b o n cap : Nat} {d : List Nd} (h : IsNds w (some ⟨b, o, none⟩) n cap d) (hk : ∀ j, w'.cell? ⟨b, j, none⟩ = w.cell? ⟨b, j, none⟩) : IsNds w' (some ⟨b, o, none⟩) n cap d :=
  ⟨h.1, h.2.1, h.2.2.imp id fun ⟨b', o', e, r⟩ => ⟨b', o', e, fun j v hj => by
    simp at e
    obtain ⟨rfl, rfl⟩ := e
    rw [hk]
    exact r j v hj⟩⟩
theorem IsEds.keep {w w' : World} {b o n cap : Nat} {d : List Ed} (h : IsEds w (some ⟨b, o, none⟩) n cap d) (hk : ∀ j, w'.cell? ⟨b, j, none⟩ = w.cell? ⟨b, j, none⟩) : IsEds w' (some ⟨b, o, none⟩) n cap d :=
  ⟨h.1, h.2.1, h.2.2.imp id fun ⟨b', o', e, r⟩ => ⟨b', o', e, fun j v hj => by
    simp at e
    obtain ⟨rfl, rfl⟩ := e
    rw [hk]
    exact r j v hj⟩⟩

end Go.Proofs.YtehianjfpmbfpaaGreat
end

section
/-
  What the laws' own functions do to the world: plain is an Input and a Capture; accepted tells whether the document's Graph finds nothing wrong; shown is true; what was there stays as it was.
-/
namespace Go.Proofs.YtehianjfpmbfpaaGreat
set_option maxRecDepth 100000
open Go.RowKit
set_option linter.unusedVariables false
set_option linter.unusedSimpArgs false

def plN : List Nd := [⟨1, 0, 0, 0⟩, ⟨11, 0, 0, 0⟩]
def plE : List Ed := [⟨0, 1, 0⟩]
set_option maxHeartbeats 2000000 in
theorem plain_any (w : World) : Calls Tryz.prog 29 #[] w fun e w' => ∃ s t, e = .returned (.agg #[.slice (some ⟨s, 0, none⟩) 2 2, .slice (some ⟨t, 0, none⟩) 1 1]) ∧ Grow w w' ∧ IsNds w' (some ⟨s, 0, none⟩) 2 2 plN ∧ IsEds w' (some ⟨t, 0, none⟩) 1 1 plE := by
  have GG : Hid (Grow w (((w.alloc (.cells #[.slice none 0 0, .slice none 0 0] 25)).alloc (.cells #[.int .i64 1, .int .i64 0, .int .i64 0, .int .i64 0, .int .i64 11, .int .i64 0, .int .i64 0, .int .i64 0] 63)).alloc (.cells #[.int .i64 0, .int .i64 1, .int .i64 0] 61))) := hide (Grow.trans' (Grow.trans' (Grow.alloc' _ _) (Grow.alloc' _ _)) (Grow.alloc' _ _))
  have KB : Hid (BlkG (((w.alloc (.cells #[.slice none 0 0, .slice none 0 0] 25)).alloc (.cells #[.int .i64 1, .int .i64 0, .int .i64 0, .int .i64 0, .int .i64 11, .int .i64 0, .int .i64 0, .int .i64 0] 63)).alloc (.cells #[.int .i64 0, .int .i64 1, .int .i64 0] 61)) w.heap.size) := hide (((BlkG.new w _ _).later (Grow.alloc' _ _)).later (Grow.alloc' _ _))
  have hz1 : (w.alloc (.cells #[.slice none 0 0, .slice none 0 0] 25)).heap.size = w.heap.size + 1 := by simp
  have hz2 : ((w.alloc (.cells #[.slice none 0 0, .slice none 0 0] 25)).alloc (.cells #[.int .i64 1, .int .i64 0, .int .i64 0, .int .i64 0, .int .i64 11, .int .i64 0, .int .i64 0, .int .i64 0] 63)).heap.size = w.heap.size + 2 := by simp
  have IN : Hid (IsNds (((w.alloc (.cells #[.slice none 0 0, .slice none 0 0] 25)).alloc (.cells #[.int .i64 1, .int .i64 0, .int .i64 0, .int .i64 0, .int .i64 11, .int .i64 0, .int .i64 0, .int .i64 0] 63)).alloc (.cells #[.int .i64 0, .int .i64 1, .int .i64 0] 61)) (some ⟨w.heap.size + 1, 0, none⟩) 2 2 plN) := hide (isNds_lit _ _ _ _ rfl (by
    intro j hj v hv
    have : j = 0 ∨ j = 1 ∨ j = 2 ∨ j = 3 ∨ j = 4 ∨ j = 5 ∨ j = 6 ∨ j = 7 := by omega
    rcases this with rfl | rfl | rfl | rfl | rfl | rfl | rfl | rfl <;> simp [plN, flatN, encN] at hv <;> subst hv <;> simp [go_sem]))
  have IE : Hid (IsEds (((w.alloc (.cells #[.slice none 0 0, .slice none 0 0] 25)).alloc (.cells #[.int .i64 1, .int .i64 0, .int .i64 0, .int .i64 0, .int .i64 11, .int .i64 0, .int .i64 0, .int .i64 0] 63)).alloc (.cells #[.int .i64 0, .int .i64 1, .int .i64 0] 61)) (some ⟨w.heap.size + 2, 0, none⟩) 1 1 plE) := hide (isEds_lit _ _ _ _ rfl (by
    intro j hj v hv
    have : j = 0 ∨ j = 1 ∨ j = 2 := by omega
    rcases this with rfl | rfl | rfl <;> simp [plE, flatE, encE] at hv <;> subst hv <;> simp [go_sem]))
  clear hz1 hz2
  go_enter Tryz.func29, Tryz.ntmps29
  go_wp2_with (refine wpList_putG rfl _ _ rfl w.heap.size ⟨some ⟨w.heap.size + 1, 0, none⟩, 2, 2, some ⟨w.heap.size + 2, 0, none⟩, 1, 1, [], []⟩ rfl rfl KB.out w GG.out (Nat.le_refl _) ?_)
  intro w2 hg2 hb2 hoth hsz
  have G2 := hide hg2
  have BB := hide hb2
  have IN2 := hide (IN.out.keep (w' := w2) fun j => hoth ⟨w.heap.size + 1, j, none⟩ (by simp))
  have IE2 := hide (IE.out.keep (w' := w2) fun j => hoth ⟨w.heap.size + 2, j, none⟩ (by simp))
  clear hg2 hb2 hoth hsz
  go_wp2_with fail
  exact bodyPost_ret (resultsG (fn := Tryz.f29) (i := 0) rfl _ _ (b := w.heap.size) (g := ⟨some ⟨w.heap.size + 1, 0, none⟩, 2, 2, some ⟨w.heap.size + 2, 0, none⟩, 1, 1, [], []⟩) rfl BB.out) rfl ⟨_, _, rfl, G2.out, IN2.out, IE2.out⟩

theorem accepted_at (gs : Option Addr) (gn gc : Nat) (gt : Option Addr) (gm gq : Nat) (N : List Nd) (E : List Ed) {q : Bool} (hq : decide (errG N E = 0) = q) (w : World) (hg : IsNds w gs gn gc N) (he : IsEds w gt gm gq E) :
    Calls Tryz.prog 10 #[.agg #[.slice gs gn gc, .slice gt gm gq]] w fun e w' => e = .returned (.bool q) ∧ Grow w w' := by
  have G0 := hide (Grow.alloc' w (.cells #[.slice gs gn gc, .slice gt gm gq] 25))
  obtain ⟨r, hr⟩ : ∃ r, errG N E = r := ⟨_, rfl⟩
  have C := hide (rgraph_any gs gn gc gt gm gq N E (w.alloc (.cells #[.slice gs gn gc, .slice gt gm gq] 25)) (hg.later G0.out) (he.later G0.out) hr)
  rw [hr] at hq
  subst hq
  clear hg he hr
  go_enter Tryz.func10, Tryz.ntmps10
  go_wp2_with fail
  refine C.out.mono ?_
  rintro _ w1 ⟨rfl, hb⟩
  have G1 := hide (Grow.trans' G0.out hb)
  clear hb C
  by_cases h : r = 0
  all_goals
    go_wp2_with fail
    go_ret
    exact ⟨ret_bool (by simp [h]), G1.out⟩

/-! Fronts of a graph that is at hand. -/
theorem front_one {P : Sm → Prop} {s : Sm} (h : P s) (hc : ∀ r, P r → coverB kinS [s] r = true) : Front P [s] :=
  ⟨List.pairwise_singleton _ _, fun x hx => by rw [List.mem_singleton.1 hx]; exact h, fun x hx y hy _ => by rw [List.mem_singleton.1 hx, List.mem_singleton.1 hy], hc⟩
theorem front_nil {P : Sm → Prop} (hc : ∀ r, P r → coverB kinS [] r = true) : Front P [] :=
  ⟨List.Pairwise.nil, fun x hx => (by cases hx), fun x hx => (by cases hx), hc⟩
/-- Rows of places, written out. -/
def outF (O : List (Lc × List Sm)) (x : Lc) : List Sm := ((O.find? fun p => eqL p.1 x).map (·.2)).getD []
def closedB (S : List Stp) (O : List (Lc × List Sm)) : Bool := S.all fun x => (outF O x.a).all fun s => !decide (thenE s x.r = 0) || coverB kinS (outF O x.b) (thenS s x.r)
theorem closed_out {S : List Stp} {a b : Lc} {s0 r : Sm} (O : List (Lc × List Sm)) (h0 : coverB kinS (outF O a) s0 = true) (hc : closedB S O = true) (h : Way S a s0 b r) : coverB kinS (outF O b) r = true :=
  closed_covers (outF O) h0 (fun x hx s hs he => by
    have h1 := List.all_eq_true.1 (List.all_eq_true.1 hc x hx) s hs
    rw [he] at h1
    simpa using h1) h
theorem plain_acc : AccG plN plE := errG_zero.1 (by decide)
theorem plain_sums1 : SumsOf plN plE ⟨0, -1⟩ ⟨1, 0⟩ [⟨0, 0, 0, 0, 0, 0, 0⟩] := by
  refine ⟨fun _ => ?_, fun h => by revert h; decide⟩
  refine front_one ?_ fun r hr => closed_out [(⟨0, -1⟩, [⟨0, 0, 0, 0, 0, 0, 0⟩]), (⟨1, 0⟩, [⟨0, 0, 0, 0, 0, 0, 0⟩])] (by decide) (by decide) hr
  have h1 := Way.more (S := stepsG plN plE) (a := ⟨0, -1⟩) (s0 := sameS (depP plN ⟨0, -1⟩)) ⟨⟨0, -1⟩, ⟨1, 0⟩, ⟨0, 0, 0, 0, 0, 0, 0⟩⟩ _ .none (mem_stepsG.2 ⟨by decide, ?_⟩) (by decide)
  · exact h1
  · exact List.mem_singleton.2 rfl
theorem plain_sums2 : SumsOf plN plE ⟨1, 0⟩ ⟨0, -1⟩ [] := by
  refine ⟨fun _ => ?_, fun _ => rfl⟩
  exact front_nil fun r hr => closed_out [(⟨1, 0⟩, [⟨0, 0, 0, 0, 0, 0, 0⟩])] (by decide) (by decide) hr

theorem chain_one {α : Type} (O : Kin α) {t : α} (h : O.may t = true) : chainO O [t] = [t] :=
  (chainO_eq O ⟨List.pairwise_singleton _ _, fun x => ⟨fun hx => by
    rw [List.mem_singleton] at hx
    subst hx
    exact ⟨by simp, h, fun y hy _ _ => List.mem_singleton.1 hy⟩, fun hx => hx.1⟩⟩).symm
theorem shown_time : chainO kinT (madeL [⟨0, 0, 0, 0, 0, 0, 0⟩] ⟨3, 0, 0, 0, 0⟩) = [⟨3, 0, 0, 0, 0⟩] := by
  have e : madeL [⟨0, 0, 0, 0, 0, 0, 0⟩] ⟨3, 0, 0, 0, 0⟩ = [⟨3, 0, 0, 0, 0⟩] := rfl
  rw [e]
  exact chain_one kinT (by decide)
theorem shown_none (t : Tm) : chainO kinT (madeL [] t) = [] := chainO_nil kinT
theorem lcWf_lit {n p : Int} (h1 : -1 ≤ n ∧ n ≤ 100) (h2 : -1 ≤ p ∧ p ≤ 100) : LcWf ⟨n, p⟩ := ⟨WalkArith.wf_i64 ⟨by show _ ≤ n; omega, by show n ≤ _; omega⟩, WalkArith.wf_i64 ⟨by show _ ≤ p; omega, by show p ≤ _; omega⟩⟩
theorem eqTm5 (e d x y z e' d' x' y' z' : Int) (w : World) : (Op.equalIn 10000 43 (.agg #[.int .i64 e, .int .i64 d, .int .i64 x, .int .i64 y, .int .i64 z]) (.agg #[.int .i64 e', .int .i64 d', .int .i64 x', .int .i64 y', .int .i64 z'])).run Tryz.prog w = .ok (eqB ⟨e, d, x, y, z⟩ ⟨e', d', x', y', z'⟩) w := eqTm ⟨e, d, x, y, z⟩ ⟨e', d', x', y', z'⟩ w
attribute [local go_sem ↓] eqTm5
attribute [local go_sem] eqB
set_option maxHeartbeats 2000000 in
theorem shown_any (w : World) : Calls Tryz.prog 9 #[] w fun e w' => e = .returned (.bool true) ∧ Grow w w' := by
  go_enter Tryz.func9, Tryz.ntmps9
  go_wp2_with fail
  refine (plain_any _).mono ?_
  rintro _ w1 ⟨s, t, rfl, hb, hN, hE⟩
  have G1 := hide hb
  have C1 := hide (new_any (some ⟨s, 0, none⟩) 2 2 (some ⟨t, 0, none⟩) 1 1 plN plE plain_acc w1 hN hE)
  clear hb hN hE
  go_wp2_with fail
  refine C1.out.mono ?_
  rintro _ w2 ⟨p, rfl, hb, hI⟩
  have G2 := hide (Grow.trans' G1.out hb)
  have HI := hide hI
  have C2 := hide (could_any p plN plE plain_acc ⟨0, -1⟩ ⟨1, 0⟩ ⟨3, 0, 0, 0, 0⟩ (lcWf_lit (by omega) (by omega)) (lcWf_lit (by omega) (by omega)) _ plain_sums1 w2 hI)
  rw [shown_time] at C2
  clear hb hI C1 G1
  go_wp2_with fail
  refine C2.out.mono ?_
  rintro _ w3 ⟨v, rfl, hb, s3, n3, c3, rfl, hI3⟩
  have G3 := hide (Grow.trans' G2.out hb)
  have HI3 := hide (HI.out.later hb)
  obtain rfl : n3 = 1 := hI3.1.symm
  obtain ⟨b3, o3, rfl, hr⟩ := hI3.2.2.resolve_left (by simp)
  obtain ⟨t0, t1, t2, t3, t4⟩ := hr.at 0 (by simp)
  simp at t0 t1 t2 t3 t4
  have C3 := hide (could_any p plN plE plain_acc ⟨1, 0⟩ ⟨0, -1⟩ ⟨0, 0, 0, 0, 0⟩ (lcWf_lit (by omega) (by omega)) (lcWf_lit (by omega) (by omega)) _ plain_sums2 w3 HI3.out)
  rw [shown_none] at C3
  clear hb hI3 hr C2 G2 HI
  go_wp2_with fail
  refine C3.out.mono ?_
  rintro _ w4 ⟨v, rfl, hb, s4, n4, c4, rfl, hI4⟩
  have G4 := hide (Grow.trans' G3.out hb)
  obtain rfl : n4 = 0 := hI4.1.symm
  clear hb hI4 C3 G3 t0 t1 t2 t3 t4
  go_wp2_with fail
  go_ret
  exact ⟨rfl, G4.out⟩

end Go.Proofs.YtehianjfpmbfpaaGreat
end
