/-
  ValidNumbers: for every graph (its first 14 nodes and 26 edges) that is accepted, every number of a node and every choice: with its edges turned about it is accepted too; with that node's kind, depth or number out of bounds it is refused as one whose nodes may not be; the call returns true and leaves its arguments as they were. No conditions.
-/
import Derived.Test.YtdgmfjaldicmgaaVAp
import Derived.Deep.Cut
import Derived.Deep.CutRange
namespace Go.Proofs.Ytdgmfjaldicmgaa
set_option maxRecDepth 100000
open Go.ChangeShapes Go.WideShapes Go.ChangeAt Go.RowKit Go.Deep Go.Sort
set_option linter.unusedVariables false
set_option linter.unusedSimpArgs false

theorem and3 (m : Int) : ∃ k : Nat, k ≤ 3 ∧ bits .and .i64 m 3 = (k : Int) := by
  refine ⟨(BitVec.ofInt 64 m).toNat &&& 3, Nat.and_le_right, ?_⟩
  have h3 : (BitVec.ofInt 64 m).toNat &&& 3 ≤ 3 := Nat.and_le_right
  show IntKind.i64.wrap ((BitVec.ofInt 64 m &&& BitVec.ofInt 64 3).toNat : Int) = _
  rw [BitVec.toNat_and, show (BitVec.ofInt 64 3).toNat = 3 from rfl, IntKind.wrap_i64]
  omega
/-- The last k edges, turned about. -/
def revTo (E : List Ed) (k : Nat) : List Ed := (E.drop (E.length - k)).reverse
theorem revTo_zero (E : List Ed) : revTo E 0 = [] := by simp [revTo]
theorem revTo_all (E : List Ed) : revTo E E.length = E.reverse := by simp [revTo]
theorem revTo_step (E : List Ed) (k j : Nat) (hj : j < E.length) (h : j + k + 1 = E.length) : revTo E (k + 1) = revTo E k ++ [E[j]] := by
  unfold revTo
  have e1 : E.length - (k + 1) = j := by omega
  have e2 : E.length - k = j + 1 := by omega
  rw [e1, e2, List.drop_eq_getElem_cons hj, List.reverse_cons]
/-- A row stored into a graph of the call's own, the last operation of a region. -/
theorem wp_setE {o : Oper} {a : Act} {w : World} {K : Act → World → Prop} {Q : Exit → Act → World → Prop} (x y : Operand) (ho : o.op = .store 27 x y) (b : Nat) (g : GA) (s : Option Addr) (n c : Nat)
    (hx : a.eval x = .pointer (some ⟨b, 1, none⟩)) (hy : a.eval y = .slice s n c) (hb : BlkG w b) (hG : BoxG w b g)
    (h : ∀ w2, BoxG w2 b ⟨g.s, g.n, g.c, s, n, c, [], []⟩ → BlkG w2 b → w.grownBy w2 (some b) → K (a.put o.dst undef) w2) : o.wp Try.prog a w K Q := by
  have hf := hb.frozen 1
  have hl := hb.lt
  obtain ⟨h0, h1⟩ := hG
  have hK : BoxG (w.setCell ⟨b, 1, none⟩ (.slice s n c)) b ⟨g.s, g.n, g.c, s, n, c, [], []⟩ := by
    constructor <;> simp [go_sem, h0, h1]
  have hB : BlkG (w.setCell ⟨b, 1, none⟩ (.slice s n c)) b := by
    obtain ⟨cs, hc, hs⟩ := hb
    exact ⟨_, heap_setCell_same w b 1 cs _ _ hc, by simpa using hs⟩
  have hO : w.grownBy (w.setCell ⟨b, 1, none⟩ (.slice s n c)) (some b) := ⟨rfl, rfl, rfl, by simp, fun k _ hk => heap_setCell_other w ⟨b, 1, none⟩ k _ (fun e => hk (by simp [e]))⟩
  have hk2 := h _ hK hB hO
  clear h hK hB hO
  unfold Oper.wp
  simp only [execOp, ho]
  generalize a.eval = ev at hx hy ⊢
  simp [hx, hy, go_sem, h1, hf, Result.andThen]
  exact hk2
theorem by_trans {w a b : World} {B : Nat} {r : Option Nat} (h : w.grownBy a (some B)) (k : a.grownBy b r) (hr : ∀ x, r = some x → x = B ∨ w.heap.size ≤ x) : w.grownBy b (some B) :=
  ⟨k.os.trans h.os, k.tape.trans h.tape, k.output.trans h.output, Nat.le_trans h.size k.size, fun i hi hne => by
    rw [k.block i (Nat.lt_of_lt_of_le hi h.size) (fun e => by
      rcases hr i e.symm with h1 | h1
      · exact hne (by rw [h1])
      · omega)]
    exact h.block i hi hne⟩
theorem by_grow {w a : World} (h : Grow w a) (r : Option Nat) : w.grownBy a r := ⟨h.os, h.tape, h.output, h.size, fun i hi _ => h.block i hi⟩
/-- What holds of every world while the edges are turned about. -/
structure Bk (w w5 wr : World) (B : Nat) (w' : World) : Prop where
  g : Grow w w'
  b : w5.grownBy w' (some B)
  h : w'.heap[B]? = wr.heap[B]?
theorem Bk.later {w w5 wr : World} {B : Nat} {wa wb : World} (hB : B < w5.heap.size) (h : Bk w w5 wr B wa) (k : Grow wa wb) : Bk w w5 wr B wb :=
  ⟨Grow.trans' h.g k, by_trans h.b (by_grow k none) (fun x e => by cases e), (k.block B (Nat.lt_of_lt_of_le hB h.b.size)).trans h.h⟩
theorem run_apBk {w w5 wr : World} {B : Nat} {w' : World} (hB : B < w5.heap.size) (hw5 : w.heap.size ≤ w5.heap.size) (hg : Bk w w5 wr B w') (rt : TypeId) (s : Option Addr) (n cap : Nat) (d e : List Ed) (hown : OwnE w' w5.heap.size s n cap d) (s' : Option Addr) (m c : Nat) (he : IsEds w' s' m c e) (hlen : n + m ≤ 1000000) :
    ∃ s2 c2 w2, (Builtin.append_ #[27, 27] rt #[.slice s n cap, .slice s' m c]).run Try.prog w' = .ok (.slice s2 (n + m) c2) w2
      ∧ OwnE w2 w5.heap.size s2 (n + m) c2 (d ++ e) ∧ (Bk w w5 wr B w2 ∧ GrewT 50 w' w2) ∧ True := by
  obtain ⟨s2, c2, w2, h1, h2, h3⟩ := run_ap_ed w' rt w5.heap.size s n cap d e hown s' m c he hlen hg.b.size
  have hlo : ∀ x, s.map (·.block) = some x → w5.heap.size ≤ x := fun x hx => by
    cases s with
    | none => simp at hx
    | some a => simp at hx; rw [← hx]; exact (hown.lt a rfl).2
  refine ⟨s2, c2, w2, h1, h2, ⟨⟨(GrewBut.mk h3 fun b hb => (hown.lt b hb).2).grow hg.g hw5, by_trans hg.b h3 fun x hx => .inr (hlo x hx), ?_⟩, hown.grewT h3⟩, trivial⟩
  rw [h3.block B (Nat.lt_of_lt_of_le hB hg.b.size) (fun e => by have := hlo B e.symm; omega)]
  exact hg.h
theorem OwnN.some4 {w : World} {base n cap : Nat} {s : Option Addr} {d : List Nd} (h : OwnN w base s n cap d) (hn : 0 < n) : ∃ g, s = some ⟨g, 0, none⟩ := by
  rcases h.2.1.2 with ⟨h', h''⟩ | ⟨g, cap', cur, h', _⟩
  · omega
  · simp only [Value.slice.injEq] at h'
    exact ⟨g, h'.1⟩
theorem OwnN.room {w : World} {base n cap g : Nat} {d : List Nd} (h : OwnN w base (some ⟨g, 0, none⟩) n cap d) : ∃ cs t, w.heap[g]? = some (.cells cs t (0, 0)) ∧ n * 4 ≤ cs.size := by
  rcases h.2.1.2 with ⟨h', _⟩ | ⟨g', cap', cur, h', hb, hg, k1, k2, k3, k4⟩
  · simp at h'
  · simp only [Value.slice.injEq, Option.some.injEq, Addr.mk.injEq, and_true, true_and] at h'
    obtain ⟨rfl, rfl⟩ := h'
    exact ⟨cur, _, hg, by rw [k3]; exact Nat.mul_le_mul_right 4 k1⟩
/-- A cell of a row of nodes stored into. -/
theorem IsNds.upd {w : World} {g n cap i : Nat} {d : List Nd} {x : Nd} (h : IsNds w (some ⟨g, 0, none⟩) n cap d) (hi : i < d.length) (c : Nat) (hc : c < 4) (v : Int) (hx : ∀ j, j < 4 → (encN x)[j]? = if j = c then some (.int .i64 v) else (encN d[i])[j]?) (hlt : ∃ cs t, w.heap[g]? = some (.cells cs t (0, 0)) ∧ n * 4 ≤ cs.size) :
    IsNds (w.setCell ⟨g, i * 4 + c, none⟩ (.int .i64 v)) (some ⟨g, 0, none⟩) n cap (d.set i x) := by
  have hne : ¬ d = [] := fun e => by rw [e] at hi; simp at hi
  obtain ⟨h1, h2, h3⟩ := h
  obtain ⟨b, o, he, hr⟩ := h3.resolve_left hne
  obtain ⟨rfl, rfl⟩ : g = b ∧ 0 = o := by simpa using he
  obtain ⟨cs, t, hcs, hsz⟩ := hlt
  refine ⟨by rw [List.length_set]; exact h1, h2, .inr ⟨g, 0, rfl, fun j u hj => ?_⟩⟩
  rw [Nat.zero_add]
  have hjl : j < n * 4 := by
    have := (List.getElem?_eq_some_iff.1 hj).1
    rw [flatN_len, List.length_set, h1] at this
    exact this
  have hcell : (w.setCell ⟨g, i * 4 + c, none⟩ (.int .i64 v)).cell? ⟨g, j, none⟩ = if j = i * 4 + c then some (.int .i64 v) else w.cell? ⟨g, j, none⟩ := by
    have h5 := heap_setCell_same w g (i * 4 + c) cs t (.int .i64 v) hcs
    rw [cell_of_row _ g j _ t (0, 0) h5, cell_of_row w g j cs t (0, 0) hcs, Array.getElem?_setIfInBounds]
    by_cases e : i * 4 + c = j
    · subst e
      simp
      omega
    · rw [if_neg e, if_neg (fun e' => e e'.symm)]
  rw [hcell]
  have hd1 : j / 4 < (d.set i x).length := by rw [List.length_set, h1]; omega
  have hg := flatN_get (d.set i x) (j / 4) (j % 4) hd1 (by omega)
  have hjj : j / 4 * 4 + j % 4 = j := by omega
  rw [hjj, hj] at hg
  rw [List.getElem_set] at hg
  have hd2 : j / 4 < d.length := by rw [List.length_set] at hd1; exact hd1
  have h9 := flatN_get d (j / 4) (j % 4) hd2 (by omega)
  rw [hjj] at h9
  by_cases e : i = j / 4
  · subst e
    rw [if_pos rfl, hx (j % 4) (by omega)] at hg
    by_cases e2 : j % 4 = c
    · rw [if_pos e2] at hg
      rw [if_pos (by omega)]
      exact hg.symm
    · rw [if_neg e2] at hg
      rw [if_neg (by omega)]
      have := hr j u (h9.trans hg.symm)
      rw [Nat.zero_add] at this
      exact this
  · rw [if_neg e] at hg
    rw [if_neg (by omega)]
    have := hr j u (h9.trans hg.symm)
    rw [Nat.zero_add] at this
    exact this
set_option maxHeartbeats 40000000 in
theorem numbers_raw (gs : Option Addr) (gn gc : Nat) (gt : Option Addr) (gm gq : Nat) (N0 : List Nd) (E0 : List Ed) (node which : Int) (k4 : Int) (hk4 : k4 = 0 ∨ k4 = 1 ∨ k4 = 2 ∨ k4 = 3) (hbits : bits .and .i64 which 3 = k4) (w : World) (hN : IsNds w gs gn gc N0) (hE : IsEds w gt gm gq E0) :
    Calls Try.prog 8 #[.agg #[.slice gs gn gc, .slice gt gm gq], .int .i64 node, .int .i64 which] w fun r w' => r = .returned (.bool true) ∧ Grow w w' := by
  have HN0 := hide (hN.cut 14)
  have HE0 := hide (hE.cut 26)
  have CF := hide (fun w => few_raw gs gn gc gt gm gq w hN.2.1 hE.2.1)
  have hn2' := cutN_le 14 gn
  have hm2' := cutN_le 26 gm
  obtain ⟨n2, hn2⟩ : ∃ n2, cutN 14 gn = n2 := ⟨_, rfl⟩
  obtain ⟨m2, hm2⟩ : ∃ m2, cutN 26 gm = m2 := ⟨_, rfl⟩
  obtain ⟨N, hNN⟩ : ∃ N, N0.take 14 = N := ⟨_, rfl⟩
  obtain ⟨E, hEE⟩ : ∃ E, E0.take 26 = E := ⟨_, rfl⟩
  rw [hn2] at HN0 CF hn2'
  rw [hm2] at HE0 CF hm2'
  rw [hNN] at HN0
  rw [hEE] at HE0
  clear hN hE hn2 hm2 hNN hEE
  have hn3 : n2 ≤ 14 := by omega
  have hm3 : m2 ≤ 26 := by omega
  have GG : Hid (Grow w (w.alloc (.cells #[.slice gs gn gc, .slice gt gm gq] 29))) := hide (Grow.alloc' _ _)
  have KG : Hid (BoxG (w.alloc (.cells #[.slice gs gn gc, .slice gt gm gq] 29)) w.heap.size ⟨gs, gn, gc, gt, gm, gq, [], []⟩) := hide (BoxG.new w ⟨gs, gn, gc, gt, gm, gq, [], []⟩)
  have KB : Hid (BlkG (w.alloc (.cells #[.slice gs gn gc, .slice gt gm gq] 29)) w.heap.size) := hide (BlkG.new w _ _)
  clear hn2' hm2'
  go_enter Try.func8, Try.ntmps8
  go_wp2_with fail
  generalize (w.alloc (.cells #[.slice gs gn gc, .slice gt gm gq] 29)) = w0 at *
  refine (shown_any _).mono ?_
  rintro _ w1 ⟨rfl, hb⟩
  have G1 := hide (Grow.trans' GG.out hb)
  have KB1 := hide (KB.out.later hb)
  obtain ⟨g0, g1⟩ := KG.out.later hb
  dsimp only at g0 g1
  clear hb KG KB GG
  go_wp2_with fail
  refine (CF.out _).mono ?_
  rintro _ w2 ⟨rfl, hb⟩
  have G2 := hide (Grow.trans' G1.out hb)
  have KB2 := hide (KB1.out.later hb)
  clear hb KB1 G1 g0 g1 CF
  go_wp2_with (refine wpList_putG rfl _ _ rfl w.heap.size ⟨gs, n2, gc, gt, m2, gq, [], []⟩ rfl rfl KB2.out w G2.out (Nat.le_refl _) ?_)
  intro w3 hg3 hb3 hoth hsame
  have G3 := hide hg3
  have HN := hide (HN0.out.later hg3)
  have HE := hide (HE0.out.later hg3)
  obtain ⟨g0, g1⟩ := hb3
  dsimp only at g0 g1
  have HEW := HE0
  have HNW := HN0
  clear hg3 hoth hsame KB2 G2 HN0 HE0
  generalize w.heap.size = P at *
  obtain ⟨e, he⟩ : ∃ e, errG N E = e := ⟨_, rfl⟩
  have C1 := hide (graph_raw gs n2 gc gt m2 gq N E w3 (by omega) (by omega) HN.out HE.out he)
  have KG3 : Hid (BoxG w3 P ⟨gs, n2, gc, gt, m2, gq, [], []⟩) := hide ⟨g0, g1⟩
  have HEr := hide he
  clear he
  go_wp2_with fail
  refine C1.out.mono ?_
  rintro _ w4 ⟨rfl, hb⟩
  have G4 := hide (Grow.trans' G3.out hb)
  have KG4 := hide (KG3.out.later hb)
  have HN4 := hide (HN.out.later hb)
  have HE4 := hide (HE.out.later hb)
  obtain ⟨h0, h1⟩ := KG3.out.later hb
  dsimp only at h0 h1
  clear hb g0 g1 C1 KG3
  by_cases he0 : e = 0
  rotate_left
  · have he1 : (e != 0) = true := by simpa using he0
    have he2 : (e == 0) = false := by simpa using he0
    go_wp2_with fail
    go_ret
    exact ⟨rfl, G4.out⟩
  subst he0
  by_cases d1 : node < 0
  · go_wp2_with fail
    go_ret
    exact ⟨rfl, G4.out⟩
  by_cases d2 : (n2 : Int) ≤ node
  · go_wp2_with fail
    go_ret
    exact ⟨rfl, G4.out⟩
  obtain ⟨ni, rfl⟩ : ∃ ni : Nat, node = ni := ⟨node.toNat, by omega⟩
  have ACC := hide (errG_zero.1 HEr.out)
  have hNl := HN4.out.1
  have hEl := HE4.out.1
  have HNl := hide hNl
  have HEl := hide hEl
  have hni : ni < n2 := by omega
  have hneN : ¬ N = [] := fun h => by rw [h] at hNl; simp at hNl; omega
  obtain ⟨bN, oN, rfl, hrN⟩ := HN4.out.2.2.resolve_left hneN
  have hi1 : (0 : Int) ≤ (ni : Int) := by omega
  have hi2 : (ni : Int) < (n2 : Int) := by omega
  have hi3 : ¬ (n2 : Int) ≤ (ni : Int) := by omega
  have BA := hide (BlkG.new w4 (.slice none 0 0) (.slice none 0 0))
  clear hNl hEl hneN hrN d1 d2
  go_wp2_with (refine wpList_putG2 rfl _ _ rfl w4.heap.size ⟨some ⟨bN, oN, none⟩, n2, gc, none, 0, 0, [], []⟩ rfl rfl BA.out w4 (Grow.alloc' _ _) (Nat.le_refl _) ?_)
  intro w5 hg5 hb5 hk5 hoth5 hz5
  have G5 := hide (Grow.trans' G4.out hg5)
  have G45 := hide hg5
  have BB5 := hide hb5
  have BK5 := hide hk5
  have KG5 := hide (KG4.out.later hg5)
  have HN5 := hide (HN4.out.later hg5)
  have HE5 := hide (HE4.out.later hg5)
  obtain ⟨B, hB⟩ : ∃ B, B = w4.heap.size := ⟨_, rfl⟩
  have HPB : Hid (P ≠ B) := hide (by have := KG4.out.lt; omega)
  have HWB : Hid (w.heap.size ≤ B) := hide (by rw [hB]; exact G4.out.size)
  have HBL : Hid (B < w5.heap.size) := hide (by rw [hB]; exact hk5.lt)
  rw [← hB] at BB5 BK5
  rw [← hB]
  obtain ⟨k0, k1⟩ := KG5.out
  dsimp only at k0 k1
  clear hg5 hb5 hk5 hoth5 hz5 BA h0 h1 hB G4 KG4 HN4 HE4
  have hwm : IntKind.i64.wrap ((m2 : Int) - 1) = (m2 : Int) - 1 := IntWalk.i64_in _ ⟨by omega, by omega⟩
  go_wp2_with fail
  have hw55 : w.heap.size ≤ w5.heap.size := G5.out.size
  clear k0 k1
  go_loopg [9] m2 (fun g9 t9 wr => ∃ (k : Nat) (z : Int) (t : Option Addr) (q : Nat), k + g9 = m2 ∧ z + k + 1 = m2 ∧ t9 = .int .i64 z ∧ Grow w wr ∧ w5.grownBy wr (some B) ∧ BoxG wr B ⟨some ⟨bN, oN, none⟩, n2, gc, t, k, q, [], []⟩ ∧ BlkG wr B ∧ OwnE wr w5.heap.size t k q (revTo E k))
  case atStart => exact ⟨0, (m2 : Int) - 1, none, 0, by omega, by omega, rfl, G5.out, by_grow (Grow.rfl' _) _, BB5.out, BK5.out, by rw [revTo_zero]; exact OwnE.nil _ _⟩
  case round =>
    obtain ⟨k, z, t, q, hkg, hz, rfl, hg, hby, hbx, hbk, hro⟩ := hrel
    have GR := hide hg
    have BY := hide hby
    have BX := hide hbx
    have BK := hide hbk
    have RO := hide hro
    generalize wr = wo at *
    by_cases hz0 : 0 ≤ z
    · obtain ⟨j, rfl⟩ : ∃ j : Nat, z = j := ⟨z.toNat, by omega⟩
      have hjE : j < E.length := by rw [HEl.out]; omega
      have hneE : ¬ E = [] := fun h => by rw [h] at hjE; simp at hjE
      obtain ⟨bE, oE, rfl, hrE⟩ := HEW.out.2.2.resolve_left hneE
      obtain ⟨p0, p1, p2⟩ := hrE.at j hjE
      have hst := revTo_step E k j hjE (by rw [HEl.out]; omega)
      obtain ⟨x, hx⟩ : ∃ x, x = E[j] := ⟨_, rfl⟩
      rw [← hx] at p0 p1 p2 hst
      obtain ⟨xf, xt, xp⟩ := x
      dsimp only at p0 p1 p2
      have P0 := hide p0
      have P1 := hide p1
      have P2 := hide p2
      have HST := hide hst
      have hj1 : (0 : Int) ≤ (j : Int) := by omega
      have hj2 : (j : Int) < (m2 : Int) := by omega
      have hwj : IntKind.i64.wrap ((j : Int) - 1) = (j : Int) - 1 := IntWalk.i64_in _ ⟨by omega, by omega⟩
      have hk26 : k ≤ 26 := by omega
      have HZ : Hid ((j : Int) + k + 1 = m2) := hide hz
      clear hneE hrE hjE hx hst p0 p1 p2 hg hby hbx hbk hro hz
      have HGG : ∀ wa wb, Bk w w5 wo B wa → Grow wa wb → Bk w w5 wo B wb := fun _ _ h q => h.later HBL.out q
      have HBG : ∀ wa wb, Grow wa wb → OwnE wa w5.heap.size t k q (revTo E k) → OwnE wb w5.heap.size t k q (revTo E k) := fun _ _ q h => h.later q
      have HG0 : ∀ w', Grow wo w' → w'.heap = wo.heap → Bk w w5 wo B w' := fun w' h hh => Bk.later HBL.out ⟨GR.out, BY.out, rfl⟩ h
      have HB0 : ∀ w', Grow wo w' → w'.heap = wo.heap → OwnE w' w5.heap.size t k q (revTo E k) := fun w' h _ => RO.out.later h
      go_wp2_with fail
      let FF : Nat → Value → World → Prop := fun i vF wF => match i with | 0 => vF = .pointer (some ⟨B, 1, none⟩) | 1 => vF = .slice t k q | 2 => vF = .pointer (some ⟨P, 1, none⟩) | 3 => vF = .slice (some ⟨bE, oE, none⟩) m2 gq | 4 => vF = .int .i64 (j : Int) | 5 => vF = .pointer (some ⟨bE, oE + j * 3, none⟩) | 6 => vF = .agg #[.int .i64 xf, .int .i64 xt, .int .i64 xp] | 7 => AppE w5.heap.size 1 [⟨xf, xt, xp⟩] vF wF | 8 => AppE w5.heap.size (k + 1) (revTo E k ++ [⟨xf, xt, xp⟩]) vF wF | 9 => vF = .pointer (some ⟨B, 1, none⟩) | _ => True
      let GG : World → Prop := fun w' => Bk w w5 wo B w'
      let BB : World → Prop := fun w' => OwnE w' w5.heap.size t k q (revTo E k)
      have hstab : ∀ k v w1 w2, Grow w1 w2 → FF k v w1 → FF k v w2 := by
        intro k v w1 w2 hg h
        match k with
        | 0 => exact h
        | 1 => exact h
        | 2 => exact h
        | 3 => exact h
        | 4 => exact h
        | 5 => exact h
        | 6 => exact h
        | 7 => exact AppE.later hg h
        | 8 => exact AppE.later hg h
        | 9 => exact h
        | k + 10 => exact trivial
      have hGg : ∀ w1 w2, GG w1 → Grow w1 w2 → GG w2 := HGG
      have hBg : ∀ w1 w2, Grow w1 w2 → BB w1 → BB w2 := HBG
      refine wp_region_endG FF GG BB (fun i => match i with | 7 => some 8 | _ => none) 8 10 _ rfl rfl rfl (by kernel_rfl) (by kernel_rfl) HG0 HB0 ?_ ?_
      · refine ⟨?_, ?_, ?_, ?_, ?_, ?_, ?_, ?_, ?_, ?_, trivial⟩
        · refine stepG_run hGg hBg hstab rfl ?_
          intro a' w' hg hs hd hb
          have e8 : a'.eval (.tmp 8) = .pointer (some ⟨B, 0, none⟩) := hs.rest 8 rfl
          have ec : ∀ v, a'.eval (.const v) = v := fun _ => rfl
          have ef : ∀ g, a'.eval (.func g) = .func (.func g) #[] #[] := fun _ => rfl
          clear hd hs
          refine wpv (v := .pointer (some ⟨B, 1, none⟩)) ?_ ⟨_, rfl, Grow.rfl' _, rfl⟩
          (generalize a'.eval = ev at ec ef e8 ⊢; simp [execOp, go_sem, *])
        · refine stepG_run hGg hBg hstab rfl ?_
          intro a' w' hg hs hd hb
          have e40 : a'.eval (.tmp 40) = .pointer (some ⟨B, 1, none⟩) := hd ⟨0, Ground.data⟩ (by simp) rfl rfl
          have ec : ∀ v, a'.eval (.const v) = v := fun _ => rfl
          have ef : ∀ g, a'.eval (.func g) = .func (.func g) #[] #[] := fun _ => rfl
          obtain ⟨x0, x1⟩ := BX.out.keep (show Bk w w5 wo B w' from hg).h; dsimp only at x0 x1
          clear hd hs
          refine wpv (v := .slice t k q) ?_ ⟨_, rfl, Grow.rfl' _, rfl⟩
          (generalize a'.eval = ev at ec ef e40 ⊢; simp [execOp, go_sem, *])
        · refine stepG_run hGg hBg hstab rfl ?_
          intro a' w' hg hs hd hb
          have e3 : a'.eval (.tmp 3) = .pointer (some ⟨P, 0, none⟩) := hs.rest 3 rfl
          have ec : ∀ v, a'.eval (.const v) = v := fun _ => rfl
          have ef : ∀ g, a'.eval (.func g) = .func (.func g) #[] #[] := fun _ => rfl
          clear hd hs
          refine wpv (v := .pointer (some ⟨P, 1, none⟩)) ?_ ⟨_, rfl, Grow.rfl' _, rfl⟩
          (generalize a'.eval = ev at ec ef e3 ⊢; simp [execOp, go_sem, *])
        · refine stepG_run hGg hBg hstab rfl ?_
          intro a' w' hg hs hd hb
          have e42 : a'.eval (.tmp 42) = .pointer (some ⟨P, 1, none⟩) := hd ⟨2, Ground.data⟩ (by simp) rfl rfl
          have ec : ∀ v, a'.eval (.const v) = v := fun _ => rfl
          have ef : ∀ g, a'.eval (.func g) = .func (.func g) #[] #[] := fun _ => rfl
          obtain ⟨x0, x1⟩ := KG5.out.keep ((show Bk w w5 wo B w' from hg).b.block P KG5.out.lt (fun e => HPB.out (by simpa using e))); dsimp only at x0 x1
          clear hd hs
          refine wpv (v := .slice (some ⟨bE, oE, none⟩) m2 gq) ?_ ⟨_, rfl, Grow.rfl' _, rfl⟩
          (generalize a'.eval = ev at ec ef e42 ⊢; simp [execOp, go_sem, *])
        · refine stepG_run hGg hBg hstab rfl ?_
          intro a' w' hg hs hd hb
          have e9 : a'.eval (.tmp 9) = .int .i64 (j : Int) := hs.rest 9 rfl
          have ec : ∀ v, a'.eval (.const v) = v := fun _ => rfl
          have ef : ∀ g, a'.eval (.func g) = .func (.func g) #[] #[] := fun _ => rfl
          clear hd hs
          refine wpv (v := .int .i64 (j : Int)) ?_ ⟨_, rfl, Grow.rfl' _, rfl⟩
          (generalize a'.eval = ev at ec ef e9 ⊢; simp [execOp, go_sem, *])
        · refine stepG_run hGg hBg hstab rfl ?_
          intro a' w' hg hs hd hb
          have e43 : a'.eval (.tmp 43) = .slice (some ⟨bE, oE, none⟩) m2 gq := hd ⟨3, Ground.data⟩ (by simp) rfl rfl
          have e44 : a'.eval (.tmp 44) = .int .i64 (j : Int) := hd ⟨4, Ground.data⟩ (by simp) rfl rfl
          have ec : ∀ v, a'.eval (.const v) = v := fun _ => rfl
          have ef : ∀ g, a'.eval (.func g) = .func (.func g) #[] #[] := fun _ => rfl
          clear hd hs
          refine wpv (v := .pointer (some ⟨bE, oE + j * 3, none⟩)) ?_ ⟨_, rfl, Grow.rfl' _, rfl⟩
          (generalize a'.eval = ev at ec ef e43 e44 ⊢; simp [execOp, go_sem, *])
        · refine stepG_run hGg hBg hstab rfl ?_
          intro a' w' hg hs hd hb
          have e45 : a'.eval (.tmp 45) = .pointer (some ⟨bE, oE + j * 3, none⟩) := hd ⟨5, Ground.data⟩ (by simp) rfl rfl
          have ec : ∀ v, a'.eval (.const v) = v := fun _ => rfl
          have ef : ∀ g, a'.eval (.func g) = .func (.func g) #[] #[] := fun _ => rfl
          have p0 := cell_later (show Bk w w5 wo B w' from hg).g P0.out; have p1 := cell_later (show Bk w w5 wo B w' from hg).g P1.out; have p2 := cell_later (show Bk w w5 wo B w' from hg).g P2.out
          clear hd hs
          refine wpv (v := .agg #[.int .i64 xf, .int .i64 xt, .int .i64 xp]) ?_ ⟨_, rfl, Grow.rfl' _, rfl⟩
          (generalize a'.eval = ev at ec ef e45 ⊢; simp [execOp, go_sem, *])
        · refine stepG_run hGg hBg hstab rfl ?_
          intro a' w' hg hs hd hb
          have e46 : a'.eval (.tmp 46) = .agg #[.int .i64 xf, .int .i64 xt, .int .i64 xp] := hd ⟨6, Ground.data⟩ (by simp) rfl rfl
          have ec : ∀ v, a'.eval (.const v) = v := fun _ => rfl
          have ef : ∀ g, a'.eval (.func g) = .func (.func g) #[] #[] := fun _ => rfl
          clear hd hs
          refine wpv (v := .slice (some ⟨w'.heap.size, 0, none⟩) 1 1) (w' := w'.alloc (.cells #[.int .i64 xf, .int .i64 xt, .int .i64 xp] 50)) ?_ ⟨_, rfl, Grow.alloc' _ _, ⟨_, _, rfl, OwnE.lit1 w' _ (show Bk w w5 wo B w' from hg).b.size ⟨xf, xt, xp⟩, trivial⟩⟩
          (generalize a'.eval = ev at ec ef e46 ⊢; simp [execOp, go_sem, *])
        · refine stepG_take rfl ?_
          intro a' w' hg hs hd hb
          have e41 : a'.eval (.tmp 41) = .slice t k q := hd ⟨1, Ground.data⟩ (by simp) rfl rfl
          obtain ⟨sb47, cb47, e47, h47, t47⟩ : AppE w5.heap.size 1 [⟨xf, xt, xp⟩] (a'.eval (.tmp 47)) w' := hd ⟨7, Ground.data⟩ (by simp) rfl rfl
          have ec : ∀ v, a'.eval (.const v) = v := fun _ => rfl
          have ef : ∀ g, a'.eval (.func g) = .func (.func g) #[] #[] := fun _ => rfl
          clear hd hs
          obtain ⟨s2, c2, w2, hrun, hown, hgr, hlie⟩ := run_apBk HBL.out hw55 hg 27 t k q (revTo E k) [⟨xf, xt, xp⟩] (hb rfl) sb47 1 cb47 h47.is (by omega)
          refine wpv (v := .slice s2 _ c2) (w' := w2) ?_ ⟨_, rfl, hgr.1, ⟨s2, c2, rfl, hown, hlie⟩, ?_, fun h _ => absurd rfl h⟩
          rotate_left
          · intro j u hj h
            match j with
            | 0 => exact h
            | 1 => exact h
            | 2 => exact h
            | 3 => exact h
            | 4 => exact h
            | 5 => exact h
            | 6 => exact h
            | 7 => first | (cases hj; done) | exact AppE.turn hgr.2 (by decide) h
            | 8 => first | (cases hj; done) | exact AppE.turn hgr.2 (by decide) h
            | 9 => exact h
            | j + 10 => exact trivial
          · unfold execOp; simp only [resolve, invoke, builtin, Sem.run_bind, Sem.run_pure, Result.andThen_ok, List.map_toArray, List.map_cons, List.map_nil, e41, e47, hrun]
        · refine stepG_run hGg hBg hstab rfl ?_
          intro a' w' hg hs hd hb
          have e8 : a'.eval (.tmp 8) = .pointer (some ⟨B, 0, none⟩) := hs.rest 8 rfl
          have ec : ∀ v, a'.eval (.const v) = v := fun _ => rfl
          have ef : ∀ g, a'.eval (.func g) = .func (.func g) #[] #[] := fun _ => rfl
          clear hd hs
          refine wpv (v := .pointer (some ⟨B, 1, none⟩)) ?_ ⟨_, rfl, Grow.rfl' _, rfl⟩
          (generalize a'.eval = ev at ec ef e8 ⊢; simp [execOp, go_sem, *])
      · intro a' w' hg hs hd
        have e49 : a'.eval (.tmp 49) = .pointer (some ⟨B, 1, none⟩) := hd 9 (by omega) rfl
        obtain ⟨sc48, cc48, e48, h48, t48⟩ : AppE w5.heap.size (k + 1) (revTo E k ++ [⟨xf, xt, xp⟩]) (a'.eval (.tmp 48)) w' := hd 8 (by omega) rfl
        have ec : ∀ v, a'.eval (.const v) = v := fun _ => rfl
        have ef : ∀ g, a'.eval (.func g) = .func (.func g) #[] #[] := fun _ => rfl
        have hbk := (show Bk w w5 wo B w' from hg)
        have z8 : BoxG w' B ⟨some ⟨bN, oN, none⟩, n2, gc, t, k, q, [], []⟩ := BX.out.keep hbk.h
        refine wp_setE _ _ rfl B ⟨some ⟨bN, oN, none⟩, n2, gc, t, k, q, [], []⟩ sc48 (k + 1) cc48 e49 e48 (BK.out.keep hbk.h) z8 ?_
        intro w6 hbx6 hbk6 hby6
        have G6 := hide (Below.grown hbk.g hby6 hbk.g.size (fun i e => by cases e; exact HWB.out))
        have BY6 := hide (by_trans hbk.b hby6 (fun x e => by cases e; exact .inl rfl))
        have BX6 := hide hbx6
        have BK6 := hide hbk6
        have RO6 : Hid (OwnE w6 w5.heap.size sc48 (k + 1) cc48 (revTo E (k + 1))) := hide (by
          rw [HST.out]
          exact h48.keep fun a ha => hby6.block a.block (h48.lt a ha).1 (fun e => by
            have h1 := (h48.lt a ha).2
            have h2 := HBL.out
            simp at e
            omega))
        clear e49 e48 h48 t48 ec ef hg hbk HGG HBG HG0 HB0 hGg hBg hstab z8 hbx6 hbk6 hby6 GR BY BX BK RO
        rw [frame_eq hs [false, false, false, false, false, false, false, false, false, false, false, false, false, false, false, false, false, false, false, false, false, false, false, false, false, false, false, false, false, false, false, false, false, false, false, false, false, false, false, false, true, true, true, true, true, true, true, true, true, true, false, false, false, false, false, false, false, false, false, false, false, false, false, false, false, false, false, false, false, false, false, false, false, false, false, false, false, false, false, false, false, false, false, false, false, false, false, false, false, false, false, false, false, false, false, false, false, false] (by kernel_rfl)]; simp only [mergeL]; clear hs hd; generalize a'.tmps = TT at *; try go_frame
        go_wp2_with fail
        go_roundg (gk - 1)
        case rel => exact ⟨k + 1, (j : Int) - 1, sc48, cc48, by have := HZ.out; omega, by have := HZ.out; omega, by go_num, G6.out, BY6.out, BX6.out, BK6.out, RO6.out⟩
        case measure => have := HZ.out; omega
    · have hzm : z = -1 := by omega
      have hkm : k = m2 := by omega
      subst hzm
      subst hkm
      have hrv : revTo E k = E.reverse := by rw [← HEl.out]; exact revTo_all E
      have RV : Hid (OwnE wo w5.heap.size t k q E.reverse) := hide (by rw [← hrv]; exact RO.out)
      have KGo := hide (KG5.out.keep (hby.block P KG5.out.lt (fun e => HPB.out (by simpa using e))))
      have HNo : Hid (IsNds wo (some ⟨bN, oN, none⟩) n2 gc N) := hide (HNW.out.later hg)
      have HEo : Hid (IsEds wo gt k gq E) := hide (HEW.out.later hg)
      have HREV := hide (errG_zero.2 ACC.out.rev)
      clear hz hkg hg hby hbx hbk hro hrv RO
      have HGG : ∀ wa wb, Grow wo wa → Grow wa wb → Grow wo wb := fun _ _ h q => Grow.trans' h q
      have HBG : ∀ wa wb, Grow wa wb → True → True := fun _ _ _ h => h
      have HG0 : ∀ w', Grow wo w' → w'.heap = wo.heap → Grow wo w' := fun _ h _ => h
      have HB0 : ∀ w', Grow wo w' → w'.heap = wo.heap → True := fun _ _ _ => trivial
      go_wp2_with fail
      let FF : Nat → Value → World → Prop := fun i vF wF => match i with | 0 => LitN wo.heap.size vF wF | 1 => vF = .pointer (some ⟨P, 0, none⟩) | 2 => vF = .slice (some ⟨bN, oN, none⟩) n2 gc | 3 => AppN wo.heap.size n2 N vF wF | 4 => vF = .pointer (some ⟨P, 1, none⟩) | 5 => vF = .slice gt k gq | 6 => GrNI wo.heap.size n2 N gt k gq vF wF | 7 => NewG wo.heap.size vF wF | _ => True
      let GG : World → Prop := fun w' => Grow wo w'
      let BB : World → Prop := fun w' => True
      have hstab : ∀ k v w1 w2, Grow w1 w2 → FF k v w1 → FF k v w2 := by
        intro k v w1 w2 hg h
        match k with
        | 0 => exact LitN.later hg h
        | 1 => exact h
        | 2 => exact h
        | 3 => exact AppN.later hg h
        | 4 => exact h
        | 5 => exact h
        | 6 => exact GrNI.later hg h
        | 7 => exact NewG.later hg h
        | k + 8 => exact trivial
      have hGg : ∀ w1 w2, GG w1 → Grow w1 w2 → GG w2 := HGG
      have hBg : ∀ w1 w2, Grow w1 w2 → BB w1 → BB w2 := HBG
      refine wp_region_endG FF GG BB (fun i => match i with | 0 => some 3 | _ => none) 999 8 _ rfl rfl rfl (by kernel_rfl) (by kernel_rfl) HG0 HB0 ?_ ?_
      · refine ⟨?_, ?_, ?_, ?_, ?_, ?_, ?_, ?_, trivial⟩
        · refine stepG_run hGg hBg hstab rfl ?_
          intro a' w' hg hs hd hb
          have ec : ∀ v, a'.eval (.const v) = v := fun _ => rfl
          have ef : ∀ g, a'.eval (.func g) = .func (.func g) #[] #[] := fun _ => rfl
          clear hd hs
          refine wpv (v := .slice (some ⟨w'.heap.size, 0, none⟩) 0 0) (w' := w'.alloc (.cells #[] 23)) ?_ ⟨_, rfl, Grow.alloc' _ _, ⟨_, rfl, OwnN.lit0 w' _ (show Grow wo w' from hg).size⟩⟩
          (generalize a'.eval = ev at ec ef ⊢; simp [execOp, go_sem, *])
        · refine stepG_run hGg hBg hstab rfl ?_
          intro a' w' hg hs hd hb
          have e3 : a'.eval (.tmp 3) = .pointer (some ⟨P, 0, none⟩) := hs.rest 3 rfl
          have ec : ∀ v, a'.eval (.const v) = v := fun _ => rfl
          have ef : ∀ g, a'.eval (.func g) = .func (.func g) #[] #[] := fun _ => rfl
          clear hd hs
          refine wpv (v := .pointer (some ⟨P, 0, none⟩)) ?_ ⟨_, rfl, Grow.rfl' _, rfl⟩
          (generalize a'.eval = ev at ec ef e3 ⊢; simp [execOp, go_sem, *])
        · refine stepG_run hGg hBg hstab rfl ?_
          intro a' w' hg hs hd hb
          have e51 : a'.eval (.tmp 51) = .pointer (some ⟨P, 0, none⟩) := hd ⟨1, Ground.data⟩ (by simp) rfl rfl
          have ec : ∀ v, a'.eval (.const v) = v := fun _ => rfl
          have ef : ∀ g, a'.eval (.func g) = .func (.func g) #[] #[] := fun _ => rfl
          obtain ⟨k0, k1⟩ := KGo.out.later hg; dsimp only at k0 k1
          clear hd hs
          refine wpv (v := .slice (some ⟨bN, oN, none⟩) n2 gc) ?_ ⟨_, rfl, Grow.rfl' _, rfl⟩
          (generalize a'.eval = ev at ec ef e51 ⊢; simp [execOp, go_sem, *])
        · refine stepG_run hGg hBg hstab rfl ?_
          intro a' w' hg hs hd hb
          obtain ⟨g50, e50, h50⟩ : LitN wo.heap.size (a'.eval (.tmp 50)) w' := hd ⟨0, Ground.data⟩ (by simp) rfl rfl
          have e52 : a'.eval (.tmp 52) = .slice (some ⟨bN, oN, none⟩) n2 gc := hd ⟨2, Ground.data⟩ (by simp) rfl rfl
          have ec : ∀ v, a'.eval (.const v) = v := fun _ => rfl
          have ef : ∀ g, a'.eval (.func g) = .func (.func g) #[] #[] := fun _ => rfl
          clear hd hs
          obtain ⟨s2, c2, w2, hrun, hown, hgb⟩ := run_ap0_nd w' 26 wo.heap.size g50 N h50 (some ⟨bN, oN, none⟩) n2 gc (HNo.out.later hg) (by omega) (show Grow wo w' from hg).size
          refine wpv (v := .slice s2 _ c2) (w' := w2) ?_ ⟨_, rfl, hgb, ⟨s2, c2, rfl, hown, trivial⟩⟩
          unfold execOp; simp only [resolve, invoke, builtin, Sem.run_bind, Sem.run_pure, Result.andThen_ok, List.map_toArray, List.map_cons, List.map_nil, e50, e52, hrun]
        · refine stepG_run hGg hBg hstab rfl ?_
          intro a' w' hg hs hd hb
          have e3 : a'.eval (.tmp 3) = .pointer (some ⟨P, 0, none⟩) := hs.rest 3 rfl
          have ec : ∀ v, a'.eval (.const v) = v := fun _ => rfl
          have ef : ∀ g, a'.eval (.func g) = .func (.func g) #[] #[] := fun _ => rfl
          clear hd hs
          refine wpv (v := .pointer (some ⟨P, 1, none⟩)) ?_ ⟨_, rfl, Grow.rfl' _, rfl⟩
          (generalize a'.eval = ev at ec ef e3 ⊢; simp [execOp, go_sem, *])
        · refine stepG_run hGg hBg hstab rfl ?_
          intro a' w' hg hs hd hb
          have e54 : a'.eval (.tmp 54) = .pointer (some ⟨P, 1, none⟩) := hd ⟨4, Ground.data⟩ (by simp) rfl rfl
          have ec : ∀ v, a'.eval (.const v) = v := fun _ => rfl
          have ef : ∀ g, a'.eval (.func g) = .func (.func g) #[] #[] := fun _ => rfl
          obtain ⟨k0, k1⟩ := KGo.out.later hg; dsimp only at k0 k1
          clear hd hs
          refine wpv (v := .slice gt k gq) ?_ ⟨_, rfl, Grow.rfl' _, rfl⟩
          (generalize a'.eval = ev at ec ef e54 ⊢; simp [execOp, go_sem, *])
        · refine stepG_run hGg hBg hstab rfl ?_
          intro a' w' hg hs hd hb
          obtain ⟨sa53, ca53, e53, h53, t53⟩ : AppN wo.heap.size n2 N (a'.eval (.tmp 53)) w' := hd ⟨3, Ground.data⟩ (by simp) rfl rfl
          have e55 : a'.eval (.tmp 55) = .slice gt k gq := hd ⟨5, Ground.data⟩ (by simp) rfl rfl
          have ec : ∀ v, a'.eval (.const v) = v := fun _ => rfl
          have ef : ∀ g, a'.eval (.func g) = .func (.func g) #[] #[] := fun _ => rfl
          clear hd hs
          skip
          refine wpv (v := .agg #[.slice sa53 n2 ca53, .slice gt k gq]) ?_ ⟨_, rfl, Grow.rfl' _, ⟨_, _, rfl, h53⟩⟩
          (generalize a'.eval = ev at ec ef e53 e55 ⊢; simp [execOp, go_sem, *])
        · refine stepG_run hGg hBg hstab rfl ?_
          intro a' w' hg hs hd hb
          have ec : ∀ v, a'.eval (.const v) = v := fun _ => rfl
          have ef : ∀ g, a'.eval (.func g) = .func (.func g) #[] #[] := fun _ => rfl
          clear hd hs
          refine wpv (v := .pointer (some ⟨w'.heap.size, 0, none⟩)) (w' := w'.alloc (.cells #[.slice none 0 0, .slice none 0 0] 29)) ?_ ⟨_, rfl, Grow.alloc' _ _, ⟨_, rfl, BlkG.new w' _ _, (show Grow wo w' from hg).size⟩⟩
          (generalize a'.eval = ev at ec ef ⊢; simp [execOp, go_sem, *])
      · intro a' w' hg hs hd
        obtain ⟨b10, e10, hk10, hb10⟩ : NewG wo.heap.size (a'.eval (.tmp 10)) w' := hd 7 (by omega) rfl
        obtain ⟨s56, c56, e56, hn56⟩ : GrNI wo.heap.size n2 N gt k gq (a'.eval (.tmp 56)) w' := hd 6 (by omega) rfl
        have ec : ∀ v, a'.eval (.const v) = v := fun _ => rfl
        have ef : ∀ g, a'.eval (.func g) = .func (.func g) #[] #[] := fun _ => rfl
        refine wp_store_gr _ _ rfl (g := ⟨s56, n2, c56, gt, k, gq, [], []⟩) e10 e56 hk10 wo hg hb10 ?_
        intro w6 hg6 hbx6 hbk6 hoth6
        have z10 : a'.tmps.getD 10 undef = .pointer (some ⟨b10, 0, none⟩) := e10
        have NE10 := hide (hn56.neG hk10)
        have ON6 := hide (hn56.keep fun a ha => hoth6 _ (hn56.neG hk10 a ha))
        have G6 := hide hg6
        have BX6 := hide hbx6
        clear e10 e56 hk10 hb10 hn56 ec ef hg HGG HBG HG0 HB0 hGg hBg hstab hg6 hbk6 hoth6 hbx6
        rw [frame_eq hs [false, false, false, false, false, false, false, false, false, false, true, false, false, false, false, false, false, false, false, false, false, false, false, false, false, false, false, false, false, false, false, false, false, false, false, false, false, false, false, false, false, false, false, false, false, false, false, false, false, false, true, true, true, true, true, true, true, false, false, false, false, false, false, false, false, false, false, false, false, false, false, false, false, false, false, false, false, false, false, false, false, false, false, false, false, false, false, false, false, false, false, false, false, false, false, false, false, false] (by kernel_rfl)]; simp only [mergeL, z10]; clear hs hd z10; generalize a'.tmps = TT at *; try go_frame
        have hniN : ni < N.length := by rw [HNl.out]; exact hni
        obtain ⟨sg, hsg⟩ := ON6.out.some4 (by omega)
        subst hsg
        have hsz6 : ∃ cs t, w6.heap[sg]? = some (.cells cs t (0, 0)) ∧ n2 * 4 ≤ cs.size := ON6.out.room
        have HSZ := hide hsz6
        have hlo := ON6.out.lt _ rfl
        have HLO := hide hlo
        have hrow6 := (ON6.out.is.2.2.resolve_left (fun h => by rw [h] at hniN; simp at hniN))
        obtain ⟨b', o', he', hr'⟩ := hrow6
        obtain ⟨rfl, rfl⟩ : sg = b' ∧ 0 = o' := by simpa using he'
        obtain ⟨f0, f1, f2, f3⟩ := hr'.at ni hniN
        rw [Nat.zero_add] at f0 f1 f2 f3
        have F0 := hide f0
        have F1 := hide f1
        have F2 := hide f2
        have F3 := hide f3
        have HNI := hide hniN
        obtain ⟨x0, x1⟩ := BX6.out
        dsimp only at x0 x1
        clear he' hr' hsz6 hlo f0 f1 f2 f3
        have hneB : ¬ B = sg := by
          have h1 := HLO.out.2
          have h2 := BX.out.lt
          dsimp only at h1
          omega
        have hne10 : ¬ b10 = sg := fun h => NE10.out _ rfl h.symm
        obtain ⟨y0, y1⟩ := BX.out.later G6.out
        dsimp only at y0 y1
        rcases hk4 with rfl | rfl | rfl | rfl
        · have UPD : Hid (IsNds (w6.setCell ⟨sg, ni * 4, none⟩ (.int .i64 12)) (some ⟨sg, 0, none⟩) n2 c56 (N.set ni ⟨12, N[ni].a, N[ni].b, N[ni].d⟩)) := hide (ON6.out.is.upd hniN 0 (by decide) 12 (fun j hj => by
            have : j = 0 ∨ j = 1 ∨ j = 2 ∨ j = 3 := by omega
            rcases this with rfl | rfl | rfl | rfl <;> (simp [encN]; try rfl)) HSZ.out)
          have SP := hide (ACC.out.spoil ni hniN ⟨12, N[ni].a, N[ni].b, N[ni].d⟩ (bad_kind N[ni]))
          have G7 : Hid (Grow wo (w6.setCell ⟨sg, ni * 4, none⟩ (.int .i64 12))) := hide (Below.setCell (p := ⟨sg, ni * 4, none⟩) G6.out (by have := HLO.out.2; exact this) _)
          have BX7 := hide (BX6.out.keep (heap_setCell_other w6 ⟨sg, ni * 4, none⟩ b10 (.int .i64 12) (fun e => hne10 e)))
          have f0 := F0.out
          have fr := World.ownsRow.frozenAt ON6.out.2.1 (ni * 4)
          have C8 := hide (graph_raw (some ⟨bN, oN, none⟩) n2 gc t k q N E.reverse (w6.setCell ⟨sg, ni * 4, none⟩ (.int .i64 12)) (by omega) (by omega) (HNo.out.later G7.out) (RV.out.later G7.out).is HREV.out)
          have HEb := hide (HEo.out.later G7.out)
          go_wp2_with fail
          refine C8.out.mono ?_
          rintro _ w8 ⟨rfl, hb⟩
          have C9 := hide (graph_raw (some ⟨sg, 0, none⟩) n2 c56 gt k gq (N.set ni ⟨12, N[ni].a, N[ni].b, N[ni].d⟩) E w8 (by omega) (by omega) (UPD.out.later hb) (HEb.out.later hb) SP.out)
          have G8 := hide (Grow.trans' GR.out (Grow.trans' G7.out hb))
          obtain ⟨b0, b1⟩ := BX7.out.later hb
          dsimp only at b0 b1
          clear hb x0 x1 y0 y1 f0 fr C8
          go_wp2_with fail
          refine C9.out.mono ?_
          rintro _ w9 ⟨rfl, hb⟩
          have G9 := hide (Grow.trans' G8.out hb)
          clear hb b0 b1 C9
          go_wp2_with fail
          go_ret
          exact ⟨rfl, G9.out⟩
        · have UPD : Hid (IsNds (w6.setCell ⟨sg, ni * 4 + 3, none⟩ (.int .i64 4)) (some ⟨sg, 0, none⟩) n2 c56 (N.set ni ⟨N[ni].k, N[ni].a, N[ni].b, 4⟩)) := hide (ON6.out.is.upd hniN 3 (by decide) 4 (fun j hj => by
            have : j = 0 ∨ j = 1 ∨ j = 2 ∨ j = 3 := by omega
            rcases this with rfl | rfl | rfl | rfl <;> (simp [encN]; try rfl)) HSZ.out)
          have SP := hide (ACC.out.spoil ni hniN ⟨N[ni].k, N[ni].a, N[ni].b, 4⟩ (bad_depth N[ni]))
          have G7 : Hid (Grow wo (w6.setCell ⟨sg, ni * 4 + 3, none⟩ (.int .i64 4))) := hide (Below.setCell (p := ⟨sg, ni * 4 + 3, none⟩) G6.out (by have := HLO.out.2; exact this) _)
          have BX7 := hide (BX6.out.keep (heap_setCell_other w6 ⟨sg, ni * 4 + 3, none⟩ b10 (.int .i64 4) (fun e => hne10 e)))
          have f3 := F3.out
          have fr := World.ownsRow.frozenAt ON6.out.2.1 (ni * 4 + 3)
          have C8 := hide (graph_raw (some ⟨bN, oN, none⟩) n2 gc t k q N E.reverse (w6.setCell ⟨sg, ni * 4 + 3, none⟩ (.int .i64 4)) (by omega) (by omega) (HNo.out.later G7.out) (RV.out.later G7.out).is HREV.out)
          have HEb := hide (HEo.out.later G7.out)
          go_wp2_with fail
          refine C8.out.mono ?_
          rintro _ w8 ⟨rfl, hb⟩
          have C9 := hide (graph_raw (some ⟨sg, 0, none⟩) n2 c56 gt k gq (N.set ni ⟨N[ni].k, N[ni].a, N[ni].b, 4⟩) E w8 (by omega) (by omega) (UPD.out.later hb) (HEb.out.later hb) SP.out)
          have G8 := hide (Grow.trans' GR.out (Grow.trans' G7.out hb))
          obtain ⟨b0, b1⟩ := BX7.out.later hb
          dsimp only at b0 b1
          clear hb x0 x1 y0 y1 f3 fr C8
          go_wp2_with fail
          refine C9.out.mono ?_
          rintro _ w9 ⟨rfl, hb⟩
          have G9 := hide (Grow.trans' G8.out hb)
          clear hb b0 b1 C9
          go_wp2_with fail
          go_ret
          exact ⟨rfl, G9.out⟩
        · have UPD : Hid (IsNds (w6.setCell ⟨sg, ni * 4 + 1, none⟩ (.int .i64 5000)) (some ⟨sg, 0, none⟩) n2 c56 (N.set ni ⟨N[ni].k, 5000, N[ni].b, N[ni].d⟩)) := hide (ON6.out.is.upd hniN 1 (by decide) 5000 (fun j hj => by
            have : j = 0 ∨ j = 1 ∨ j = 2 ∨ j = 3 := by omega
            rcases this with rfl | rfl | rfl | rfl <;> (simp [encN]; try rfl)) HSZ.out)
          have SP := hide (ACC.out.spoil ni hniN ⟨N[ni].k, 5000, N[ni].b, N[ni].d⟩ (bad_a N[ni]))
          have G7 : Hid (Grow wo (w6.setCell ⟨sg, ni * 4 + 1, none⟩ (.int .i64 5000))) := hide (Below.setCell (p := ⟨sg, ni * 4 + 1, none⟩) G6.out (by have := HLO.out.2; exact this) _)
          have BX7 := hide (BX6.out.keep (heap_setCell_other w6 ⟨sg, ni * 4 + 1, none⟩ b10 (.int .i64 5000) (fun e => hne10 e)))
          have f1 := F1.out
          have fr := World.ownsRow.frozenAt ON6.out.2.1 (ni * 4 + 1)
          have C8 := hide (graph_raw (some ⟨bN, oN, none⟩) n2 gc t k q N E.reverse (w6.setCell ⟨sg, ni * 4 + 1, none⟩ (.int .i64 5000)) (by omega) (by omega) (HNo.out.later G7.out) (RV.out.later G7.out).is HREV.out)
          have HEb := hide (HEo.out.later G7.out)
          go_wp2_with fail
          refine C8.out.mono ?_
          rintro _ w8 ⟨rfl, hb⟩
          have C9 := hide (graph_raw (some ⟨sg, 0, none⟩) n2 c56 gt k gq (N.set ni ⟨N[ni].k, 5000, N[ni].b, N[ni].d⟩) E w8 (by omega) (by omega) (UPD.out.later hb) (HEb.out.later hb) SP.out)
          have G8 := hide (Grow.trans' GR.out (Grow.trans' G7.out hb))
          obtain ⟨b0, b1⟩ := BX7.out.later hb
          dsimp only at b0 b1
          clear hb x0 x1 y0 y1 f1 fr C8
          go_wp2_with fail
          refine C9.out.mono ?_
          rintro _ w9 ⟨rfl, hb⟩
          have G9 := hide (Grow.trans' G8.out hb)
          clear hb b0 b1 C9
          go_wp2_with fail
          go_ret
          exact ⟨rfl, G9.out⟩
        · have UPD : Hid (IsNds (w6.setCell ⟨sg, ni * 4 + 2, none⟩ (.int .i64 5000)) (some ⟨sg, 0, none⟩) n2 c56 (N.set ni ⟨N[ni].k, N[ni].a, 5000, N[ni].d⟩)) := hide (ON6.out.is.upd hniN 2 (by decide) 5000 (fun j hj => by
            have : j = 0 ∨ j = 1 ∨ j = 2 ∨ j = 3 := by omega
            rcases this with rfl | rfl | rfl | rfl <;> (simp [encN]; try rfl)) HSZ.out)
          have SP := hide (ACC.out.spoil ni hniN ⟨N[ni].k, N[ni].a, 5000, N[ni].d⟩ (bad_b N[ni]))
          have G7 : Hid (Grow wo (w6.setCell ⟨sg, ni * 4 + 2, none⟩ (.int .i64 5000))) := hide (Below.setCell (p := ⟨sg, ni * 4 + 2, none⟩) G6.out (by have := HLO.out.2; exact this) _)
          have BX7 := hide (BX6.out.keep (heap_setCell_other w6 ⟨sg, ni * 4 + 2, none⟩ b10 (.int .i64 5000) (fun e => hne10 e)))
          have f2 := F2.out
          have fr := World.ownsRow.frozenAt ON6.out.2.1 (ni * 4 + 2)
          have C8 := hide (graph_raw (some ⟨bN, oN, none⟩) n2 gc t k q N E.reverse (w6.setCell ⟨sg, ni * 4 + 2, none⟩ (.int .i64 5000)) (by omega) (by omega) (HNo.out.later G7.out) (RV.out.later G7.out).is HREV.out)
          have HEb := hide (HEo.out.later G7.out)
          go_wp2_with fail
          refine C8.out.mono ?_
          rintro _ w8 ⟨rfl, hb⟩
          have C9 := hide (graph_raw (some ⟨sg, 0, none⟩) n2 c56 gt k gq (N.set ni ⟨N[ni].k, N[ni].a, 5000, N[ni].d⟩) E w8 (by omega) (by omega) (UPD.out.later hb) (HEb.out.later hb) SP.out)
          have G8 := hide (Grow.trans' GR.out (Grow.trans' G7.out hb))
          obtain ⟨b0, b1⟩ := BX7.out.later hb
          dsimp only at b0 b1
          clear hb x0 x1 y0 y1 f2 fr C8
          go_wp2_with fail
          refine C9.out.mono ?_
          rintro _ w9 ⟨rfl, hb⟩
          have G9 := hide (Grow.trans' G8.out hb)
          clear hb b0 b1 C9
          go_wp2_with fail
          go_ret
          exact ⟨rfl, G9.out⟩
theorem ValidNumbers_any (g : GA) (node which : Int) (w : World) (hg : IsG w g) :
    Calls Try.prog 8 #[.agg #[.slice g.s g.n g.c, .slice g.t g.m g.q], .int .i64 node, .int .i64 which] w fun r w' => r = .returned (.bool true) ∧ Grow w w' := by
  obtain ⟨k, hk, hb⟩ := and3 which
  have h4 : (k : Int) = 0 ∨ (k : Int) = 1 ∨ (k : Int) = 2 ∨ (k : Int) = 3 := by omega
  exact numbers_raw g.s g.n g.c g.t g.m g.q g.N g.E node which (k : Int) h4 hb w hg.nodes hg.edges

set_option maxRecDepth 100000 in
theorem ValidNumbers_lifted (os : Os) (started : os.Started) (H : Type) (enc : TypeId × Value → H) :
    ReturnsInHanded {} Try.checked os 8 .any (Rows.validNumbersSpec.pre6 enc Try.prog Try.f8 Rows.validNumbersRow.domain false) (Rows.validNumbersSpec.post enc Try.prog Try.f8 false true false false) := by
  refine returnsInHanded_of_change (C := Try.checked) own started (by kernel_rfl) Try.func8
    (ChangeSpec.witness6 (enc := enc) (C := Try.checked) false ⟨#[], #[.agg #[.slice none 0 0, .slice none 0 0], .int .i64 0, .int .i64 0], []⟩ 8 (by kernel_rfl) (by kernel_rfl) (by kernel_rfl) (by kernel_rfl)) ?_
  intro W base args ds gs before hval0 hW hcnd _
  have hval : ∀ (j : Nat) t v, Try.f8.params[j]? = some t → args[j]? = some v → Value.okWide Try.prog W .any base t v := hval0
  have hW' := hW
  obtain ⟨p, q, hA0, hV, rfl, hfz, hnd⟩ := hW
  have hA : DataW.TrodAll enc Try.prog W 0 (fun _ => true) true Try.f8.params.toList args.toList ds p := hA0
  rw [Try.params8] at hA hval
  obtain ⟨v0, vs0, d0, ds0, p0, q0, hargs, rfl, rfl, h0, r0⟩ := trodAll_cons hA
  obtain ⟨v1, vs1, d1, ds1, p1, q1, rfl, rfl, rfl, h1, r1⟩ := trodAll_cons r0
  obtain ⟨v2, vs2, d2, ds2, p2, q2, rfl, rfl, rfl, h2, r2⟩ := trodAll_cons r1
  obtain ⟨rfl, rfl, rfl⟩ := trodAll_nil r2
  obtain rfl : args = #[v0, v1, v2] := by cases args; simp_all
  obtain ⟨rfl, rfl⟩ := trodVars_none hV
  have k0 := h0
  have lt0 : ∀ x ∈ p0, x.block < W.heap.size := by obtain ⟨m, hm⟩ := k0; exact DataW.trod_lt m _ _ _ hm
  obtain ⟨t0, rfl, w0⟩ := open_gr (hval 0 29 v0 rfl rfl) h0
  obtain ⟨a1, rfl, rfl, rfl, w1⟩ := open_int Try.underlying3 (hval 1 3 v1 rfl rfl) h1
  obtain ⟨a2, rfl, rfl, rfl, w2⟩ := open_int Try.underlying3 (hval 2 3 v2 rfl rfl) h2
  clear hA0 hval0
  refine (ValidNumbers_any t0 a1 a2 W w0).mono fun e W' ⟨he, bel⟩ => ?_
  subst he
  exact ⟨_, rfl, _, _, _, [], _, [], hW', trodAll_mk1 (shut_bool Try.underlying4 _), (trodAll_cons_mk (Below.trod laidOut (by kernel_rfl) (of_decide_eq_true (by kernel_rfl)) k0 bel lt0) (trodAll_cons_mk (shut_int Try.underlying3 w1) (trodAll_cons_mk (shut_int Try.underlying3 w2) trodAll_mk0))), rfl, bel.frame _, fun h => by cases h⟩

/-- The given statement. -/
theorem ValidNumbers_holds : Rows.ValidNumbersSaid :=
  OpenClaim.holds_of_wide 8 Try.f8 rfl rfl rfl rfl rfl rfl rfl ⟨rfl, rfl, rfl, rfl, rfl⟩ rfl rfl rfl rfl rfl (by kernel_rfl) Try.func8 (by kernel_rfl)
    (of_decide_eq_true (by kernel_rfl)) (by unfold Func.isWrapper; first | (rw [if_pos (by decide +kernel)]; kernel_rfl) | (rw [if_neg (by decide +kernel)]; exact ⟨rfl, rfl⟩))
    (fun os started H enc _ => ValidNumbers_lifted os started H enc)


end Go.Proofs.Ytdgmfjaldicmgaa
