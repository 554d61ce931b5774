/-
  GraphBack: for every graph (its first 20 nodes and 40 edges): an edge leads where Next tells, and comes from where Prev does; the places are in order, each once, and each is one; there are as many as the nodes have inputs and outputs; the call returns true and leaves its argument as it was. No conditions.
-/
import Derived.Test.YtjpaclcpebpcjaaHHd
import Derived.Test.YtjpaclcpebpcjaaHNx
import Derived.Lib.QuietBelow
namespace Go.Proofs.Ytjpaclcpebpcjaa
set_option maxRecDepth 100000
open Go.ChangeShapes Go.WideShapes Go.ChangeAt Go.RowKit Go.Deep Go.Sort
set_option linter.unusedVariables false
set_option linter.unusedSimpArgs false
attribute [local go_sem ↓] eqLc

/-- Is x among the first i? -/
def inTo {α : Type} [DecidableEq α] (O : List α) (x : α) (i : Nat) : Bool := decide (x ∈ O.take i)
theorem inTo_zero {α : Type} [DecidableEq α] (O : List α) (x : α) : inTo O x 0 = false := by simp [inTo]
theorem inTo_step {α : Type} [DecidableEq α] (O : List α) (x : α) (i : Nat) (h : i < O.length) : inTo O x (i + 1) = (inTo O x i || decide (O[i] = x)) := by
  unfold inTo
  rw [← List.take_append_getElem h, Bool.eq_iff_iff]
  simp only [Bool.or_eq_true, decide_eq_true_eq, List.mem_append, List.mem_singleton]
  rw [eq_comm (a := x)]
theorem inTo_all {α : Type} [DecidableEq α] (O : List α) (x : α) (h : x ∈ O) (n : Nat) (hn : O.length = n) : inTo O x n = true := by
  unfold inTo
  rw [List.take_of_length_le (by omega)]
  simpa using h
set_option maxHeartbeats 16000000 in
theorem back_raw (gs : Option Addr) (gn gc : Nat) (gt : Option Addr) (gm gq : Nat) (N0 : List Nd) (E0 : List Ed) (w : World) (hN : IsNds w gs gn gc N0) (hE : IsEds w gt gm gq E0) :
    Calls Try.prog 5 #[.agg #[.slice gs gn gc, .slice gt gm gq]] w fun r w' => r = .returned (.bool true) ∧ Grow w w' := by
  have HN0 := hide (hN.cut 20)
  have HE0 := hide (hE.cut 40)
  have CF := hide (fun w => few_raw gs gn gc gt gm gq w hN.2.1 hE.2.1)
  have hn2' := cutN_le 20 gn
  have hm2' := cutN_le 40 gm
  obtain ⟨n2, hn2⟩ : ∃ n2, cutN 20 gn = n2 := ⟨_, rfl⟩
  obtain ⟨m2, hm2⟩ : ∃ m2, cutN 40 gm = m2 := ⟨_, rfl⟩
  obtain ⟨N, hNN⟩ : ∃ N, N0.take 20 = N := ⟨_, rfl⟩
  obtain ⟨E, hEE⟩ : ∃ E, E0.take 40 = E := ⟨_, rfl⟩
  rw [hn2] at HN0 CF hn2'
  rw [hm2] at HE0 CF hm2'
  rw [hNN] at HN0
  rw [hEE] at HE0
  clear hN hE hn2 hm2 hNN hEE
  have hn3 : n2 ≤ 20 := by omega
  have hm3 : m2 ≤ 40 := by omega
  have GG : Hid (Grow w (w.alloc (.cells #[.slice gs gn gc, .slice gt gm gq] 39))) := hide (Grow.alloc' _ _)
  have KG : Hid (BoxG (w.alloc (.cells #[.slice gs gn gc, .slice gt gm gq] 39)) w.heap.size ⟨gs, gn, gc, gt, gm, gq, [], []⟩) := hide (BoxG.new w ⟨gs, gn, gc, gt, gm, gq, [], []⟩)
  have KB : Hid (BlkG (w.alloc (.cells #[.slice gs gn gc, .slice gt gm gq] 39)) w.heap.size) := hide (BlkG.new w _ _)
  clear hn2' hm2'
  go_enter Try.func5, Try.ntmps5
  go_wp2_with fail
  generalize (w.alloc (.cells #[.slice gs gn gc, .slice gt gm gq] 39)) = w0 at *
  refine (shown_any _).mono ?_
  rintro _ w1 ⟨rfl, hb⟩
  have G1 := hide (Grow.trans' GG.out hb)
  have KB1 := hide (KB.out.later hb)
  obtain ⟨g0, g1⟩ := KG.out.later hb
  dsimp only at g0 g1
  clear hb KG KB GG
  go_wp2_with fail
  refine (CF.out _).mono ?_
  rintro _ w2 ⟨rfl, hb⟩
  have G2 := hide (Grow.trans' G1.out hb)
  have KB2 := hide (KB1.out.later hb)
  clear hb KB1 G1 g0 g1 CF
  go_wp2_with (refine wpList_putG rfl _ _ rfl w.heap.size ⟨gs, n2, gc, gt, m2, gq, [], []⟩ rfl rfl KB2.out w G2.out (Nat.le_refl _) ?_)
  intro w3 hg3 hb3 hoth hsame
  have G3 := hide hg3
  have KG3 := hide hb3
  have HN := hide (HN0.out.later hg3)
  have HE := hide (HE0.out.later hg3)
  obtain ⟨g0, g1⟩ := hb3
  dsimp only at g0 g1
  clear hg3 hoth hsame KB2 G2 HN0 HE0
  generalize w.heap.size = P at *
  go_wp2_with fail
  clear g0 g1
  go_loopw [5] (fun i wr => ∃ k : Nat, k ≤ m2 ∧ i = .int .i64 k ∧ Grow w3 wr) (fun i _ => m2 - (intOf i).toNat)
  case atStart => exact ⟨0, Nat.zero_le _, rfl, Grow.rfl' _⟩
  case round =>
    obtain ⟨k, hk, rfl, hg⟩ := hrel
    have HG := hide hg
    have KG4 := hide (KG3.out.later hg)
    obtain ⟨g0, g1⟩ := KG4.out
    dsimp only at g0 g1
    by_cases hlt : k < m2
    · have hkd : k < E.length := by rw [HE.out.1]; exact hlt
      have hne : ¬ E = [] := fun h => by rw [h] at hkd; simp at hkd
      obtain ⟨b, o, rfl, hr1⟩ := HE.out.2.2.resolve_left hne
      obtain ⟨p0, p1, p2⟩ := (hr1.later hg).at k hkd
      have hmem : E[k] ∈ E := List.getElem_mem hkd
      have H1 := hide (next_has E _ hmem)
      have H2 := hide (prev_has E _ hmem)
      obtain ⟨x, hx⟩ : ∃ x, x = E[k] := ⟨_, rfl⟩
      rw [← hx] at p0 p1 p2 H1 H2
      have hi1 : (0 : Int) ≤ (k : Int) := by omega
      have hi2 : (k : Int) < (m2 : Int) := by omega
      clear hne hr1 hx hkd hg hmem
      go_wp2_with (refine wpList_putE rfl _ _ rfl wr.heap.size x rfl rfl ⟨_, (MapKept.heap_alloc wr _).1, rfl⟩ wr (Grow.alloc' _ _) (Nat.le_refl _) ?_)
      intro w4 hg4 hb4
      have G4 := hide (Grow.trans' HG.out hg4)
      have KE4 := hide hb4
      have KG5 := hide (KG4.out.later hg4)
      clear p0 p1 p2 g0 g1 hg4 HG KG4
      generalize wr.heap.size = rb at *
      obtain ⟨q0, q1, q2⟩ := hb4
      obtain ⟨g0, g1⟩ := KG5.out
      obtain ⟨xf, xt, xp⟩ := x
      dsimp only at q0 q1 q2 H1 H2 KE4 g0 g1
      have C1 := hide (next_raw gs n2 gc (some ⟨b, o, none⟩) m2 gq E xf w4 hm3 (HE.out.later G4.out))
      obtain ⟨O, hO⟩ : ∃ O, O = nextP E xf := ⟨_, rfl⟩
      have hOl := nextP_len E xf
      rw [HE.out.1, ← hO] at hOl
      rw [← hO] at H1 C1
      clear hO
      go_wp2_with fail
      refine C1.out.mono ?_
      rintro _ w5 ⟨s1, n1, c1, rfl, hb, hO1⟩
      have G5 := hide (Grow.trans' G4.out hb)
      have KE5 := hide (KE4.out.later hb)
      have KG6 := hide (KG5.out.later hb)
      have I5 := hide hO1.is
      have HL1 : Hid (O.length = n1) := hide hO1.1
      clear q0 q1 q2 g0 g1 hb hO1 G4 KE4 KG5 C1
      obtain ⟨q0, q1, q2⟩ := KE5.out
      obtain ⟨g0, g1⟩ := KG6.out
      dsimp only at q0 q1 q2 g0 g1
      have C2 := hide (prev_raw gs n2 gc (some ⟨b, o, none⟩) m2 gq E xt xp w5 hm3 (HE.out.later G5.out))
      obtain ⟨U, hU⟩ : ∃ U, U = prevP E ⟨xt, xp⟩ := ⟨_, rfl⟩
      have hUl := prevP_len E ⟨xt, xp⟩
      rw [HE.out.1, ← hU] at hUl
      rw [← hU] at H2 C2
      clear hU
      go_wp2_with fail
      refine C2.out.mono ?_
      rintro _ w6 ⟨s2, r2, c2, rfl, hb, hO2⟩
      have G6 := hide (Grow.trans' G5.out hb)
      have KE6 := hide (KE5.out.later hb)
      have I6 := hide (I5.out.later hb)
      have J6 := hide hO2.is
      have HL2 : Hid (U.length = r2) := hide hO2.1
      have hn1 : n1 ≤ 40 := by rw [← HL1.out]; omega
      have hr2 : r2 ≤ 40 := by rw [← HL2.out]; omega
      clear q0 q1 q2 g0 g1 hb hO2 G5 KE5 KG6 I5 C2 hOl hUl
      have A1 := hide (inTo_all O ⟨xt, xp⟩ H1.out n1 HL1.out)
      have A2 := hide (inTo_all U xf H2.out r2 HL2.out)
      go_wp2_with fail
      go_loopw [9, 10] (fun v i wq => ∃ j : Nat, j ≤ n1 ∧ v = .bool (inTo O ⟨xt, xp⟩ j) ∧ i = .int .i64 j ∧ Grow w6 wq) (fun _ i _ => n1 - (intOf i).toNat)
      case atStart => exact ⟨0, Nat.zero_le _, by rw [inTo_zero], rfl, Grow.rfl' _⟩
      case round =>
        obtain ⟨j, hj, rfl, rfl, hq⟩ := hrel
        have HQ := hide hq
        by_cases hjz : j < n1
        · have hjd : j < O.length := by rw [HL1.out]; exact hjz
          have hne : ¬ O = [] := fun h => by rw [h] at hjd; simp at hjd
          obtain ⟨b1, o1, rfl, hr1⟩ := I6.out.2.2.resolve_left hne
          obtain ⟨p0, p1⟩ := (hr1.later hq).at j hjd
          obtain ⟨q0, q1, q2⟩ := KE6.out.later hq
          have HS := hide (inTo_step O ⟨xt, xp⟩ j hjd)
          obtain ⟨y, hy⟩ : ∃ y, y = O[j] := ⟨_, rfl⟩
          rw [← hy] at p0 p1 HS
          obtain ⟨yn, yp⟩ := y
          obtain ⟨v, hv⟩ : ∃ v, inTo O ⟨xt, xp⟩ j = v := ⟨_, rfl⟩
          rw [hv] at HS
          rw [hv]
          dsimp only at p0 p1 q0 q1 q2
          have hj1 : (0 : Int) ≤ (j : Int) := by omega
          have hj2 : (j : Int) < (n1 : Int) := by omega
          clear hne hr1 hy hq hv hjd
          have hcv : v = true ∨ (v = false ∧ eqL ⟨yn, yp⟩ ⟨xt, xp⟩ = true) ∨ (v = false ∧ eqL ⟨yn, yp⟩ ⟨xt, xp⟩ = false) := by cases v <;> cases eqL ⟨yn, yp⟩ ⟨xt, xp⟩ <;> simp
          rcases hcv with rfl | ⟨rfl, he⟩ | ⟨rfl, he⟩
          · have HT : Hid (inTo O ⟨xt, xp⟩ (j + 1) = true) := hide (by rw [HS.out]; rfl)
            clear HS
            go_wp2_with fail
            go_quiet (fail)
            have HQ2 := hide (Grow.trans' HQ.out (below_drewN (Below.refl _ _) nq))
            clear p0 p1 q0 q1 q2 HQ
            generalize wr.drewN nq = wz at *
            go_wp2_with fail
            go_roundw
            case rel => exact ⟨j + 1, by omega, by rw [HT.out], by go_num, HQ2.out⟩
            case measure => simp [intOf]; omega
          · have HT : Hid (inTo O ⟨xt, xp⟩ (j + 1) = true) := hide (by rw [HS.out]; rw [Bool.false_or]; exact decide_eq_true ((eqL_iff _ _).1 he))
            clear HS
            go_wp2_with fail
            go_quiet (fail)
            have HQ2 := hide (Grow.trans' HQ.out (below_drewN (Below.refl _ _) nq))
            clear p0 p1 q0 q1 q2 HQ
            generalize wr.drewN nq = wz at *
            go_wp2_with fail
            go_roundw
            case rel => exact ⟨j + 1, by omega, by rw [HT.out], by go_num, HQ2.out⟩
            case measure => simp [intOf]; omega
          · have HT : Hid (inTo O ⟨xt, xp⟩ (j + 1) = false) := hide (by rw [HS.out]; rw [Bool.false_or]; exact decide_eq_false (fun h => by rw [(eqL_iff _ _).2 h] at he; cases he))
            clear HS
            go_wp2_with fail
            go_quiet (fail)
            have HQ2 := hide (Grow.trans' HQ.out (below_drewN (Below.refl _ _) nq))
            clear p0 p1 q0 q1 q2 HQ
            generalize wr.drewN nq = wz at *
            go_wp2_with fail
            go_roundw
            case rel => exact ⟨j + 1, by omega, by rw [HT.out], by go_num, HQ2.out⟩
            case measure => simp [intOf]; omega
        · have hj2 : ¬ (j : Int) < (n1 : Int) := by omega
          have hjn : j = n1 := by omega
          subst hjn
          rw [A1.out]
          have G7 := hide (Grow.trans' G6.out hq)
          have KE7 := hide (KE6.out.later hq)
          have J7 := hide (J6.out.later hq)
          clear HQ hq G6 KE6 I6 J6
          go_wp2_with fail
          rename World => w7
          go_loopw [11, 12] (fun v i wq => ∃ l : Nat, l ≤ r2 ∧ v = .bool (inTo U xf l) ∧ i = .int .i64 l ∧ Grow w7 wq) (fun _ i _ => r2 - (intOf i).toNat)
          case atStart => exact ⟨0, Nat.zero_le _, by rw [inTo_zero], rfl, Grow.rfl' _⟩
          case round =>
            obtain ⟨l, hl, rfl, rfl, hq⟩ := hrel
            have HQ := hide hq
            by_cases hlz : l < r2
            · have hjd : l < U.length := by rw [HL2.out]; exact hlz
              have hne : ¬ U = [] := fun h => by rw [h] at hjd; simp at hjd
              obtain ⟨b1, o1, rfl, hr1⟩ := J7.out.2.2.resolve_left hne
              have p0 := (hr1.later hq).at l hjd
              obtain ⟨q0, q1, q2⟩ := KE7.out.later hq
              have HS := hide (inTo_step U xf l hjd)
              obtain ⟨y, hy⟩ : ∃ y, y = U[l] := ⟨_, rfl⟩
              rw [← hy] at p0 HS
              obtain ⟨v, hv⟩ : ∃ v, inTo U xf l = v := ⟨_, rfl⟩
              rw [hv] at HS
              rw [hv]
              dsimp only at q0 q1 q2
              have hj1 : (0 : Int) ≤ (l : Int) := by omega
              have hj3 : (l : Int) < (r2 : Int) := by omega
              clear hne hr1 hy hq hv hjd
              have hcv : v = true ∨ (v = false ∧ (y == xf) = true) ∨ (v = false ∧ (y == xf) = false) := by cases v <;> cases (y == xf) <;> simp
              rcases hcv with rfl | ⟨rfl, he⟩ | ⟨rfl, he⟩
              · have HT : Hid (inTo U xf (l + 1) = true) := hide (by rw [HS.out]; rfl)
                clear HS
                go_wp2_with fail
                go_quiet (fail)
                have HQ2 := hide (Grow.trans' HQ.out (below_drewN (Below.refl _ _) nq))
                clear p0 q0 q1 q2 HQ
                generalize wr.drewN nq = wz at *
                go_wp2_with fail
                go_roundw
                case rel => exact ⟨l + 1, by omega, by rw [HT.out], by go_num, HQ2.out⟩
                case measure => simp [intOf]; omega
              · have HT : Hid (inTo U xf (l + 1) = true) := hide (by rw [HS.out]; rw [Bool.false_or]; exact he)
                clear HS
                go_wp2_with fail
                go_quiet (fail)
                have HQ2 := hide (Grow.trans' HQ.out (below_drewN (Below.refl _ _) nq))
                clear p0 q0 q1 q2 HQ
                generalize wr.drewN nq = wz at *
                go_wp2_with fail
                go_roundw
                case rel => exact ⟨l + 1, by omega, by rw [HT.out], by go_num, HQ2.out⟩
                case measure => simp [intOf]; omega
              · have HT : Hid (inTo U xf (l + 1) = false) := hide (by rw [HS.out]; rw [Bool.false_or]; exact he)
                clear HS
                go_wp2_with fail
                go_quiet (fail)
                have HQ2 := hide (Grow.trans' HQ.out (below_drewN (Below.refl _ _) nq))
                clear p0 q0 q1 q2 HQ
                generalize wr.drewN nq = wz at *
                go_wp2_with fail
                go_roundw
                case rel => exact ⟨l + 1, by omega, by rw [HT.out], by go_num, HQ2.out⟩
                case measure => simp [intOf]; omega
            · have hj3 : ¬ (l : Int) < (r2 : Int) := by omega
              have hln : l = r2 := by omega
              subst hln
              rw [A2.out]
              have G8 := hide (Grow.trans' G7.out hq)
              clear HQ hq
              go_wp2_with fail
              go_roundw
              case rel => exact ⟨k + 1, by omega, by go_num, G8.out⟩
              case measure => simp [intOf]; omega
    · have hi2 : ¬ (k : Int) < (m2 : Int) := by omega
      have G4 := hide (Grow.trans' G3.out hg)
      have HN4 := hide (HN.out.later hg)
      have C1 := hide (locs_raw gs n2 gc gt m2 gq N wr hn3 HN4.out)
      have HM := hide (manyTo_len N)
      have HLL := hide (show locsTo N N.length = locs N from rfl)
      have HR := hide (locs_rises N)
      have HIS := hide (locs_is N)
      have HLE := hide (locsTo_len N)
      obtain ⟨L, hL⟩ : ∃ L, L = locs N := ⟨_, rfl⟩
      rw [← hL] at C1 HLL HR HIS
      clear hL HG hg G3 KG3 HN HE
      go_wp2_with fail
      refine C1.out.mono ?_
      rintro _ w5 ⟨sl, nl, cl, rfl, hb, hO⟩
      have G5 := hide (Grow.trans' G4.out hb)
      have KG5 := hide (KG4.out.later hb)
      have HN5 := hide (HN4.out.later hb)
      have I5 := hide hO.is
      have hnl : nl ≤ 60 := by
        have h1 := HLE.out N.length
        rw [HLL.out, hO.1, HN4.out.1] at h1
        omega
      clear hb hO G4 KG4 HN4 C1 g0 g1
      obtain ⟨g0, g1⟩ := KG5.out
      dsimp only at g0 g1
      go_wp2_with fail
      clear g0 g1
      go_loopw [4, 14] (fun v i wr => ∃ j : Nat, j ≤ n2 ∧ v = .int .i64 (manyTo N j) ∧ i = .int .i64 j ∧ Grow w5 wr) (fun _ i _ => n2 - (intOf i).toNat)
      case atStart => exact ⟨0, Nat.zero_le _, rfl, rfl, Grow.rfl' _⟩
      case round =>
        obtain ⟨j, hj, rfl, rfl, hg⟩ := hrel
        have HG := hide hg
        obtain ⟨g0, g1⟩ := KG5.out.later hg
        dsimp only at g0 g1
        by_cases hlt2 : j < n2
        · have hjd : j < N.length := by rw [HN5.out.1]; exact hlt2
          have hne : ¬ N = [] := fun h => by rw [h] at hjd; simp at hjd
          obtain ⟨b1, o1, rfl, hr1⟩ := HN5.out.2.2.resolve_left hne
          obtain ⟨p0, p1, p2, p3⟩ := (hr1.later hg).at j hjd
          have HS := hide (show manyTo N (j + 1) = manyTo N j + insP (nth N j).k + (if hasP (nth N j).k = true then 1 else 0) from rfl)
          have hX1 := HM.out j
          have hX2 := HLE.out j
          obtain ⟨x, hx⟩ : ∃ x, x = nth N j := ⟨_, rfl⟩
          rw [← nth_get N j hjd, ← hx] at p0 p1 p2 p3
          rw [← hx] at HS
          obtain ⟨z, hz⟩ : ∃ z, insP x.k = z := ⟨_, rfl⟩
          obtain ⟨q, hq⟩ : ∃ q, hasP x.k = q := ⟨_, rfl⟩
          have hz2 : 0 ≤ z ∧ z ≤ 2 := by have := insP_cases x.k; omega
          have C1 := hide (fun w => ins_at x.k hz w)
          have C2 := hide (fun w => has_at x.k hq w)
          rw [hz, hq] at HS
          obtain ⟨X, hX⟩ : ∃ X, X = manyTo N j := ⟨_, rfl⟩
          rw [← hX] at HS hX1
          rw [← hX]
          have hXb : 0 ≤ X ∧ X ≤ 60 := by omega
          have hj1 : (0 : Int) ≤ (j : Int) := by omega
          have hj2 : (j : Int) < (n2 : Int) := by omega
          have hw1 : IntKind.i64.wrap (X + z) = X + z := IntWalk.i64_in _ ⟨by omega, by omega⟩
          have hw2 : IntKind.i64.wrap (X + z + 1) = X + z + 1 := IntWalk.i64_in _ ⟨by omega, by omega⟩
          clear hne hr1 hx hjd hg hX hz hq hX1 hX2 p1 p2 p3
          go_wp2_with fail
          refine (C1.out _).mono ?_
          rintro _ w6 ⟨rfl, rfl⟩
          go_wp2_with fail
          refine (C2.out _).mono ?_
          rintro _ w6 ⟨rfl, rfl⟩
          cases q
          · have HT : Hid (manyTo N (j + 1) = X + z) := hide (by rw [HS.out]; simp)
            clear HS
            go_wp2_with fail
            go_roundw
            case rel => exact ⟨j + 1, by omega, by rw [HT.out], by go_num, HG.out⟩
            case measure => simp [intOf]; omega
          · have HT : Hid (manyTo N (j + 1) = X + z + 1) := hide (by rw [HS.out]; simp)
            clear HS
            go_wp2_with fail
            go_roundw
            case rel => exact ⟨j + 1, by omega, by rw [HT.out], by go_num, HG.out⟩
            case measure => simp [intOf]; omega
        · have hj2 : ¬ (j : Int) < (n2 : Int) := by omega
          have hjn : j = n2 := by omega
          subst hjn
          have HF : Hid (manyTo N j = (nl : Int)) := hide (by
            have h1 := HM.out j
            have h2 : locsTo N j = L := by rw [← HLL.out, HN5.out.1]
            rw [h1, h2, I5.out.1])
          rw [HF.out]
          have G6 := hide (Grow.trans' G5.out hg)
          have KG6 := hide (KG5.out.later hg)
          have HN6 := hide (HN5.out.later hg)
          have I6 := hide (I5.out.later hg)
          clear HG hg G5 KG5 HN5 I5
          go_wp2_with fail
          clear g0 g1
          rename World => w6
          go_loopw [15] (fun i wr => ∃ l : Nat, l ≤ nl ∧ i = .int .i64 l ∧ Grow w6 wr) (fun i _ => nl - (intOf i).toNat)
          case atStart => exact ⟨0, Nat.zero_le _, rfl, Grow.rfl' _⟩
          case round =>
            obtain ⟨l, hl, rfl, hg⟩ := hrel
            have HG := hide hg
            by_cases hll : l < nl
            · have hjd : l < L.length := by rw [I6.out.1]; exact hll
              have hne : ¬ L = [] := fun h => by rw [h] at hjd; simp at hjd
              obtain ⟨b1, o1, rfl, hr1⟩ := I6.out.2.2.resolve_left hne
              have HRR := hide (hr1.later hg)
              obtain ⟨p0, p1⟩ := HRR.out.at l hjd
              have hIs := HIS.out l hjd
              have HPR : Hid (∀ i, i + 1 = l → ∃ y : Lc, wr.cell? ⟨b1, o1 + i * 2, none⟩ = some (.int .i64 y.n) ∧ wr.cell? ⟨b1, o1 + i * 2 + 1, none⟩ = some (.int .i64 y.p) ∧ ordL y L[l] = -1) := hide (fun i hi => by
                subst hi
                exact ⟨L[i]'(by omega), (HRR.out.at i (by omega)).1, (HRR.out.at i (by omega)).2, HR.out i hjd⟩)
              obtain ⟨y, hy⟩ : ∃ y, y = L[l] := ⟨_, rfl⟩
              rw [← hy] at p0 p1 hIs HPR
              obtain ⟨yn, yp⟩ := y
              obtain ⟨g0, g1⟩ := KG6.out.later hg
              dsimp only at p0 p1 g0 g1
              have hj1 : (0 : Int) ≤ (l : Int) := by omega
              have hj3 : (l : Int) < (nl : Int) := by omega
              have sp0 := cell_regrown p0
              have sp1 := cell_regrown p1
              have sg0 := cell_regrown g0
              have sg1 := cell_regrown g1
              have Q1 := hide (fun dd os => Calls.regrown_of (is_raw gs j gc gt m2 gq N yn yp (grow (redrawn wr dd) os) (by omega) (HN6.out.later (Grow.trans' hg (below_regrown wr dd os)))))
              rw [hIs] at Q1
              clear hne hr1 hy hIs HRR
              by_cases hl0 : 0 < l
              · have d6 : decide (0 < l) = true := by simpa using hl0
                obtain ⟨i, hi⟩ : ∃ i, l = i + 1 := ⟨l - 1, by omega⟩
                obtain ⟨⟨un, up⟩, u0, u1, hord⟩ := HPR.out i hi.symm
                dsimp only at u0 u1
                have hwj : IntKind.i64.wrap ((l : Int) - 1) = (i : Int) := (by rw [show (l : Int) - 1 = (i : Int) by omega]; exact IntWalk.i64_in _ ⟨by omega, by omega⟩)
                have hi3 : (0 : Int) ≤ (i : Int) := by omega
                have hi4 : (i : Int) < (nl : Int) := by omega
                have su0 := cell_regrown u0
                have su1 := cell_regrown u1
                have Q2 := hide (fun dd os => Calls.regrown_of (ord_at ⟨un, up⟩ ⟨yn, yp⟩ hord (grow (redrawn wr dd) os)))
                dsimp only at Q2
                clear hi hord
                clear hg hjd
                go_wp2_with fail
                refine wp_region_quiet_below (by kernel_rfl) (by kernel_rfl) ?_
                repeat (go_big_quiet_step (first | (go_at_call 29; exact Q1.out _ _) | (go_at_call 18; exact Q2.out _ _)))
                refine wpQuiet_nil ?_
                intro _ hw'
                obtain ⟨⟨dq, osq⟩, hw''⟩ := hw'
                subst hw''
                have HG2 := hide (Grow.trans' HG.out (below_regrown wr dq osq))
                clear sp0 sp1 sg0 sg1 p0 p1 g0 g1 Q1 su0 su1 u0 u1 Q2
                go_wp2_with fail
                go_roundw
                case rel => exact ⟨l + 1, by omega, by go_num, HG2.out⟩
                case measure => simp [intOf]; omega
              · have d6 : decide (0 < l) = false := by simpa using hl0
                clear hg hjd
                go_wp2_with fail
                refine wp_region_quiet_below (by kernel_rfl) (by kernel_rfl) ?_
                repeat (go_big_quiet_step (first | (go_at_call 29; exact Q1.out _ _)))
                refine wpQuiet_nil ?_
                intro _ hw'
                obtain ⟨⟨dq, osq⟩, hw''⟩ := hw'
                subst hw''
                have HG2 := hide (Grow.trans' HG.out (below_regrown wr dq osq))
                clear sp0 sp1 sg0 sg1 p0 p1 g0 g1 Q1 
                go_wp2_with fail
                go_roundw
                case rel => exact ⟨l + 1, by omega, by go_num, HG2.out⟩
                case measure => simp [intOf]; omega
            · have hj3 : ¬ (l : Int) < (nl : Int) := by omega
              have G7 := hide (Grow.trans' G6.out hg)
              clear hg
              go_wp2_with fail
              go_ret
              exact ⟨rfl, G7.out⟩

theorem GraphBack_any (g : GA) (w : World) (hg : IsG w g) :
    Calls Try.prog 5 #[.agg #[.slice g.s g.n g.c, .slice g.t g.m g.q]] w fun r w' => r = .returned (.bool true) ∧ Grow w w' :=
  back_raw g.s g.n g.c g.t g.m g.q g.N g.E w hg.nodes hg.edges

set_option maxRecDepth 100000 in
theorem GraphBack_lifted (os : Os) (started : os.Started) (H : Type) (enc : TypeId × Value → H) :
    ReturnsInHanded {} Try.checked os 5 .any (Rows.graphBackSpec.pre6 enc Try.prog Try.f5 Rows.graphBackRow.domain false) (Rows.graphBackSpec.post enc Try.prog Try.f5 false true false false) := by
  refine returnsInHanded_of_change (C := Try.checked) own started (by kernel_rfl) Try.func5
    (ChangeSpec.witness6 (enc := enc) (C := Try.checked) false ⟨#[], #[.agg #[.slice none 0 0, .slice none 0 0]], []⟩ 8 (by kernel_rfl) (by kernel_rfl) (by kernel_rfl) (by kernel_rfl)) ?_
  intro W base args ds gs before hval0 hW hcnd _
  have hval : ∀ (j : Nat) t v, Try.f5.params[j]? = some t → args[j]? = some v → Value.okWide Try.prog W .any base t v := hval0
  have hW' := hW
  obtain ⟨p, q, hA0, hV, rfl, hfz, hnd⟩ := hW
  have hA : DataW.TrodAll enc Try.prog W 0 (fun _ => true) true Try.f5.params.toList args.toList ds p := hA0
  rw [Try.params5] at hA hval
  obtain ⟨v0, vs0, d0, ds0, p0, q0, hargs, rfl, rfl, h0, r0⟩ := trodAll_cons hA
  obtain ⟨rfl, rfl, rfl⟩ := trodAll_nil r0
  obtain rfl : args = #[v0] := by cases args; simp_all
  obtain ⟨rfl, rfl⟩ := trodVars_none hV
  have k0 := h0
  have lt0 : ∀ x ∈ p0, x.block < W.heap.size := by obtain ⟨m, hm⟩ := k0; exact DataW.trod_lt m _ _ _ hm
  obtain ⟨t0, rfl, w0⟩ := open_gr (hval 0 39 v0 rfl rfl) h0
  clear hA0 hval0
  refine (GraphBack_any t0 W w0).mono fun e W' ⟨he, bel⟩ => ?_
  subst he
  exact ⟨_, rfl, _, _, _, [], _, [], hW', trodAll_mk1 (shut_bool Try.underlying4 _), (trodAll_cons_mk (Below.trod laidOut (by kernel_rfl) (of_decide_eq_true (by kernel_rfl)) k0 bel lt0) trodAll_mk0), rfl, bel.frame _, fun h => by cases h⟩

/-- The given statement. -/
theorem GraphBack_holds : Rows.GraphBackSaid :=
  OpenClaim.holds_of_wide 5 Try.f5 rfl rfl rfl rfl rfl rfl rfl ⟨rfl, rfl, rfl, rfl, rfl⟩ rfl rfl rfl rfl rfl (by kernel_rfl) Try.func5 (by kernel_rfl)
    (of_decide_eq_true (by kernel_rfl)) (by unfold Func.isWrapper; first | (rw [if_pos (by decide +kernel)]; kernel_rfl) | (rw [if_neg (by decide +kernel)]; exact ⟨rfl, rfl⟩))
    (fun os started H enc _ => GraphBack_lifted os started H enc)


end Go.Proofs.Ytjpaclcpebpcjaa
