/-
  ValidLoops: for every number and every Boolean: a row of one to four plain nodes that leads back to its beginning is refused, with a Feedback in it, within a loop, it is accepted; the call returns true and leaves its arguments as they were. No conditions.
-/
import Derived.Test.YtdgmfjaldicmgaaVMk
namespace Go.Proofs.Ytdgmfjaldicmgaa
set_option maxRecDepth 100000
open Go.ChangeShapes Go.WideShapes Go.ChangeAt Go.RowKit Go.Deep Go.Sort
set_option linter.unusedVariables false
set_option linter.unusedSimpArgs false

theorem and3 (m : Int) : ∃ k : Nat, k ≤ 3 ∧ bits .and .i64 m 3 = (k : Int) := by
  refine ⟨(BitVec.ofInt 64 m).toNat &&& 3, Nat.and_le_right, ?_⟩
  have h3 : (BitVec.ofInt 64 m).toNat &&& 3 ≤ 3 := Nat.and_le_right
  show IntKind.i64.wrap ((BitVec.ofInt 64 m &&& BitVec.ofInt 64 3).toNat : Int) = _
  rw [BitVec.toNat_and, show (BitVec.ofInt 64 3).toNat = 3 from rfl, IntKind.wrap_i64]
  omega
def ndAt (nn : Nat) (feed : Bool) (i : Nat) : Nd := if i + 1 = nn ∧ feed = true then ⟨10, 2, 0, 1⟩ else ⟨5, 0, 0, 1⟩
def NPre (nn : Nat) (feed : Bool) (i : Nat) : List Nd := [⟨1, 0, 0, 0⟩, ⟨8, 0, 0, 1⟩, ⟨4, 0, 0, 1⟩] ++ (List.range i).map (ndAt nn feed)
def EPre (i : Nat) : List Ed := [⟨0, 1, 0⟩, ⟨1, 2, 0⟩] ++ (List.range i).map fun (i : Nat) => (⟨(i : Int) + 2, (i : Int) + 3, 0⟩ : Ed)
theorem NPre_step (nn : Nat) (feed : Bool) (i : Nat) : NPre nn feed (i + 1) = NPre nn feed i ++ [ndAt nn feed i] := by simp [NPre, List.range_succ]
theorem EPre_step (i : Nat) : EPre (i + 1) = EPre i ++ [⟨(i : Int) + 2, (i : Int) + 3, 0⟩] := by simp [EPre, List.range_succ]
theorem loop_errN (nn : Nat) (h1 : 1 ≤ nn) (h4 : nn ≤ 4) (feed : Bool) : errG (NPre nn feed nn) (EPre nn ++ [⟨(nn : Int) + 2, 2, 1⟩]) = if feed = true then 0 else 14 := by
  have := loop_err ⟨nn - 1, by omega⟩ feed
  have e : nn - 1 + 1 = nn := by omega
  simp only [e] at this
  exact this
set_option maxHeartbeats 16000000 in
theorem loops_true (many : Int) (nm : Nat) (hn4 : nm ≤ 3) (hbits : bits .and .i64 many 3 = (nm : Int)) (w : World) :
    Calls Try.prog 7 #[.int .i64 many, .bool true] w fun r w' => r = .returned (.bool true) ∧ Grow w w' := by
  obtain ⟨nn, hnn⟩ : ∃ nn, nn = nm + 1 := ⟨_, rfl⟩
  have HN := hide hnn
  have hw1 : IntKind.i64.wrap (1 + (nm : Int)) = (nn : Int) := by rw [IntWalk.i64_in _ ⟨by omega, by omega⟩]; omega
  have hw2 : IntKind.i64.wrap ((nn : Int) - 1) = (nm : Int) := by rw [IntWalk.i64_in _ ⟨by omega, by omega⟩]; omega
  have hn5 : nn ≤ 4 := by omega
  clear hnn
  go_enter Try.func7, Try.ntmps7
  go_wp2_with fail
  refine (shown_any _).mono ?_
  rintro _ w1 ⟨rfl, hb⟩
  have G1 := hide hb
  have GG : Hid (Grow w1 (((w1.alloc (.cells #[.int .i64 1, .int .i64 0, .int .i64 0, .int .i64 0, .int .i64 8, .int .i64 0, .int .i64 0, .int .i64 1, .int .i64 4, .int .i64 0, .int .i64 0, .int .i64 1] 23)).alloc (.cells #[.int .i64 0, .int .i64 1, .int .i64 0, .int .i64 1, .int .i64 2, .int .i64 0] 50)).alloc (.cells #[.slice none 0 0, .slice none 0 0] 29))) := hide (Grow.trans' (Grow.trans' (Grow.alloc' _ _) (Grow.alloc' _ _)) (Grow.alloc' _ _))
  have KB : Hid (BlkG (((w1.alloc (.cells #[.int .i64 1, .int .i64 0, .int .i64 0, .int .i64 0, .int .i64 8, .int .i64 0, .int .i64 0, .int .i64 1, .int .i64 4, .int .i64 0, .int .i64 0, .int .i64 1] 23)).alloc (.cells #[.int .i64 0, .int .i64 1, .int .i64 0, .int .i64 1, .int .i64 2, .int .i64 0] 50)).alloc (.cells #[.slice none 0 0, .slice none 0 0] 29)) (w1.heap.size + 2)) := hide (by
    have hz : ((w1.alloc (.cells #[.int .i64 1, .int .i64 0, .int .i64 0, .int .i64 0, .int .i64 8, .int .i64 0, .int .i64 0, .int .i64 1, .int .i64 4, .int .i64 0, .int .i64 0, .int .i64 1] 23)).alloc (.cells #[.int .i64 0, .int .i64 1, .int .i64 0, .int .i64 1, .int .i64 2, .int .i64 0] 50)).heap.size = w1.heap.size + 2 := by simp
    rw [← hz]
    exact BlkG.new _ _ _)
  have ON : Hid (OwnN (((w1.alloc (.cells #[.int .i64 1, .int .i64 0, .int .i64 0, .int .i64 0, .int .i64 8, .int .i64 0, .int .i64 0, .int .i64 1, .int .i64 4, .int .i64 0, .int .i64 0, .int .i64 1] 23)).alloc (.cells #[.int .i64 0, .int .i64 1, .int .i64 0, .int .i64 1, .int .i64 2, .int .i64 0] 50)).alloc (.cells #[.slice none 0 0, .slice none 0 0] 29)) w1.heap.size (some ⟨w1.heap.size, 0, none⟩) 3 3 (NPre nn true 0)) := hide (by
    have h1 : OwnN (w1.alloc (.cells #[.int .i64 1, .int .i64 0, .int .i64 0, .int .i64 0, .int .i64 8, .int .i64 0, .int .i64 0, .int .i64 1, .int .i64 4, .int .i64 0, .int .i64 0, .int .i64 1] 23)) w1.heap.size (some ⟨w1.heap.size, 0, none⟩) 3 3 (NPre nn true 0) :=
      ⟨rfl, World.ownsRow_lit w1 #[.int .i64 1, .int .i64 0, .int .i64 0, .int .i64 0, .int .i64 8, .int .i64 0, .int .i64 0, .int .i64 1, .int .i64 4, .int .i64 0, .int .i64 0, .int .i64 1] 3 (Nat.le_refl _) (by simp [maxLen]) rfl, fun h => by cases h⟩
    exact (h1.later (Grow.alloc' _ _)).later (Grow.alloc' _ _))
  have OE : Hid (OwnE (((w1.alloc (.cells #[.int .i64 1, .int .i64 0, .int .i64 0, .int .i64 0, .int .i64 8, .int .i64 0, .int .i64 0, .int .i64 1, .int .i64 4, .int .i64 0, .int .i64 0, .int .i64 1] 23)).alloc (.cells #[.int .i64 0, .int .i64 1, .int .i64 0, .int .i64 1, .int .i64 2, .int .i64 0] 50)).alloc (.cells #[.slice none 0 0, .slice none 0 0] 29)) w1.heap.size (some ⟨w1.heap.size + 1, 0, none⟩) 2 2 (EPre 0)) := hide (by
    have hz : (w1.alloc (.cells #[.int .i64 1, .int .i64 0, .int .i64 0, .int .i64 0, .int .i64 8, .int .i64 0, .int .i64 0, .int .i64 1, .int .i64 4, .int .i64 0, .int .i64 0, .int .i64 1] 23)).heap.size = w1.heap.size + 1 := by simp
    have h1 : OwnE ((w1.alloc (.cells #[.int .i64 1, .int .i64 0, .int .i64 0, .int .i64 0, .int .i64 8, .int .i64 0, .int .i64 0, .int .i64 1, .int .i64 4, .int .i64 0, .int .i64 0, .int .i64 1] 23)).alloc (.cells #[.int .i64 0, .int .i64 1, .int .i64 0, .int .i64 1, .int .i64 2, .int .i64 0] 50)) w1.heap.size (some ⟨w1.heap.size + 1, 0, none⟩) 2 2 (EPre 0) := by
      have := World.ownsRow_lit (base := w1.heap.size) (e := 50) (size := 3) (w1.alloc (.cells #[.int .i64 1, .int .i64 0, .int .i64 0, .int .i64 0, .int .i64 8, .int .i64 0, .int .i64 0, .int .i64 1, .int .i64 4, .int .i64 0, .int .i64 0, .int .i64 1] 23)) #[.int .i64 0, .int .i64 1, .int .i64 0, .int .i64 1, .int .i64 2, .int .i64 0] 2 (by simp) (by simp [maxLen]) rfl
      rw [hz] at this
      exact ⟨rfl, this, fun h => by cases h⟩
    exact h1.later (Grow.alloc' _ _))
  have hzz : ((((w1.alloc (.cells #[.int .i64 1, .int .i64 0, .int .i64 0, .int .i64 0, .int .i64 8, .int .i64 0, .int .i64 0, .int .i64 1, .int .i64 4, .int .i64 0, .int .i64 0, .int .i64 1] 23)).alloc (.cells #[.int .i64 0, .int .i64 1, .int .i64 0, .int .i64 1, .int .i64 2, .int .i64 0] 50)).alloc (.cells #[.slice none 0 0, .slice none 0 0] 29))).heap.size = w1.heap.size + 3 := by simp
  clear hb
  go_wp2_with (refine wpList_putG2 rfl _ _ rfl (w1.heap.size + 2) ⟨some ⟨w1.heap.size, 0, none⟩, 3, 3, some ⟨w1.heap.size + 1, 0, none⟩, 2, 2, [], []⟩ rfl rfl KB.out w1 GG.out (by omega) ?_)
  intro w2 hg2 hb2 hk2 hoth hsz2
  have G2 := hide hg2
  have M2 : Hid (MkG w2 w1.heap.size (w1.heap.size + 2) (some ⟨w1.heap.size, 0, none⟩) 3 3 (some ⟨w1.heap.size + 1, 0, none⟩) 2 2 (NPre nn true 0) (EPre 0)) := hide ⟨hb2, hk2, ON.out.keep fun a ha => hoth _ (by cases ha; simp), OE.out.keep fun a ha => hoth _ (by cases ha; simp), fun a ha => by cases ha; simp, fun a ha => by cases ha; simp, fun a a' ha ha' => by cases ha; cases ha'; simp, by omega⟩
  obtain ⟨B, hB⟩ : ∃ B, B = w1.heap.size + 2 := ⟨_, rfl⟩
  have HB := hide hB
  rw [← hB] at M2
  rw [← hB]
  clear hg2 hb2 hk2 hoth hsz2 KB ON OE GG hB hzz
  go_wp2_with fail
  go_loopw [8, 9] (fun v8 v9 wr => ∃ (j l n m : Nat) (s : Option Addr) (c : Nat) (t : Option Addr) (q : Nat), j ≤ nn ∧ l = 2 + j ∧ n = 3 + j ∧ m = 2 + j ∧ v8 = .int .i64 (l : Int) ∧ v9 = .int .i64 (j : Int) ∧ Grow w1 wr ∧ MkG wr w1.heap.size B s n c t m q (NPre nn true j) (EPre j)) (fun _ v9 _ => nn - (intOf v9).toNat)
  case atStart => exact ⟨0, 2, 3, 2, _, _, _, _, Nat.zero_le _, rfl, rfl, rfl, rfl, rfl, G2.out, M2.out⟩
  case round =>
    obtain ⟨j, l, n, m, s, c, t, q, hj, hl, hn, hm, rfl, rfl, hg, hM⟩ := hrel
    have HL := hide hl
    have HNn := hide hn
    have HMm := hide hm
    have GR := hide hg
    have MM := hide hM
    have hl6 : l ≤ 6 := by omega
    have hn7 : n ≤ 7 := by omega
    have hm6 : m ≤ 6 := by omega
    clear hl hn hm
    by_cases hlt : j < nn
    · have hj2 : (j : Int) < (nn : Int) := by omega
      obtain ⟨n1, hn1⟩ : ∃ n1, n1 = n + 1 := ⟨_, rfl⟩
      have HN1 := hide hn1
      have hw3 : IntKind.i64.wrap ((n1 : Int) - 1) = (n : Int) := by rw [IntWalk.i64_in _ ⟨by omega, by omega⟩]; omega
      have HX : Hid (∀ x, x = ndAt nn true j → NPre nn true j ++ [x] = NPre nn true (j + 1)) := hide (fun x hx => by rw [hx, NPre_step])
      have HE : Hid (EPre j ++ [⟨(l : Int), (n : Int), 0⟩] = EPre (j + 1)) := hide (by
        rw [EPre_step, HL.out, HNn.out]
        have e1 : ((2 + j : Nat) : Int) = (j : Int) + 2 := by omega
        have e2 : ((3 + j : Nat) : Int) = (j : Int) + 3 := by omega
        rw [e1, e2])
      clear hg hM hn1
      obtain ⟨g0, g1⟩ := MM.out.box
      dsimp only at g0 g1
      by_cases hjn : j = nm
      · have ND : Hid (ndAt nn true j = ⟨10, 2, 0, 1⟩) := hide (by unfold ndAt; rw [if_pos ⟨by rw [HN.out]; omega, rfl⟩])
        have hjb : ((j : Int) == (nm : Int)) = true := by simp [hjn]
        have HJN := hide hjn
        clear hjn
        go_wp2_with (refine wpList_putN2 rfl _ _ rfl wr.heap.size ⟨5, 0, 0, 1⟩ rfl rfl (BlkN.new wr) wr (Grow.alloc' _ _) (Nat.le_refl _) ?_)
        intro w3 hg3 hb3 hk3
        have G3 := hide (Grow.trans' GR.out hg3)
        have G33 := hide hg3
        have M3 := hide (MM.out.later hg3)
        have KB3 := hide hk3
        obtain ⟨x0, x1, x2, x3⟩ := hb3
        obtain ⟨g0', g1'⟩ := M3.out.box
        dsimp only at x0 x1 x2 x3 g0' g1'
        obtain ⟨XB, hXB⟩ : ∃ XB, XB = wr.heap.size := ⟨_, rfl⟩
        have HXB := hide hXB
        rw [← hXB] at x0 x1 x2 x3 KB3
        rw [← hXB]
        clear hg3 hk3 g0 g1 hXB
        go_wp2_with (refine wpList_putN2 rfl _ _ rfl XB ⟨10, 2, 0, 1⟩ rfl rfl KB3.out wr G33.out (Nat.le_of_eq HXB.out.symm) ?_)
        intro w4 hg4 hb4 hk4
        have G4 := hide (Grow.trans' GR.out hg4)
        have M4 := hide (MM.out.later hg4)
        clear x0 x1 x2 x3 g0' g1'
        obtain ⟨x0, x1, x2, x3⟩ := hb4
        obtain ⟨g0', g1'⟩ := M4.out.box
        dsimp only at x0 x1 x2 x3 g0' g1'
        clear hg4 hk4
        have O4 := hide (M4.out.rn.later (Grow.alloc' w4 (.cells #[.int .i64 10, .int .i64 2, .int .i64 0, .int .i64 1] 23)))
        have M5 := hide (M4.out.later (Grow.alloc' w4 (.cells #[.int .i64 10, .int .i64 2, .int .i64 0, .int .i64 1] 23)))
        have I4 := hide (isNds_one w4 ⟨10, 2, 0, 1⟩)
        have Z4 : Hid (w1.heap.size ≤ (w4.alloc (.cells #[.int .i64 10, .int .i64 2, .int .i64 0, .int .i64 1] 23)).heap.size) := hide (by have := G4.out.size; simp; omega)
        have GA4 := hide (Grow.trans' G4.out (Grow.alloc' w4 (.cells #[.int .i64 10, .int .i64 2, .int .i64 0, .int .i64 1] 23)))
        dsimp only at I4
        go_wp2_with (at_builtin; refine wpList_apx_nd rfl _ _ rfl w1.heap.size s n c (NPre nn true j) [⟨10, 2, 0, 1⟩] rfl O4.out (some ⟨w4.heap.size, 0, none⟩) 1 1 rfl I4.out (by omega) Z4.out w4.heap.size (by simp) ?_)
        intro s5 c5 w5 hO5 hgb5 hlo5
        have OO5 := hide hO5
        have GB5 := hide hgb5
        have LO5 := hide hlo5
        have G5 := hide (hgb5.grow GA4.out (Nat.le_refl _))
        obtain ⟨BX, BK⟩ := M5.out.boxN hgb5
        have BXX := hide BX
        have BKK := hide BK
        obtain ⟨h0, h1⟩ := BX
        dsimp only at h0 h1
        clear hO5 hgb5 hlo5 x0 x1 x2 x3 g0' g1' BK O4 I4 Z4 GA4
        rw [← HN1.out] at OO5
        rw [← HN1.out]
        go_wp2_with (refine wpList_setN rfl _ _ rfl B ⟨s, n, c, t, m, q, [], []⟩ s5 n1 c5 rfl rfl BKK.out BXX.out w1 G5.out (by rw [HB.out]; omega) ?_)
        intro w6 hg6 hb6 hk6 hoth6 hz6
        have G6 := hide hg6
        have M6 := hide (M5.out.setN GB5.out OO5.out M4.out LO5.out hb6 hk6 hoth6)
        rw [HX.out _ ND.out.symm] at M6
        obtain ⟨g0, g1⟩ := M6.out.box
        dsimp only at g0 g1
        have O6 := hide (M6.out.re.later (Grow.alloc' w6 (.cells #[.int .i64 (l : Int), .int .i64 (n : Int), .int .i64 0] 50)))
        have M7 := hide (M6.out.later (Grow.alloc' w6 (.cells #[.int .i64 (l : Int), .int .i64 (n : Int), .int .i64 0] 50)))
        have I6 := hide (isEds_one w6 ⟨(l : Int), (n : Int), 0⟩)
        have Z6 : Hid (w1.heap.size ≤ (w6.alloc (.cells #[.int .i64 (l : Int), .int .i64 (n : Int), .int .i64 0] 50)).heap.size) := hide (by have := G6.out.size; simp; omega)
        have GA6 := hide (Grow.trans' G6.out (Grow.alloc' w6 (.cells #[.int .i64 (l : Int), .int .i64 (n : Int), .int .i64 0] 50)))
        dsimp only at I6
        clear hg6 hb6 hk6 hoth6 hz6 h0 h1 BXX BKK M5 GB5 OO5 LO5
        go_wp2_with (refine wpList_apx_ed rfl _ _ rfl w1.heap.size t m q (EPre j) [⟨(l : Int), (n : Int), 0⟩] rfl O6.out (some ⟨w6.heap.size, 0, none⟩) 1 1 rfl I6.out (by omega) Z6.out w6.heap.size (by simp) ?_)
        intro s7 c7 w7 hO7 hgb7 hlo7
        have OO7 := hide hO7
        have GB7 := hide hgb7
        have LO7 := hide hlo7
        have G7 := hide (hgb7.grow GA6.out (Nat.le_refl _))
        obtain ⟨BX, BK⟩ := M7.out.boxE hgb7
        have BXX := hide BX
        have BKK := hide BK
        obtain ⟨h0, h1⟩ := BX
        dsimp only at h0 h1
        clear hO7 hgb7 hlo7 g0 g1 BK O6 I6 Z6 GA6
        go_wp2_with (refine wpList_setE rfl _ _ rfl B ⟨s5, n1, c5, t, m, q, [], []⟩ s7 (m + 1) c7 rfl rfl BKK.out BXX.out w1 G7.out (by rw [HB.out]; omega) ?_)
        intro w8 hg8 hb8 hk8 hoth8 hz8
        have G8 := hide hg8
        have M8 := hide (M7.out.setE GB7.out OO7.out M6.out LO7.out hb8 hk8 hoth8)
        rw [HE.out] at M8
        obtain ⟨g0, g1⟩ := M8.out.box
        dsimp only at g0 g1
        clear hg8 hb8 hk8 hoth8 hz8 h0 h1 BXX BKK M7 GB7 OO7 LO7
        go_wp2_with fail
        go_roundw
        case rel => exact ⟨j + 1, n, n1, m + 1, s5, c5, s7, c7, by omega, by rw [HNn.out]; omega, by rw [HN1.out, HNn.out]; omega, by rw [HMm.out]; omega, rfl, by go_num, G8.out, M8.out⟩
        case measure => simp [intOf]; omega
      · have ND : Hid (ndAt nn true j = ⟨5, 0, 0, 1⟩) := hide (by unfold ndAt; rw [if_neg]; intro h; have := h.1; rw [HN.out] at this; omega)
        have hjb : ((j : Int) == (nm : Int)) = false := by simp; omega
        have HJN := hide hjn
        clear hjn
        go_wp2_with (refine wpList_putN2 rfl _ _ rfl wr.heap.size ⟨5, 0, 0, 1⟩ rfl rfl (BlkN.new wr) wr (Grow.alloc' _ _) (Nat.le_refl _) ?_)
        intro w3 hg3 hb3 hk3
        have G3 := hide (Grow.trans' GR.out hg3)
        have G33 := hide hg3
        have M3 := hide (MM.out.later hg3)
        have KB3 := hide hk3
        obtain ⟨x0, x1, x2, x3⟩ := hb3
        obtain ⟨g0', g1'⟩ := M3.out.box
        dsimp only at x0 x1 x2 x3 g0' g1'
        obtain ⟨XB, hXB⟩ : ∃ XB, XB = wr.heap.size := ⟨_, rfl⟩
        have HXB := hide hXB
        rw [← hXB] at x0 x1 x2 x3 KB3
        rw [← hXB]
        clear hg3 hk3 g0 g1 hXB
        obtain ⟨w4, hw4⟩ : ∃ w4, w4 = w3 := ⟨_, rfl⟩
        subst hw4
        have G4 := G3
        have M4 := M3
        have O4 := hide (M4.out.rn.later (Grow.alloc' w4 (.cells #[.int .i64 5, .int .i64 0, .int .i64 0, .int .i64 1] 23)))
        have M5 := hide (M4.out.later (Grow.alloc' w4 (.cells #[.int .i64 5, .int .i64 0, .int .i64 0, .int .i64 1] 23)))
        have I4 := hide (isNds_one w4 ⟨5, 0, 0, 1⟩)
        have Z4 : Hid (w1.heap.size ≤ (w4.alloc (.cells #[.int .i64 5, .int .i64 0, .int .i64 0, .int .i64 1] 23)).heap.size) := hide (by have := G4.out.size; simp; omega)
        have GA4 := hide (Grow.trans' G4.out (Grow.alloc' w4 (.cells #[.int .i64 5, .int .i64 0, .int .i64 0, .int .i64 1] 23)))
        dsimp only at I4
        go_wp2_with (at_builtin; refine wpList_apx_nd rfl _ _ rfl w1.heap.size s n c (NPre nn true j) [⟨5, 0, 0, 1⟩] rfl O4.out (some ⟨w4.heap.size, 0, none⟩) 1 1 rfl I4.out (by omega) Z4.out w4.heap.size (by simp) ?_)
        intro s5 c5 w5 hO5 hgb5 hlo5
        have OO5 := hide hO5
        have GB5 := hide hgb5
        have LO5 := hide hlo5
        have G5 := hide (hgb5.grow GA4.out (Nat.le_refl _))
        obtain ⟨BX, BK⟩ := M5.out.boxN hgb5
        have BXX := hide BX
        have BKK := hide BK
        obtain ⟨h0, h1⟩ := BX
        dsimp only at h0 h1
        clear hO5 hgb5 hlo5 x0 x1 x2 x3 g0' g1' BK O4 I4 Z4 GA4
        rw [← HN1.out] at OO5
        rw [← HN1.out]
        go_wp2_with (refine wpList_setN rfl _ _ rfl B ⟨s, n, c, t, m, q, [], []⟩ s5 n1 c5 rfl rfl BKK.out BXX.out w1 G5.out (by rw [HB.out]; omega) ?_)
        intro w6 hg6 hb6 hk6 hoth6 hz6
        have G6 := hide hg6
        have M6 := hide (M5.out.setN GB5.out OO5.out M4.out LO5.out hb6 hk6 hoth6)
        rw [HX.out _ ND.out.symm] at M6
        obtain ⟨g0, g1⟩ := M6.out.box
        dsimp only at g0 g1
        have O6 := hide (M6.out.re.later (Grow.alloc' w6 (.cells #[.int .i64 (l : Int), .int .i64 (n : Int), .int .i64 0] 50)))
        have M7 := hide (M6.out.later (Grow.alloc' w6 (.cells #[.int .i64 (l : Int), .int .i64 (n : Int), .int .i64 0] 50)))
        have I6 := hide (isEds_one w6 ⟨(l : Int), (n : Int), 0⟩)
        have Z6 : Hid (w1.heap.size ≤ (w6.alloc (.cells #[.int .i64 (l : Int), .int .i64 (n : Int), .int .i64 0] 50)).heap.size) := hide (by have := G6.out.size; simp; omega)
        have GA6 := hide (Grow.trans' G6.out (Grow.alloc' w6 (.cells #[.int .i64 (l : Int), .int .i64 (n : Int), .int .i64 0] 50)))
        dsimp only at I6
        clear hg6 hb6 hk6 hoth6 hz6 h0 h1 BXX BKK M5 GB5 OO5 LO5
        go_wp2_with (refine wpList_apx_ed rfl _ _ rfl w1.heap.size t m q (EPre j) [⟨(l : Int), (n : Int), 0⟩] rfl O6.out (some ⟨w6.heap.size, 0, none⟩) 1 1 rfl I6.out (by omega) Z6.out w6.heap.size (by simp) ?_)
        intro s7 c7 w7 hO7 hgb7 hlo7
        have OO7 := hide hO7
        have GB7 := hide hgb7
        have LO7 := hide hlo7
        have G7 := hide (hgb7.grow GA6.out (Nat.le_refl _))
        obtain ⟨BX, BK⟩ := M7.out.boxE hgb7
        have BXX := hide BX
        have BKK := hide BK
        obtain ⟨h0, h1⟩ := BX
        dsimp only at h0 h1
        clear hO7 hgb7 hlo7 g0 g1 BK O6 I6 Z6 GA6
        go_wp2_with (refine wpList_setE rfl _ _ rfl B ⟨s5, n1, c5, t, m, q, [], []⟩ s7 (m + 1) c7 rfl rfl BKK.out BXX.out w1 G7.out (by rw [HB.out]; omega) ?_)
        intro w8 hg8 hb8 hk8 hoth8 hz8
        have G8 := hide hg8
        have M8 := hide (M7.out.setE GB7.out OO7.out M6.out LO7.out hb8 hk8 hoth8)
        rw [HE.out] at M8
        obtain ⟨g0, g1⟩ := M8.out.box
        dsimp only at g0 g1
        clear hg8 hb8 hk8 hoth8 hz8 h0 h1 BXX BKK M7 GB7 OO7 LO7
        go_wp2_with fail
        go_roundw
        case rel => exact ⟨j + 1, n, n1, m + 1, s5, c5, s7, c7, by omega, by rw [HNn.out]; omega, by rw [HN1.out, HNn.out]; omega, by rw [HMm.out]; omega, rfl, by go_num, G8.out, M8.out⟩
        case measure => simp [intOf]; omega
    · have hjn : j = nn := by omega
      subst hjn
      have hj2 : ¬ (j : Int) < (j : Int) := by omega
      obtain ⟨g0, g1⟩ := MM.out.box
      dsimp only at g0 g1
      have O6 := hide (MM.out.re.later (Grow.alloc' wr (.cells #[.int .i64 (l : Int), .int .i64 2, .int .i64 1] 50)))
      have M7 := hide (MM.out.later (Grow.alloc' wr (.cells #[.int .i64 (l : Int), .int .i64 2, .int .i64 1] 50)))
      have I6 := hide (isEds_one wr ⟨(l : Int), 2, 1⟩)
      have Z6 : Hid (w1.heap.size ≤ (wr.alloc (.cells #[.int .i64 (l : Int), .int .i64 2, .int .i64 1] 50)).heap.size) := hide (by have := GR.out.size; simp; omega)
      have GA6 := hide (Grow.trans' GR.out (Grow.alloc' wr (.cells #[.int .i64 (l : Int), .int .i64 2, .int .i64 1] 50)))
      dsimp only at I6
      clear hg hM
      go_wp2_with (at_builtin; refine wpList_apx_ed rfl _ _ rfl w1.heap.size t m q (EPre j) [⟨(l : Int), 2, 1⟩] rfl O6.out (some ⟨wr.heap.size, 0, none⟩) 1 1 rfl I6.out (by omega) Z6.out wr.heap.size (by simp) ?_)
      intro s7 c7 w7 hO7 hgb7 hlo7
      have OO7 := hide hO7
      have GB7 := hide hgb7
      have LO7 := hide hlo7
      have G7 := hide (hgb7.grow GA6.out (Nat.le_refl _))
      obtain ⟨BX, BK⟩ := M7.out.boxE hgb7
      have BXX := hide BX
      have BKK := hide BK
      obtain ⟨h0, h1⟩ := BX
      dsimp only at h0 h1
      clear hO7 hgb7 hlo7 g0 g1 BK O6 I6 Z6 GA6
      go_wp2_with (refine wpList_setE rfl _ _ rfl B ⟨s, n, c, t, m, q, [], []⟩ s7 (m + 1) c7 rfl rfl BKK.out BXX.out w1 G7.out (by rw [HB.out]; omega) ?_)
      intro w8 hg8 hb8 hk8 hoth8 hz8
      have G8 := hide hg8
      have M8 := hide (M7.out.setE GB7.out OO7.out MM.out LO7.out hb8 hk8 hoth8)
      obtain ⟨g0, g1⟩ := M8.out.box
      dsimp only at g0 g1
      have HEE : Hid (errG (NPre j true j) (EPre j ++ [⟨(l : Int), 2, 1⟩]) = 0) := hide (by
        rw [HL.out, show ((2 + j : Nat) : Int) = (j : Int) + 2 by omega]
        exact loop_errN j (by have := HN.out; omega) (by omega) true)
      have C9 := hide (graph_raw s n c s7 (m + 1) c7 (NPre j true j) (EPre j ++ [⟨(l : Int), 2, 1⟩]) w8 (by omega) (by omega) M8.out.rn.is M8.out.re.is HEE.out)
      clear hg8 hb8 hk8 hoth8 hz8 h0 h1 BXX BKK M7 GB7 OO7 LO7
      go_wp2_with fail
      refine C9.out.mono ?_
      rintro _ w9 ⟨rfl, hb⟩
      have G9 := hide (Grow.trans' G1.out (Grow.trans' G8.out hb))
      clear hb g0 g1
      go_wp2_with fail
      go_ret
      exact ⟨rfl, G9.out⟩
set_option maxHeartbeats 16000000 in
theorem loops_false (many : Int) (nm : Nat) (hn4 : nm ≤ 3) (hbits : bits .and .i64 many 3 = (nm : Int)) (w : World) :
    Calls Try.prog 7 #[.int .i64 many, .bool false] w fun r w' => r = .returned (.bool true) ∧ Grow w w' := by
  obtain ⟨nn, hnn⟩ : ∃ nn, nn = nm + 1 := ⟨_, rfl⟩
  have HN := hide hnn
  have hw1 : IntKind.i64.wrap (1 + (nm : Int)) = (nn : Int) := by rw [IntWalk.i64_in _ ⟨by omega, by omega⟩]; omega
  have hw2 : IntKind.i64.wrap ((nn : Int) - 1) = (nm : Int) := by rw [IntWalk.i64_in _ ⟨by omega, by omega⟩]; omega
  have hn5 : nn ≤ 4 := by omega
  clear hnn
  go_enter Try.func7, Try.ntmps7
  go_wp2_with fail
  refine (shown_any _).mono ?_
  rintro _ w1 ⟨rfl, hb⟩
  have G1 := hide hb
  have GG : Hid (Grow w1 (((w1.alloc (.cells #[.int .i64 1, .int .i64 0, .int .i64 0, .int .i64 0, .int .i64 8, .int .i64 0, .int .i64 0, .int .i64 1, .int .i64 4, .int .i64 0, .int .i64 0, .int .i64 1] 23)).alloc (.cells #[.int .i64 0, .int .i64 1, .int .i64 0, .int .i64 1, .int .i64 2, .int .i64 0] 50)).alloc (.cells #[.slice none 0 0, .slice none 0 0] 29))) := hide (Grow.trans' (Grow.trans' (Grow.alloc' _ _) (Grow.alloc' _ _)) (Grow.alloc' _ _))
  have KB : Hid (BlkG (((w1.alloc (.cells #[.int .i64 1, .int .i64 0, .int .i64 0, .int .i64 0, .int .i64 8, .int .i64 0, .int .i64 0, .int .i64 1, .int .i64 4, .int .i64 0, .int .i64 0, .int .i64 1] 23)).alloc (.cells #[.int .i64 0, .int .i64 1, .int .i64 0, .int .i64 1, .int .i64 2, .int .i64 0] 50)).alloc (.cells #[.slice none 0 0, .slice none 0 0] 29)) (w1.heap.size + 2)) := hide (by
    have hz : ((w1.alloc (.cells #[.int .i64 1, .int .i64 0, .int .i64 0, .int .i64 0, .int .i64 8, .int .i64 0, .int .i64 0, .int .i64 1, .int .i64 4, .int .i64 0, .int .i64 0, .int .i64 1] 23)).alloc (.cells #[.int .i64 0, .int .i64 1, .int .i64 0, .int .i64 1, .int .i64 2, .int .i64 0] 50)).heap.size = w1.heap.size + 2 := by simp
    rw [← hz]
    exact BlkG.new _ _ _)
  have ON : Hid (OwnN (((w1.alloc (.cells #[.int .i64 1, .int .i64 0, .int .i64 0, .int .i64 0, .int .i64 8, .int .i64 0, .int .i64 0, .int .i64 1, .int .i64 4, .int .i64 0, .int .i64 0, .int .i64 1] 23)).alloc (.cells #[.int .i64 0, .int .i64 1, .int .i64 0, .int .i64 1, .int .i64 2, .int .i64 0] 50)).alloc (.cells #[.slice none 0 0, .slice none 0 0] 29)) w1.heap.size (some ⟨w1.heap.size, 0, none⟩) 3 3 (NPre nn false 0)) := hide (by
    have h1 : OwnN (w1.alloc (.cells #[.int .i64 1, .int .i64 0, .int .i64 0, .int .i64 0, .int .i64 8, .int .i64 0, .int .i64 0, .int .i64 1, .int .i64 4, .int .i64 0, .int .i64 0, .int .i64 1] 23)) w1.heap.size (some ⟨w1.heap.size, 0, none⟩) 3 3 (NPre nn false 0) :=
      ⟨rfl, World.ownsRow_lit w1 #[.int .i64 1, .int .i64 0, .int .i64 0, .int .i64 0, .int .i64 8, .int .i64 0, .int .i64 0, .int .i64 1, .int .i64 4, .int .i64 0, .int .i64 0, .int .i64 1] 3 (Nat.le_refl _) (by simp [maxLen]) rfl, fun h => by cases h⟩
    exact (h1.later (Grow.alloc' _ _)).later (Grow.alloc' _ _))
  have OE : Hid (OwnE (((w1.alloc (.cells #[.int .i64 1, .int .i64 0, .int .i64 0, .int .i64 0, .int .i64 8, .int .i64 0, .int .i64 0, .int .i64 1, .int .i64 4, .int .i64 0, .int .i64 0, .int .i64 1] 23)).alloc (.cells #[.int .i64 0, .int .i64 1, .int .i64 0, .int .i64 1, .int .i64 2, .int .i64 0] 50)).alloc (.cells #[.slice none 0 0, .slice none 0 0] 29)) w1.heap.size (some ⟨w1.heap.size + 1, 0, none⟩) 2 2 (EPre 0)) := hide (by
    have hz : (w1.alloc (.cells #[.int .i64 1, .int .i64 0, .int .i64 0, .int .i64 0, .int .i64 8, .int .i64 0, .int .i64 0, .int .i64 1, .int .i64 4, .int .i64 0, .int .i64 0, .int .i64 1] 23)).heap.size = w1.heap.size + 1 := by simp
    have h1 : OwnE ((w1.alloc (.cells #[.int .i64 1, .int .i64 0, .int .i64 0, .int .i64 0, .int .i64 8, .int .i64 0, .int .i64 0, .int .i64 1, .int .i64 4, .int .i64 0, .int .i64 0, .int .i64 1] 23)).alloc (.cells #[.int .i64 0, .int .i64 1, .int .i64 0, .int .i64 1, .int .i64 2, .int .i64 0] 50)) w1.heap.size (some ⟨w1.heap.size + 1, 0, none⟩) 2 2 (EPre 0) := by
      have := World.ownsRow_lit (base := w1.heap.size) (e := 50) (size := 3) (w1.alloc (.cells #[.int .i64 1, .int .i64 0, .int .i64 0, .int .i64 0, .int .i64 8, .int .i64 0, .int .i64 0, .int .i64 1, .int .i64 4, .int .i64 0, .int .i64 0, .int .i64 1] 23)) #[.int .i64 0, .int .i64 1, .int .i64 0, .int .i64 1, .int .i64 2, .int .i64 0] 2 (by simp) (by simp [maxLen]) rfl
      rw [hz] at this
      exact ⟨rfl, this, fun h => by cases h⟩
    exact h1.later (Grow.alloc' _ _))
  have hzz : ((((w1.alloc (.cells #[.int .i64 1, .int .i64 0, .int .i64 0, .int .i64 0, .int .i64 8, .int .i64 0, .int .i64 0, .int .i64 1, .int .i64 4, .int .i64 0, .int .i64 0, .int .i64 1] 23)).alloc (.cells #[.int .i64 0, .int .i64 1, .int .i64 0, .int .i64 1, .int .i64 2, .int .i64 0] 50)).alloc (.cells #[.slice none 0 0, .slice none 0 0] 29))).heap.size = w1.heap.size + 3 := by simp
  clear hb
  go_wp2_with (refine wpList_putG2 rfl _ _ rfl (w1.heap.size + 2) ⟨some ⟨w1.heap.size, 0, none⟩, 3, 3, some ⟨w1.heap.size + 1, 0, none⟩, 2, 2, [], []⟩ rfl rfl KB.out w1 GG.out (by omega) ?_)
  intro w2 hg2 hb2 hk2 hoth hsz2
  have G2 := hide hg2
  have M2 : Hid (MkG w2 w1.heap.size (w1.heap.size + 2) (some ⟨w1.heap.size, 0, none⟩) 3 3 (some ⟨w1.heap.size + 1, 0, none⟩) 2 2 (NPre nn false 0) (EPre 0)) := hide ⟨hb2, hk2, ON.out.keep fun a ha => hoth _ (by cases ha; simp), OE.out.keep fun a ha => hoth _ (by cases ha; simp), fun a ha => by cases ha; simp, fun a ha => by cases ha; simp, fun a a' ha ha' => by cases ha; cases ha'; simp, by omega⟩
  obtain ⟨B, hB⟩ : ∃ B, B = w1.heap.size + 2 := ⟨_, rfl⟩
  have HB := hide hB
  rw [← hB] at M2
  rw [← hB]
  clear hg2 hb2 hk2 hoth hsz2 KB ON OE GG hB hzz
  go_wp2_with fail
  go_loopw [8, 9] (fun v8 v9 wr => ∃ (j l n m : Nat) (s : Option Addr) (c : Nat) (t : Option Addr) (q : Nat), j ≤ nn ∧ l = 2 + j ∧ n = 3 + j ∧ m = 2 + j ∧ v8 = .int .i64 (l : Int) ∧ v9 = .int .i64 (j : Int) ∧ Grow w1 wr ∧ MkG wr w1.heap.size B s n c t m q (NPre nn false j) (EPre j)) (fun _ v9 _ => nn - (intOf v9).toNat)
  case atStart => exact ⟨0, 2, 3, 2, _, _, _, _, Nat.zero_le _, rfl, rfl, rfl, rfl, rfl, G2.out, M2.out⟩
  case round =>
    obtain ⟨j, l, n, m, s, c, t, q, hj, hl, hn, hm, rfl, rfl, hg, hM⟩ := hrel
    have HL := hide hl
    have HNn := hide hn
    have HMm := hide hm
    have GR := hide hg
    have MM := hide hM
    have hl6 : l ≤ 6 := by omega
    have hn7 : n ≤ 7 := by omega
    have hm6 : m ≤ 6 := by omega
    clear hl hn hm
    by_cases hlt : j < nn
    · have hj2 : (j : Int) < (nn : Int) := by omega
      obtain ⟨n1, hn1⟩ : ∃ n1, n1 = n + 1 := ⟨_, rfl⟩
      have HN1 := hide hn1
      have hw3 : IntKind.i64.wrap ((n1 : Int) - 1) = (n : Int) := by rw [IntWalk.i64_in _ ⟨by omega, by omega⟩]; omega
      have HX : Hid (∀ x, x = ndAt nn false j → NPre nn false j ++ [x] = NPre nn false (j + 1)) := hide (fun x hx => by rw [hx, NPre_step])
      have HE : Hid (EPre j ++ [⟨(l : Int), (n : Int), 0⟩] = EPre (j + 1)) := hide (by
        rw [EPre_step, HL.out, HNn.out]
        have e1 : ((2 + j : Nat) : Int) = (j : Int) + 2 := by omega
        have e2 : ((3 + j : Nat) : Int) = (j : Int) + 3 := by omega
        rw [e1, e2])
      clear hg hM hn1
      obtain ⟨g0, g1⟩ := MM.out.box
      dsimp only at g0 g1
      by_cases hjn : j = nm
      · have ND : Hid (ndAt nn false j = ⟨5, 0, 0, 1⟩) := hide (by unfold ndAt; rw [if_neg]; intro h; cases h.2)
        have hjb : ((j : Int) == (nm : Int)) = true := by simp [hjn]
        have HJN := hide hjn
        clear hjn
        go_wp2_with (refine wpList_putN2 rfl _ _ rfl wr.heap.size ⟨5, 0, 0, 1⟩ rfl rfl (BlkN.new wr) wr (Grow.alloc' _ _) (Nat.le_refl _) ?_)
        intro w3 hg3 hb3 hk3
        have G3 := hide (Grow.trans' GR.out hg3)
        have G33 := hide hg3
        have M3 := hide (MM.out.later hg3)
        have KB3 := hide hk3
        obtain ⟨x0, x1, x2, x3⟩ := hb3
        obtain ⟨g0', g1'⟩ := M3.out.box
        dsimp only at x0 x1 x2 x3 g0' g1'
        obtain ⟨XB, hXB⟩ : ∃ XB, XB = wr.heap.size := ⟨_, rfl⟩
        have HXB := hide hXB
        rw [← hXB] at x0 x1 x2 x3 KB3
        rw [← hXB]
        clear hg3 hk3 g0 g1 hXB
        obtain ⟨w4, hw4⟩ : ∃ w4, w4 = w3 := ⟨_, rfl⟩
        subst hw4
        have G4 := G3
        have M4 := M3
        have O4 := hide (M4.out.rn.later (Grow.alloc' w4 (.cells #[.int .i64 5, .int .i64 0, .int .i64 0, .int .i64 1] 23)))
        have M5 := hide (M4.out.later (Grow.alloc' w4 (.cells #[.int .i64 5, .int .i64 0, .int .i64 0, .int .i64 1] 23)))
        have I4 := hide (isNds_one w4 ⟨5, 0, 0, 1⟩)
        have Z4 : Hid (w1.heap.size ≤ (w4.alloc (.cells #[.int .i64 5, .int .i64 0, .int .i64 0, .int .i64 1] 23)).heap.size) := hide (by have := G4.out.size; simp; omega)
        have GA4 := hide (Grow.trans' G4.out (Grow.alloc' w4 (.cells #[.int .i64 5, .int .i64 0, .int .i64 0, .int .i64 1] 23)))
        dsimp only at I4
        go_wp2_with (at_builtin; refine wpList_apx_nd rfl _ _ rfl w1.heap.size s n c (NPre nn false j) [⟨5, 0, 0, 1⟩] rfl O4.out (some ⟨w4.heap.size, 0, none⟩) 1 1 rfl I4.out (by omega) Z4.out w4.heap.size (by simp) ?_)
        intro s5 c5 w5 hO5 hgb5 hlo5
        have OO5 := hide hO5
        have GB5 := hide hgb5
        have LO5 := hide hlo5
        have G5 := hide (hgb5.grow GA4.out (Nat.le_refl _))
        obtain ⟨BX, BK⟩ := M5.out.boxN hgb5
        have BXX := hide BX
        have BKK := hide BK
        obtain ⟨h0, h1⟩ := BX
        dsimp only at h0 h1
        clear hO5 hgb5 hlo5 x0 x1 x2 x3 g0' g1' BK O4 I4 Z4 GA4
        rw [← HN1.out] at OO5
        rw [← HN1.out]
        go_wp2_with (refine wpList_setN rfl _ _ rfl B ⟨s, n, c, t, m, q, [], []⟩ s5 n1 c5 rfl rfl BKK.out BXX.out w1 G5.out (by rw [HB.out]; omega) ?_)
        intro w6 hg6 hb6 hk6 hoth6 hz6
        have G6 := hide hg6
        have M6 := hide (M5.out.setN GB5.out OO5.out M4.out LO5.out hb6 hk6 hoth6)
        rw [HX.out _ ND.out.symm] at M6
        obtain ⟨g0, g1⟩ := M6.out.box
        dsimp only at g0 g1
        have O6 := hide (M6.out.re.later (Grow.alloc' w6 (.cells #[.int .i64 (l : Int), .int .i64 (n : Int), .int .i64 0] 50)))
        have M7 := hide (M6.out.later (Grow.alloc' w6 (.cells #[.int .i64 (l : Int), .int .i64 (n : Int), .int .i64 0] 50)))
        have I6 := hide (isEds_one w6 ⟨(l : Int), (n : Int), 0⟩)
        have Z6 : Hid (w1.heap.size ≤ (w6.alloc (.cells #[.int .i64 (l : Int), .int .i64 (n : Int), .int .i64 0] 50)).heap.size) := hide (by have := G6.out.size; simp; omega)
        have GA6 := hide (Grow.trans' G6.out (Grow.alloc' w6 (.cells #[.int .i64 (l : Int), .int .i64 (n : Int), .int .i64 0] 50)))
        dsimp only at I6
        clear hg6 hb6 hk6 hoth6 hz6 h0 h1 BXX BKK M5 GB5 OO5 LO5
        go_wp2_with (refine wpList_apx_ed rfl _ _ rfl w1.heap.size t m q (EPre j) [⟨(l : Int), (n : Int), 0⟩] rfl O6.out (some ⟨w6.heap.size, 0, none⟩) 1 1 rfl I6.out (by omega) Z6.out w6.heap.size (by simp) ?_)
        intro s7 c7 w7 hO7 hgb7 hlo7
        have OO7 := hide hO7
        have GB7 := hide hgb7
        have LO7 := hide hlo7
        have G7 := hide (hgb7.grow GA6.out (Nat.le_refl _))
        obtain ⟨BX, BK⟩ := M7.out.boxE hgb7
        have BXX := hide BX
        have BKK := hide BK
        obtain ⟨h0, h1⟩ := BX
        dsimp only at h0 h1
        clear hO7 hgb7 hlo7 g0 g1 BK O6 I6 Z6 GA6
        go_wp2_with (refine wpList_setE rfl _ _ rfl B ⟨s5, n1, c5, t, m, q, [], []⟩ s7 (m + 1) c7 rfl rfl BKK.out BXX.out w1 G7.out (by rw [HB.out]; omega) ?_)
        intro w8 hg8 hb8 hk8 hoth8 hz8
        have G8 := hide hg8
        have M8 := hide (M7.out.setE GB7.out OO7.out M6.out LO7.out hb8 hk8 hoth8)
        rw [HE.out] at M8
        obtain ⟨g0, g1⟩ := M8.out.box
        dsimp only at g0 g1
        clear hg8 hb8 hk8 hoth8 hz8 h0 h1 BXX BKK M7 GB7 OO7 LO7
        go_wp2_with fail
        go_roundw
        case rel => exact ⟨j + 1, n, n1, m + 1, s5, c5, s7, c7, by omega, by rw [HNn.out]; omega, by rw [HN1.out, HNn.out]; omega, by rw [HMm.out]; omega, rfl, by go_num, G8.out, M8.out⟩
        case measure => simp [intOf]; omega
      · have ND : Hid (ndAt nn false j = ⟨5, 0, 0, 1⟩) := hide (by unfold ndAt; rw [if_neg]; intro h; cases h.2)
        have hjb : ((j : Int) == (nm : Int)) = false := by simp; omega
        have HJN := hide hjn
        clear hjn
        go_wp2_with (refine wpList_putN2 rfl _ _ rfl wr.heap.size ⟨5, 0, 0, 1⟩ rfl rfl (BlkN.new wr) wr (Grow.alloc' _ _) (Nat.le_refl _) ?_)
        intro w3 hg3 hb3 hk3
        have G3 := hide (Grow.trans' GR.out hg3)
        have G33 := hide hg3
        have M3 := hide (MM.out.later hg3)
        have KB3 := hide hk3
        obtain ⟨x0, x1, x2, x3⟩ := hb3
        obtain ⟨g0', g1'⟩ := M3.out.box
        dsimp only at x0 x1 x2 x3 g0' g1'
        obtain ⟨XB, hXB⟩ : ∃ XB, XB = wr.heap.size := ⟨_, rfl⟩
        have HXB := hide hXB
        rw [← hXB] at x0 x1 x2 x3 KB3
        rw [← hXB]
        clear hg3 hk3 g0 g1 hXB
        obtain ⟨w4, hw4⟩ : ∃ w4, w4 = w3 := ⟨_, rfl⟩
        subst hw4
        have G4 := G3
        have M4 := M3
        have O4 := hide (M4.out.rn.later (Grow.alloc' w4 (.cells #[.int .i64 5, .int .i64 0, .int .i64 0, .int .i64 1] 23)))
        have M5 := hide (M4.out.later (Grow.alloc' w4 (.cells #[.int .i64 5, .int .i64 0, .int .i64 0, .int .i64 1] 23)))
        have I4 := hide (isNds_one w4 ⟨5, 0, 0, 1⟩)
        have Z4 : Hid (w1.heap.size ≤ (w4.alloc (.cells #[.int .i64 5, .int .i64 0, .int .i64 0, .int .i64 1] 23)).heap.size) := hide (by have := G4.out.size; simp; omega)
        have GA4 := hide (Grow.trans' G4.out (Grow.alloc' w4 (.cells #[.int .i64 5, .int .i64 0, .int .i64 0, .int .i64 1] 23)))
        dsimp only at I4
        go_wp2_with (at_builtin; refine wpList_apx_nd rfl _ _ rfl w1.heap.size s n c (NPre nn false j) [⟨5, 0, 0, 1⟩] rfl O4.out (some ⟨w4.heap.size, 0, none⟩) 1 1 rfl I4.out (by omega) Z4.out w4.heap.size (by simp) ?_)
        intro s5 c5 w5 hO5 hgb5 hlo5
        have OO5 := hide hO5
        have GB5 := hide hgb5
        have LO5 := hide hlo5
        have G5 := hide (hgb5.grow GA4.out (Nat.le_refl _))
        obtain ⟨BX, BK⟩ := M5.out.boxN hgb5
        have BXX := hide BX
        have BKK := hide BK
        obtain ⟨h0, h1⟩ := BX
        dsimp only at h0 h1
        clear hO5 hgb5 hlo5 x0 x1 x2 x3 g0' g1' BK O4 I4 Z4 GA4
        rw [← HN1.out] at OO5
        rw [← HN1.out]
        go_wp2_with (refine wpList_setN rfl _ _ rfl B ⟨s, n, c, t, m, q, [], []⟩ s5 n1 c5 rfl rfl BKK.out BXX.out w1 G5.out (by rw [HB.out]; omega) ?_)
        intro w6 hg6 hb6 hk6 hoth6 hz6
        have G6 := hide hg6
        have M6 := hide (M5.out.setN GB5.out OO5.out M4.out LO5.out hb6 hk6 hoth6)
        rw [HX.out _ ND.out.symm] at M6
        obtain ⟨g0, g1⟩ := M6.out.box
        dsimp only at g0 g1
        have O6 := hide (M6.out.re.later (Grow.alloc' w6 (.cells #[.int .i64 (l : Int), .int .i64 (n : Int), .int .i64 0] 50)))
        have M7 := hide (M6.out.later (Grow.alloc' w6 (.cells #[.int .i64 (l : Int), .int .i64 (n : Int), .int .i64 0] 50)))
        have I6 := hide (isEds_one w6 ⟨(l : Int), (n : Int), 0⟩)
        have Z6 : Hid (w1.heap.size ≤ (w6.alloc (.cells #[.int .i64 (l : Int), .int .i64 (n : Int), .int .i64 0] 50)).heap.size) := hide (by have := G6.out.size; simp; omega)
        have GA6 := hide (Grow.trans' G6.out (Grow.alloc' w6 (.cells #[.int .i64 (l : Int), .int .i64 (n : Int), .int .i64 0] 50)))
        dsimp only at I6
        clear hg6 hb6 hk6 hoth6 hz6 h0 h1 BXX BKK M5 GB5 OO5 LO5
        go_wp2_with (refine wpList_apx_ed rfl _ _ rfl w1.heap.size t m q (EPre j) [⟨(l : Int), (n : Int), 0⟩] rfl O6.out (some ⟨w6.heap.size, 0, none⟩) 1 1 rfl I6.out (by omega) Z6.out w6.heap.size (by simp) ?_)
        intro s7 c7 w7 hO7 hgb7 hlo7
        have OO7 := hide hO7
        have GB7 := hide hgb7
        have LO7 := hide hlo7
        have G7 := hide (hgb7.grow GA6.out (Nat.le_refl _))
        obtain ⟨BX, BK⟩ := M7.out.boxE hgb7
        have BXX := hide BX
        have BKK := hide BK
        obtain ⟨h0, h1⟩ := BX
        dsimp only at h0 h1
        clear hO7 hgb7 hlo7 g0 g1 BK O6 I6 Z6 GA6
        go_wp2_with (refine wpList_setE rfl _ _ rfl B ⟨s5, n1, c5, t, m, q, [], []⟩ s7 (m + 1) c7 rfl rfl BKK.out BXX.out w1 G7.out (by rw [HB.out]; omega) ?_)
        intro w8 hg8 hb8 hk8 hoth8 hz8
        have G8 := hide hg8
        have M8 := hide (M7.out.setE GB7.out OO7.out M6.out LO7.out hb8 hk8 hoth8)
        rw [HE.out] at M8
        obtain ⟨g0, g1⟩ := M8.out.box
        dsimp only at g0 g1
        clear hg8 hb8 hk8 hoth8 hz8 h0 h1 BXX BKK M7 GB7 OO7 LO7
        go_wp2_with fail
        go_roundw
        case rel => exact ⟨j + 1, n, n1, m + 1, s5, c5, s7, c7, by omega, by rw [HNn.out]; omega, by rw [HN1.out, HNn.out]; omega, by rw [HMm.out]; omega, rfl, by go_num, G8.out, M8.out⟩
        case measure => simp [intOf]; omega
    · have hjn : j = nn := by omega
      subst hjn
      have hj2 : ¬ (j : Int) < (j : Int) := by omega
      obtain ⟨g0, g1⟩ := MM.out.box
      dsimp only at g0 g1
      have O6 := hide (MM.out.re.later (Grow.alloc' wr (.cells #[.int .i64 (l : Int), .int .i64 2, .int .i64 1] 50)))
      have M7 := hide (MM.out.later (Grow.alloc' wr (.cells #[.int .i64 (l : Int), .int .i64 2, .int .i64 1] 50)))
      have I6 := hide (isEds_one wr ⟨(l : Int), 2, 1⟩)
      have Z6 : Hid (w1.heap.size ≤ (wr.alloc (.cells #[.int .i64 (l : Int), .int .i64 2, .int .i64 1] 50)).heap.size) := hide (by have := GR.out.size; simp; omega)
      have GA6 := hide (Grow.trans' GR.out (Grow.alloc' wr (.cells #[.int .i64 (l : Int), .int .i64 2, .int .i64 1] 50)))
      dsimp only at I6
      clear hg hM
      go_wp2_with (at_builtin; refine wpList_apx_ed rfl _ _ rfl w1.heap.size t m q (EPre j) [⟨(l : Int), 2, 1⟩] rfl O6.out (some ⟨wr.heap.size, 0, none⟩) 1 1 rfl I6.out (by omega) Z6.out wr.heap.size (by simp) ?_)
      intro s7 c7 w7 hO7 hgb7 hlo7
      have OO7 := hide hO7
      have GB7 := hide hgb7
      have LO7 := hide hlo7
      have G7 := hide (hgb7.grow GA6.out (Nat.le_refl _))
      obtain ⟨BX, BK⟩ := M7.out.boxE hgb7
      have BXX := hide BX
      have BKK := hide BK
      obtain ⟨h0, h1⟩ := BX
      dsimp only at h0 h1
      clear hO7 hgb7 hlo7 g0 g1 BK O6 I6 Z6 GA6
      go_wp2_with (refine wpList_setE rfl _ _ rfl B ⟨s, n, c, t, m, q, [], []⟩ s7 (m + 1) c7 rfl rfl BKK.out BXX.out w1 G7.out (by rw [HB.out]; omega) ?_)
      intro w8 hg8 hb8 hk8 hoth8 hz8
      have G8 := hide hg8
      have M8 := hide (M7.out.setE GB7.out OO7.out MM.out LO7.out hb8 hk8 hoth8)
      obtain ⟨g0, g1⟩ := M8.out.box
      dsimp only at g0 g1
      have HEE : Hid (errG (NPre j false j) (EPre j ++ [⟨(l : Int), 2, 1⟩]) = 14) := hide (by
        rw [HL.out, show ((2 + j : Nat) : Int) = (j : Int) + 2 by omega]
        exact loop_errN j (by have := HN.out; omega) (by omega) false)
      have C9 := hide (graph_raw s n c s7 (m + 1) c7 (NPre j false j) (EPre j ++ [⟨(l : Int), 2, 1⟩]) w8 (by omega) (by omega) M8.out.rn.is M8.out.re.is HEE.out)
      clear hg8 hb8 hk8 hoth8 hz8 h0 h1 BXX BKK M7 GB7 OO7 LO7
      go_wp2_with fail
      refine C9.out.mono ?_
      rintro _ w9 ⟨rfl, hb⟩
      have G9 := hide (Grow.trans' G1.out (Grow.trans' G8.out hb))
      clear hb g0 g1
      go_wp2_with fail
      go_ret
      exact ⟨rfl, G9.out⟩
theorem ValidLoops_any (many : Int) (feed : Bool) (w : World) :
    Calls Try.prog 7 #[.int .i64 many, .bool feed] w fun r w' => r = .returned (.bool true) ∧ Grow w w' := by
  obtain ⟨k, hk, hb⟩ := and3 many
  cases feed
  · exact loops_false many k hk hb w
  · exact loops_true many k hk hb w

set_option maxRecDepth 100000 in
theorem ValidLoops_lifted (os : Os) (started : os.Started) (H : Type) (enc : TypeId × Value → H) :
    ReturnsInHanded {} Try.checked os 7 .any (Rows.validLoopsSpec.pre6 enc Try.prog Try.f7 Rows.validLoopsRow.domain false) (Rows.validLoopsSpec.post enc Try.prog Try.f7 false true false false) := by
  refine returnsInHanded_of_change (C := Try.checked) own started (by kernel_rfl) Try.func7
    (ChangeSpec.witness6 (enc := enc) (C := Try.checked) false ⟨#[], #[.int .i64 0, .bool false], []⟩ 8 (by kernel_rfl) (by kernel_rfl) (by kernel_rfl) (by kernel_rfl)) ?_
  intro W base args ds gs before hval0 hW hcnd _
  have hval : ∀ (j : Nat) t v, Try.f7.params[j]? = some t → args[j]? = some v → Value.okWide Try.prog W .any base t v := hval0
  have hW' := hW
  obtain ⟨p, q, hA0, hV, rfl, hfz, hnd⟩ := hW
  have hA : DataW.TrodAll enc Try.prog W 0 (fun _ => true) true Try.f7.params.toList args.toList ds p := hA0
  rw [Try.params7] at hA hval
  obtain ⟨v0, vs0, d0, ds0, p0, q0, hargs, rfl, rfl, h0, r0⟩ := trodAll_cons hA
  obtain ⟨v1, vs1, d1, ds1, p1, q1, rfl, rfl, rfl, h1, r1⟩ := trodAll_cons r0
  obtain ⟨rfl, rfl, rfl⟩ := trodAll_nil r1
  obtain rfl : args = #[v0, v1] := by cases args; simp_all
  obtain ⟨rfl, rfl⟩ := trodVars_none hV
  obtain ⟨a0, rfl, rfl, rfl, w0⟩ := open_int Try.underlying3 (hval 0 3 v0 rfl rfl) h0
  obtain ⟨a1, rfl, rfl, rfl⟩ := open_bool Try.underlying4 (hval 1 4 v1 rfl rfl) h1
  clear hA0 hval0
  refine (ValidLoops_any a0 a1 W).mono fun e W' ⟨he, bel⟩ => ?_
  subst he
  exact ⟨_, rfl, _, _, _, [], _, [], hW', trodAll_mk1 (shut_bool Try.underlying4 _), (trodAll_cons_mk (shut_int Try.underlying3 w0) (trodAll_cons_mk (shut_bool Try.underlying4 a1) trodAll_mk0)), rfl, bel.frame _, fun h => by cases h⟩

/-- The given statement. -/
theorem ValidLoops_holds : Rows.ValidLoopsSaid :=
  OpenClaim.holds_of_wide 7 Try.f7 rfl rfl rfl rfl rfl rfl rfl ⟨rfl, rfl, rfl, rfl, rfl⟩ rfl rfl rfl rfl rfl (by kernel_rfl) Try.func7 (by kernel_rfl)
    (of_decide_eq_true (by kernel_rfl)) (by unfold Func.isWrapper; first | (rw [if_pos (by decide +kernel)]; kernel_rfl) | (rw [if_neg (by decide +kernel)]; exact ⟨rfl, rfl⟩))
    (fun os started H enc _ => ValidLoops_lifted os started H enc)


end Go.Proofs.Ytdgmfjaldicmgaa
