/-
  What gcode's Take does to the world: of bytes that are a graph's it returns the graph, else the error; what was there stays as it was.
-/
import Derived.Test.YtjebipagehhkjaaGreatKRh
/-
  What bytes' CutPrefix, HasPrefix and Equal do to the world, and what gcode's Take does: of bytes that are a graph's it returns the graph, in rows of the call's own, else the error; what was there stays as it was.
-/
namespace Go.Proofs.YtjebipagehhkjaaGreat
set_option maxRecDepth 100000
open Go.ChangeShapes Go.WideShapes Go.ChangeAt Go.RowKit Go.Deep Go.Sort
set_option linter.unusedVariables false
set_option linter.unusedSimpArgs false

theorem run_headU (a : Option Addr) (n cap k : Nat) (w : World) (h1 : (k : Int) ≤ (cap : Int)) :
    (Instr.slice 22 (.slice a n cap) none (some (.int .i64 (k : Int))) none).run Tryz.prog w = .ok (.slice a k cap) w := by
  have h0 : (0 : Int) ≤ (k : Int) := by omega
  have z := Tryz.sizeOf5
  cases a with
  | none => simp [go_sem, h1]
  | some a =>
    obtain ⟨b, o, s⟩ := a
    by_cases hc : cap = 0
    · have hk : k = 0 := by omega
      subst hk
      simp [go_sem, hc]
    · simp [go_sem, h1, hc]
theorem equal_at (s : Option Addr) (n c : Nat) (d : List UInt8) (t : Option Addr) (m q : Nat) (e : List UInt8) {z : Bool} (hz : decide (d = e) = z) (w : World) (hI : IsBy w s n c d) (hJ : IsBy w t m q e) :
    Calls Tryz.prog 39 #[.slice s n c, .slice t m q] w fun r w' => r = .returned (.bool z) ∧ w' = w := by
  have k1 := run_str_by byT Tryz.underlying9 w s n c d hI
  have k2 := run_str_by byT Tryz.underlying9 w t m q e hJ
  have HZ := hide hz
  clear hI hJ hz
  go_enter Tryz.func39, Tryz.ntmps39
  go_wp2_with fail
  go_ret
  exact ⟨ret_bool (by rw [← HZ.out]; simp), rfl⟩
/-- Do bytes begin with the two letters? -/
def begB (d : List UInt8) : Bool := decide (2 ≤ d.length) && decide (d.take 2 = [77, 71])
theorem hasP_0 (s : Option Addr) (n c : Nat) (d : List UInt8) (t : Option Addr) (q : Nat) (w : World) (hn : ¬ 2 ≤ n) :
    Calls Tryz.prog 22 #[.slice s n c, .slice t 2 q] w fun r w' => r = .returned (.bool false) ∧ w' = w := by
  have i1 : ¬ (2 : Int) ≤ (n : Int) := by omega
  clear hn
  go_enter Tryz.func22, Tryz.ntmps22
  go_wp2_with fail
  go_ret
  exact ⟨rfl, rfl⟩
theorem hasP_1 (s : Option Addr) (n c : Nat) (d : List UInt8) (t : Option Addr) (q : Nat) {z : Bool} (hz : decide (d.take 2 = [77, 71]) = z) (w : World) (hn : 2 ≤ n) (hI : IsBy w s n c d) (hJ : IsBy w t 2 q [77, 71]) :
    Calls Tryz.prog 22 #[.slice s n c, .slice t 2 q] w fun r w' => r = .returned (.bool z) ∧ w' = w := by
  have i1 : (2 : Int) ≤ (n : Int) := by omega
  have kh : ∀ w, (Instr.slice 22 (.slice s n c) none (some (.int .i64 2)) none).run Tryz.prog w = .ok (.slice s 2 c) w := fun w => run_headU s n c 2 w (by have := hI.2.1; omega)
  have C := hide (equal_at s 2 c (d.take 2) t 2 q [77, 71] hz w (hI.take' 2 hn) hJ)
  clear hn hI hJ hz
  go_enter Tryz.func22, Tryz.ntmps22
  go_wp2_with fail
  refine C.out.mono ?_
  rintro _ w1 ⟨rfl, hw⟩
  obtain rfl : w = w1 := hw.symm
  clear kh
  cases z
  all_goals
    go_wp2_with fail
    go_ret
    exact ⟨rfl, rfl⟩
theorem hasP_any (s : Option Addr) (n c : Nat) (d : List UInt8) (t : Option Addr) (q : Nat) {z : Bool} (hz : begB d = z) (w : World) (hI : IsBy w s n c d) (hJ : IsBy w t 2 q [77, 71]) :
    Calls Tryz.prog 22 #[.slice s n c, .slice t 2 q] w fun r w' => r = .returned (.bool z) ∧ w' = w := by
  unfold begB at hz
  rw [hI.1] at hz
  by_cases h : 2 ≤ n
  · rw [decide_eq_true h, Bool.true_and] at hz
    exact hasP_1 s n c d t q hz w h hI hJ
  · rw [decide_eq_false h, Bool.false_and] at hz
    subst hz
    exact hasP_0 s n c d t q w h
theorem cut_any (s : Option Addr) (n c : Nat) (d : List UInt8) (t : Option Addr) (q : Nat) {z : Bool} (hz : begB d = z) (w : World) (hI : IsBy w s n c d) (hJ : IsBy w t 2 q [77, 71]) :
    Calls Tryz.prog 13 #[.slice s n c, .slice t 2 q] w fun r w' => w' = w ∧ ∃ s' n' c' d', r = .returned (.tuple #[.slice s' n' c', .bool z]) ∧ IsBy w s' n' c' d' ∧ (z = true → d' = d.drop 2) := by
  have C := hide (hasP_any s n c d t q hz w hI hJ)
  have HI := hide hI
  cases z
  · clear hI hJ hz
    go_enter Tryz.func13, Tryz.ntmps13
    go_wp2_with fail
    refine C.out.mono ?_
    rintro _ w1 ⟨rfl, hw⟩
    obtain rfl : w = w1 := hw.symm
    go_wp2_with fail
    exact bodyPost_ret (v := .tuple #[.slice s n c, .bool false]) (by simp [results, Tryz.results13, go_sem]) rfl ⟨rfl, s, n, c, d, rfl, HI.out, fun h => by cases h⟩
  · have hn : 2 ≤ n := by
      rw [← hI.1]
      unfold begB at hz
      simp only [Bool.and_eq_true, decide_eq_true_eq] at hz
      exact hz.1
    have HN := hide hn
    have kt : ∀ w, (Instr.slice 22 (.slice s n c) (some (.int .i64 2)) none none).run Tryz.prog w = .ok (.slice (fromU s c 2) (n - 2) (c - 2)) w := fun w => run_tailU s n c 2 w (by omega)
    clear hI hJ hz hn
    go_enter Tryz.func13, Tryz.ntmps13
    go_wp2_with fail
    refine C.out.mono ?_
    rintro _ w1 ⟨rfl, hw⟩
    obtain rfl : w = w1 := hw.symm
    go_wp2_with fail
    exact bodyPost_ret (v := .tuple #[.slice (fromU s c 2) (n - 2) (c - 2), .bool true]) (by simp [results, Tryz.results13, go_sem]) rfl ⟨rfl, _, _, _, d.drop 2, rfl, HI.out.from' 2 HN.out, fun _ => rfl⟩
end Go.Proofs.YtjebipagehhkjaaGreat
namespace Go.Proofs.YtjebipagehhkjaaGreat
set_option maxRecDepth 100000
open Go.ChangeShapes Go.WideShapes Go.ChangeAt Go.RowKit Go.Deep Go.Sort
set_option linter.unusedVariables false
set_option linter.unusedSimpArgs false

theorem ndsAt_drop (d : List UInt8) (i j n : Nat) : ndsAt (d.drop i) j n = ndsAt d (i + j) n := by
  rw [← nds_drop (d.drop i) j n, ← nds_drop d (i + j) n, List.drop_drop]
theorem edsAt_drop (d : List UInt8) (i j n : Nat) : edsAt (d.drop i) j n = edsAt d (i + j) n := by
  rw [← eds_drop (d.drop i) j n, ← eds_drop d (i + j) n, List.drop_drop]
theorem beg_at {d : List UInt8} : begB d = (decide (2 ≤ d.length) && (decide (atB d 0 = 77) && decide (atB d 1 = 71))) := by
  unfold begB
  match d with
  | [] => simp
  | [x] => simp
  | x :: y :: r =>
    simp [atB]
theorem isB_no {d : List UInt8} (h : begB d = false) : isB10 d = false := by
  cases hb : isB10 d with
  | false => rfl
  | true =>
    obtain ⟨h1, h2, h3, h4, h5⟩ := isB10_iff.1 hb
    rw [beg_at, decide_eq_true (by omega), decide_eq_true h2, decide_eq_true h3] at h
    cases h
/-- The code's own way of telling. -/
theorem isB_code {d : List UInt8} (h : begB d = true) : isB10 d = (!decide ((d.drop 2).length < 2 + 6 * nn d + 3 * ne d) && decide (((d.drop 2).drop (2 + 6 * nn d + 3 * ne d)).length = 0)) := by
  rw [beg_at] at h
  simp only [Bool.and_eq_true, decide_eq_true_eq] at h
  obtain ⟨h1, h2, h3⟩ := h
  rw [List.length_drop, List.length_drop]
  unfold isB10
  rw [decide_eq_true h2, decide_eq_true h3, Bool.and_true, Bool.and_true]
  by_cases a1 : d.length - 2 < 2 + 6 * nn d + 3 * ne d
  · rw [decide_eq_true a1]
    have : ¬ d.length = 4 + 6 * nn d + 3 * ne d := by omega
    rw [decide_eq_false this]
    simp
  · rw [decide_eq_false a1, decide_eq_true (by omega : 4 ≤ d.length), decide_eq_true (by omega : 4 + 6 * nn d ≤ d.length)]
    simp only [Bool.true_and, Bool.not_false]
    exact decide_eq_decide.2 (by rw [List.length_drop]; omega)
theorem take_parts {d d' : List UInt8} {nx mx : Nat} (h : begB d = true) (hd : d' = d.drop 2) (hn : nx = (atB d' 0).toNat) (hm : mx = (atB d' (1 + 6 * nx)).toNat) :
    isB10 d = (!decide (d'.length < 2 + 6 * nx + 3 * mx) && decide ((d'.drop (2 + 6 * nx + 3 * mx)).length = 0)) ∧ nn d = nx ∧ ne d = mx ∧ ndsAt d' 1 nx = tkN d ∧ edsAt d' (2 + 6 * nx) mx = tkE d := by
  have e1 : nn d = nx := by rw [hn, hd, atB_drop]; rfl
  have e2 : ne d = mx := by
    unfold ne
    rw [e1, hm, hd, atB_drop, show 2 + (1 + 6 * nx) = 3 + 6 * nx by omega]
  refine ⟨?_, e1, e2, ?_, ?_⟩
  · rw [isB_code h, e1, e2, hd]
  · unfold tkN
    rw [hd, ndsAt_drop, e1]
  · unfold tkE
    rw [hd, edsAt_drop, e1, e2, show 2 + (2 + 6 * nx) = 4 + 6 * nx by omega]
def Taken (d : List UInt8) (w : World) (e : Ending) (w' : World) : Prop :=
  Grow w w' ∧ ((isB10 d = true ∧ ∃ s c t q, e = .returned (.tuple #[.agg #[.slice s (nn d) c, .slice t (ne d) q], .int .i64 0]) ∧ OwnN w' w.heap.size s (nn d) c (tkN d) ∧ OwnE w' w.heap.size t (ne d) q (tkE d)) ∨ (isB10 d = false ∧ e = .returned (.tuple #[.agg #[.slice none 0 0, .slice none 0 0], .int .i64 2])))
set_option maxHeartbeats 4000000 in
theorem take_any (s : Option Addr) (n c : Nat) (d : List UInt8) (w : World) (hI : IsBy w s n c d) : Calls Tryz.prog 6 #[.slice s n c] w fun e w' => Taken d w e w' := by
  have hz0 : (w.alloc (.cells #[.slice none 0 0, .slice none 0 0] 27)).heap.size = w.heap.size + 1 := by simp
  have kc : (convert 22 22 (.slice (some ⟨w.heap.size + 1, 0, none⟩) 2 2)).run Tryz.prog ((w.alloc (.cells #[.slice none 0 0, .slice none 0 0] 27)).alloc (.cells #[.int .u8 77, .int .u8 71] 5)) = .ok (.slice (some ⟨w.heap.size + 1, 0, none⟩) 2 2) ((w.alloc (.cells #[.slice none 0 0, .slice none 0 0] 27)).alloc (.cells #[.int .u8 77, .int .u8 71] 5 (2, 3))) := by
    have := Lib.run_convert_bytes_const (P := Tryz.prog) (w.alloc (.cells #[.slice none 0 0, .slice none 0 0] 27)) 22 5 #[.int .u8 77, .int .u8 71] 2 2 Tryz.underlying22 Tryz.underlying5
    rw [hz0] at this
    exact this
  have GM : Hid (Grow w ((w.alloc (.cells #[.slice none 0 0, .slice none 0 0] 27)).alloc (.cells #[.int .u8 77, .int .u8 71] 5 (2, 3)))) := hide (Grow.trans' (Grow.alloc' _ _) (Grow.alloc' _ _))
  have HB : Hid (BlkG ((w.alloc (.cells #[.slice none 0 0, .slice none 0 0] 27)).alloc (.cells #[.int .u8 77, .int .u8 71] 5 (2, 3))) w.heap.size) := hide ((BlkG.new w _ _).later (Grow.alloc' _ _))
  have HJ : Hid (IsBy ((w.alloc (.cells #[.slice none 0 0, .slice none 0 0] 27)).alloc (.cells #[.int .u8 77, .int .u8 71] 5 (2, 3))) (some ⟨w.heap.size + 1, 0, none⟩) 2 2 [77, 71]) := hide (by
    refine ⟨rfl, Nat.le_refl _, .inr ⟨w.heap.size + 1, 0, rfl, fun j v hj => ?_⟩⟩
    have h1 := (MapKept.heap_alloc (w.alloc (.cells #[.slice none 0 0, .slice none 0 0] 27)) (.cells #[.int .u8 77, .int .u8 71] 5 (2, 3))).1
    rw [hz0] at h1
    rw [Nat.zero_add, cell_of_row' _ _ _ _ _ _ h1]
    have : j = 0 ∨ j = 1 := by
      have := (List.getElem?_eq_some_iff.1 hj).1
      simp [flatU] at this
      omega
    rcases this with rfl | rfl <;> simp [flatU] at hj <;> subst hj <;> rfl)
  have HI := hide hI
  have HM : Hid (((w.alloc (.cells #[.slice none 0 0, .slice none 0 0] 27)).alloc (.cells #[.int .u8 77, .int .u8 71] 5 (2, 3))).heap.size = w.heap.size + 2) := hide (by simp)
  clear hI hz0
  obtain ⟨z, hz⟩ : ∃ z, begB d = z := ⟨_, rfl⟩
  have HZ := hide hz
  clear hz
  go_enter Tryz.func6, Tryz.ntmps6
  go_wp2_with fail
  generalize ((w.alloc (.cells #[.slice none 0 0, .slice none 0 0] 27)).alloc (.cells #[.int .u8 77, .int .u8 71] 5 (2, 3))) = w1 at *
  clear kc
  refine (cut_any s n c d _ 2 HZ.out w1 (HI.out.later GM.out) HJ.out).mono ?_
  rintro _ wx ⟨hwx, s', n', c', d', rfl, hI', hdd⟩
  obtain rfl : w1 = wx := hwx.symm
  have HI' := hide hI'
  have HDD := hide hdd
  clear hwx hI' hdd
  go_wp2_with fail
  have HB2 : Hid (BlkG (w1.alloc (.cells #[.slice s' n' c', .bool false] 45)) w.heap.size) := hide (HB.out.later (Grow.alloc' _ _))
  have HR : Hid (Rd w1 (w1.alloc (.cells #[.slice s' n' c', .bool false] 45)) w1.heap.size d' false) := hide ⟨Grow.alloc' _ _, Nat.le_refl _, s', n', c', (MapKept.heap_alloc w1 _).1, HI'.out⟩
  have HTR : Hid (Turn XR w1 (w1.alloc (.cells #[.slice s' n' c', .bool false] 45))) := hide (Turn.of_grow (Grow.alloc' _ _))
  generalize w1.alloc (.cells #[.slice s' n' c', .bool false] 45) = w2 at *
  obtain ⟨b, hb⟩ : ∃ b, b = w1.heap.size := ⟨_, rfl⟩
  rw [← hb] at HR ⊢
  have HBB := hide hb
  clear hb
  obtain ⟨P, hP⟩ : ∃ P, P = w.heap.size := ⟨_, rfl⟩
  rw [← hP] at HB2 ⊢
  have HP := hide hP
  clear hP
  obtain ⟨nx, hnx⟩ : ∃ n, n = (atB d' 0).toNat := ⟨_, rfl⟩
  obtain ⟨mx, hmx⟩ : ∃ m, m = (atB d' (1 + 6 * nx)).toNat := ⟨_, rfl⟩
  have HNX := hide hnx
  have HMX := hide hmx
  refine (rgr_any w1 w2 b d' false HR.out nx mx hnx hmx).mono ?_
  rintro _ w3 ⟨sN, cN, tE, qE, rfl, hN, hE, hR3, hT3⟩
  have HN := hide (hN.later (Grow.alloc' w3 (.cells #[.slice sN nx cN, .slice tE mx qE] 27)))
  have HE := hide (hE.later (Grow.alloc' w3 (.cells #[.slice sN nx cN, .slice tE mx qE] 27)))
  have HR4 := hide (hR3.later (Grow.alloc' w3 (.cells #[.slice sN nx cN, .slice tE mx qE] 27)))
  have HB4 : Hid (BlkG (w3.alloc (.cells #[.slice sN nx cN, .slice tE mx qE] 27)) P) := hide ((HB2.out.turn hT3 (by decide)).later (Grow.alloc' _ _))
  have HK4 : Hid (BoxG (w3.alloc (.cells #[.slice sN nx cN, .slice tE mx qE] 27)) w3.heap.size ⟨sN, nx, cN, tE, mx, qE, [], []⟩) := hide (BoxG.new w3 ⟨sN, nx, cN, tE, mx, qE, [], []⟩)
  have HPB : Hid (P < w2.heap.size) := hide HB2.out.lt
  obtain ⟨_, _, sr, nr, cr, hCr, hIr⟩ := hR3
  have hCr4 := hCr.later (Grow.alloc' w3 (.cells #[.slice sN nx cN, .slice tE mx qE] 27))
  obtain ⟨x0, x1⟩ := hCr4.cells
  rw [Bool.false_or] at x1
  have HLR := hide hIr.1
  have G4 : Hid (Grow w (w3.alloc (.cells #[.slice sN nx cN, .slice tE mx qE] 27))) := hide (Grow.trans' GM.out HR4.out.g)
  have hPw : w.heap.size ≤ P := Nat.le_of_eq HP.out.symm
  obtain ⟨sx, hsx⟩ : ∃ s, decide (d'.length < 2 + 6 * nx + 3 * mx) = s := ⟨_, rfl⟩
  rw [hsx] at x1
  have HSX := hide hsx
  have HPW := hide hPw
  obtain ⟨k0, k1⟩ := HK4.out
  dsimp only at k0 k1
  clear hN hE hT3 hCr hIr hCr4 HB2 HR hnx hmx HTR hsx hPw
  go_upto_region 4 with fail
  generalize w3.alloc (.cells #[.slice sN nx cN, .slice tE mx qE] 27) = w4 at *
  generalize w3.heap.size = Q at *
  cases z
  · have HF := hide (isB_no HZ.out)
    go_wp2_with (refine wpList_putG2 rfl _ _ rfl P ⟨none, 0, 0, none, 0, 0, [], []⟩ rfl rfl HB4.out w G4.out HPW.out ?_)
    intro w5 hg5 hb5 _ _ _
    have HG5 := hide hg5
    obtain ⟨b0, b1⟩ := hb5
    dsimp only at b0 b1
    clear hg5 x0 x1 k0 k1
    go_wp2_with fail
    exact bodyPost_ret (v := .tuple #[.agg #[.slice none 0 0, .slice none 0 0], .int .i64 2]) (by simp [results, Tryz.results6, go_sem, b0, b1]) rfl ⟨HG5.out, .inr ⟨HF.out, rfl⟩⟩
  obtain ⟨t1, t2, t3, t4, t5⟩ := take_parts HZ.out (HDD.out rfl) HNX.out HMX.out
  rw [HLR.out, HSX.out] at t1
  cases sx
  rotate_left
  · have HF : Hid (isB10 d = false) := hide (by rw [t1]; rfl)
    clear t1 t2 t3 t4 t5
    go_wp2_with (refine wpList_putG2 rfl _ _ rfl P ⟨none, 0, 0, none, 0, 0, [], []⟩ rfl rfl HB4.out w G4.out HPW.out ?_)
    intro w5 hg5 hb5 _ _ _
    have HG5 := hide hg5
    obtain ⟨b0, b1⟩ := hb5
    dsimp only at b0 b1
    clear hg5 x0 x1 k0 k1
    go_wp2_with fail
    exact bodyPost_ret (v := .tuple #[.agg #[.slice none 0 0, .slice none 0 0], .int .i64 2]) (by simp [results, Tryz.results6, go_sem, b0, b1]) rfl ⟨HG5.out, .inr ⟨HF.out, rfl⟩⟩
  by_cases hnr : 0 < nr
  · have HF : Hid (isB10 d = false) := hide (by rw [t1, decide_eq_false (by omega)]; rfl)
    have hi0 : (0 : Int) < (nr : Int) := by omega
    clear t1 t2 t3 t4 t5 hnr
    go_wp2_with (refine wpList_putG2 rfl _ _ rfl P ⟨none, 0, 0, none, 0, 0, [], []⟩ rfl rfl HB4.out w G4.out HPW.out ?_)
    intro w5 hg5 hb5 _ _ _
    have HG5 := hide hg5
    obtain ⟨b0, b1⟩ := hb5
    dsimp only at b0 b1
    clear hg5 x0 x1 k0 k1 hi0
    go_wp2_with fail
    exact bodyPost_ret (v := .tuple #[.agg #[.slice none 0 0, .slice none 0 0], .int .i64 2]) (by simp [results, Tryz.results6, go_sem, b0, b1]) rfl ⟨HG5.out, .inr ⟨HF.out, rfl⟩⟩
  · have HF : Hid (isB10 d = true) := hide (by rw [t1, decide_eq_true (by omega)]; rfl)
    have hi0 : ¬ (0 : Int) < (nr : Int) := by omega
    have T2 := hide t2
    have T3 := hide t3
    rw [t4] at HN
    rw [t5] at HE
    clear t1 t2 t3 t4 t5 hnr
    go_wp2_with (refine wpList_putG2 rfl _ _ rfl P ⟨sN, nx, cN, tE, mx, qE, [], []⟩ rfl rfl HB4.out w G4.out HPW.out ?_)
    intro w5 hg5 hb5 hbb5 hk5 hz5
    have HG5 := hide hg5
    have HN5 : Hid (OwnN w5 w.heap.size sN nx cN (tkN d)) := hide ((HN.out.keep fun a ha => hk5 _ (fun e => by have h1 := (HN.out.lt a ha).2; have h2 := HPB.out; omega)).rebase (by have h2 := HPB.out; have h3 := HPW.out; omega))
    have HE5 : Hid (OwnE w5 w.heap.size tE mx qE (tkE d)) := hide ((HE.out.keep fun a ha => hk5 _ (fun e => by have h1 := (HE.out.lt a ha).2; have h2 := HPB.out; omega)).rebase (by have h2 := HPB.out; have h3 := HPW.out; omega))
    obtain ⟨b0, b1⟩ := hb5
    dsimp only at b0 b1
    clear hg5 hbb5 hk5 hz5 x0 x1 k0 k1 hi0
    go_wp2_with fail
    exact bodyPost_ret (v := .tuple #[.agg #[.slice sN nx cN, .slice tE mx qE], .int .i64 0]) (by simp [results, Tryz.results6, go_sem, b0, b1]) rfl ⟨HG5.out, .inl ⟨HF.out, sN, cN, tE, qE, by rw [T2.out, T3.out], by rw [T2.out]; exact HN5.out, by rw [T3.out]; exact HE5.out⟩⟩
end Go.Proofs.YtjebipagehhkjaaGreat
