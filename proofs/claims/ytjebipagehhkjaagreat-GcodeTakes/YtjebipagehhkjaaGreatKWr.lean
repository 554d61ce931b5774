/-
  What gcode's writer does to the world: hold, small, wide; node, edge and graph by promoted methods; what was there stays as it was, but for the writer and its row.
-/
import Derived.Test.YtjebipagehhkjaaGreatKRw
namespace Go.Proofs.YtjebipagehhkjaaGreat
set_option maxRecDepth 100000
open Go.ChangeShapes Go.WideShapes Go.ChangeAt Go.RowKit Go.Deep Go.Sort
set_option linter.unusedVariables false
set_option linter.unusedSimpArgs false

def XW (T : TypeId) : Bool := T == 5 || T == 51
/-- What is laid down so far; none, if a number was none that its bytes hold. -/
structure Wr (W w : World) (b : Nat) (x : Option (List UInt8)) : Prop where
  g : Grow W w
  lb : W.heap.size ≤ b
  st : ∃ s n c d, Cel w b 51 s n c x.isNone ∧ RowW 5 w W.heap.size s n c d ∧ ∀ e, x = some e → d = e
theorem Wr.later {W w w' : World} {b : Nat} {x : Option (List UInt8)} (hg : Grow w w') (h : Wr W w b x) : Wr W w' b x := by
  obtain ⟨g, l, s, n, c, d, h1, h2, h3⟩ := h
  exact ⟨Grow.trans' g hg, l, s, n, c, d, h1.later hg, h2.later hg, h3⟩
def push (x : Option (List UInt8)) (ok : Bool) (e : List UInt8) : Option (List UInt8) := if ok = true then x.map (· ++ e) else none
theorem push_push (x : Option (List UInt8)) (p q : Bool) (e f : List UInt8) : push (push x p e) q f = push x (p && q) (e ++ f) := by
  cases p <;> cases q <;> cases x <;> simp [push]
theorem push_none (p : Bool) (e : List UInt8) : push none p e = none := by cases p <;> simp [push]
theorem push_nil (x : Option (List UInt8)) : push x true [] = x := by cases x <;> simp [push]


set_option maxHeartbeats 1000000 in
theorem hold_a (W w : World) (b : Nat) (s : Option Addr) (k c : Nat) (d : List UInt8) (n lo hi : Int) (hs : Option Addr) (m hc : Nat)  (hg : Grow W w) (hl : W.heap.size ≤ b) (hC : Cel w b 51 s k c true) (hO : RowW 5 w W.heap.size s k c d) :
    Calls Tryz.prog 65 #[.pointer (some ⟨b, 0, none⟩), .int .i64 n, .int .i64 lo, .int .i64 hi, .slice hs m hc] w fun r w' => r = .returned (.tuple #[]) ∧ Wr W w' b none ∧ Turn XW w w' := by
  obtain ⟨c0, c1⟩ := hC.cells
  have HC := hide hC
  have HO := hide hO
  have HG := hide hg
  have HL := hide hl
  clear hC hO hg hl
  go_enter Tryz.func65, Tryz.ntmps65
  go_wp2_with (refine wpList_setFlag rfl _ _ rfl b 51 s k c true true rfl rfl HC.out ?_)
  intro w2 hC2 hg2
  obtain ⟨d0, d1⟩ := hC2.cells
  have HC2 := hide hC2
  have HG2 := hide hg2
  clear hC2 hg2 c0 c1
  go_wp2_with fail
  have hT : Turn XW w w2 := Turn.one HG2.out HC.out (by decide)
  exact bodyPost_end (v := .tuple #[]) (by simp [results, Tryz.results65]) rfl ⟨rfl, ⟨grow_by HG.out HG2.out HL.out, HL.out, s, k, c, d, HC2.out, HO.out.by' (by decide) HC.out HG2.out, fun e h => by cases h⟩, hT⟩
set_option maxHeartbeats 1000000 in
theorem hold_b (W w : World) (b : Nat) (s : Option Addr) (k c : Nat) (d : List UInt8) (n lo hi : Int) (hs : Option Addr) (m hc : Nat) (h1 : n < lo) (hg : Grow W w) (hl : W.heap.size ≤ b) (hC : Cel w b 51 s k c false) (hO : RowW 5 w W.heap.size s k c d) :
    Calls Tryz.prog 65 #[.pointer (some ⟨b, 0, none⟩), .int .i64 n, .int .i64 lo, .int .i64 hi, .slice hs m hc] w fun r w' => r = .returned (.tuple #[]) ∧ Wr W w' b none ∧ Turn XW w w' := by
  obtain ⟨c0, c1⟩ := hC.cells
  have HC := hide hC
  have HO := hide hO
  have HG := hide hg
  have HL := hide hl
  clear hC hO hg hl
  go_enter Tryz.func65, Tryz.ntmps65
  go_wp2_with (refine wpList_setFlag rfl _ _ rfl b 51 s k c false true rfl rfl HC.out ?_)
  intro w2 hC2 hg2
  obtain ⟨d0, d1⟩ := hC2.cells
  have HC2 := hide hC2
  have HG2 := hide hg2
  clear hC2 hg2 c0 c1
  go_wp2_with fail
  have hT : Turn XW w w2 := Turn.one HG2.out HC.out (by decide)
  exact bodyPost_end (v := .tuple #[]) (by simp [results, Tryz.results65]) rfl ⟨rfl, ⟨grow_by HG.out HG2.out HL.out, HL.out, s, k, c, d, HC2.out, HO.out.by' (by decide) HC.out HG2.out, fun e h => by cases h⟩, hT⟩
set_option maxHeartbeats 1000000 in
theorem hold_c (W w : World) (b : Nat) (s : Option Addr) (k c : Nat) (d : List UInt8) (n lo hi : Int) (hs : Option Addr) (m hc : Nat) (h1 : ¬ n < lo) (h2 : hi < n) (hg : Grow W w) (hl : W.heap.size ≤ b) (hC : Cel w b 51 s k c false) (hO : RowW 5 w W.heap.size s k c d) :
    Calls Tryz.prog 65 #[.pointer (some ⟨b, 0, none⟩), .int .i64 n, .int .i64 lo, .int .i64 hi, .slice hs m hc] w fun r w' => r = .returned (.tuple #[]) ∧ Wr W w' b none ∧ Turn XW w w' := by
  obtain ⟨c0, c1⟩ := hC.cells
  have HC := hide hC
  have HO := hide hO
  have HG := hide hg
  have HL := hide hl
  clear hC hO hg hl
  go_enter Tryz.func65, Tryz.ntmps65
  go_wp2_with (refine wpList_setFlag rfl _ _ rfl b 51 s k c false true rfl rfl HC.out ?_)
  intro w2 hC2 hg2
  obtain ⟨d0, d1⟩ := hC2.cells
  have HC2 := hide hC2
  have HG2 := hide hg2
  clear hC2 hg2 c0 c1
  go_wp2_with fail
  have hT : Turn XW w w2 := Turn.one HG2.out HC.out (by decide)
  exact bodyPost_end (v := .tuple #[]) (by simp [results, Tryz.results65]) rfl ⟨rfl, ⟨grow_by HG.out HG2.out HL.out, HL.out, s, k, c, d, HC2.out, HO.out.by' (by decide) HC.out HG2.out, fun e h => by cases h⟩, hT⟩
set_option maxHeartbeats 1000000 in
theorem hold_d (W w : World) (b : Nat) (s : Option Addr) (k c : Nat) (d : List UInt8) (n lo hi : Int) (hs : Option Addr) (m hc : Nat) (e : List UInt8) (h1 : ¬ n < lo) (h2 : ¬ hi < n) (hg : Grow W w) (hl : W.heap.size ≤ b) (hC : Cel w b 51 s k c false) (hO : RowW 5 w W.heap.size s k c d)
    (he : IsBy w hs m hc e) (heb : ∀ a, hs = some a → a.block ≠ b) (hm : 0 < m) (hlen : k + m ≤ 1000000) :
    Calls Tryz.prog 65 #[.pointer (some ⟨b, 0, none⟩), .int .i64 n, .int .i64 lo, .int .i64 hi, .slice hs m hc] w fun r w' => r = .returned (.tuple #[]) ∧ Wr W w' b (some (d ++ e)) ∧ Turn XW w w' := by
  obtain ⟨c0, c1⟩ := hC.cells
  have HC := hide hC
  have HO := hide hO
  have HG := hide hg
  have HL := hide hl
  have HE := hide he
  have HEB := hide heb
  have HM := hide hm
  clear hC hO hg hl he heb hm
  go_enter Tryz.func65, Tryz.ntmps65
  go_wp2_with (refine wpList_setFlag rfl _ _ rfl b 51 s k c false false rfl rfl HC.out ?_)
  intro w2 hC2 hg2
  obtain ⟨d0, d1⟩ := hC2.cells
  have HC2 := hide hC2
  have HG2 := hide hg2
  have HO2 := hide (HO.out.by' (by decide) HC.out hg2)
  have HW2 := hide (grow_by HG.out hg2 HL.out)
  have HE2 : Hid (IsBy w2 hs m hc e) := hide ⟨HE.out.1, HE.out.2.1, HE.out.2.2.imp id fun ⟨bb, oo, e1, e2⟩ => ⟨bb, oo, e1, fun j v hj => hg2.cell (e2 j v hj) (fun ex => HEB.out _ e1 (by simpa using ex))⟩⟩
  clear hC2 hg2 c0 c1
  go_wp2_with (at_builtin; refine wpList_apd_row byT rfl _ _ rfl W.heap.size s k c d e rfl HO2.out hs m hc rfl HE2.out HM.out hlen HW2.out.size ?_)
  intro s2 c2 w3 hO3 hg3
  have HC3 := hide (hg3.cel (by decide) HC2.out)
  have HO3 : Hid (RowW 5 w3 W.heap.size s2 (k + m) c2 (d ++ e)) := hide (.inl hO3)
  have HG3 := hide hg3
  clear hO3 hg3 d0 d1
  go_wp2_with (refine wpList_setRow rfl _ _ rfl b 51 s k c false s2 (k + m) c2 rfl rfl HC3.out ?_)
  intro w4 hC4 hg4
  have HC4 := hide hC4
  have HG4 := hide hg4
  clear hC4 hg4
  go_wp2_with fail
  have hT : Turn XW w w4 := ((Turn.one HG2.out HC.out (by decide)).trans (HG3.out.turn XW (by decide))).trans (Turn.one HG4.out HC3.out (by decide))
  exact bodyPost_end (v := .tuple #[]) (by simp [results, Tryz.results65]) rfl ⟨rfl, ⟨grow_by (HG3.out.grow HW2.out (Nat.le_refl _)) HG4.out HL.out, HL.out, s2, k + m, c2, d ++ e, HC4.out, HO3.out.by' (by decide) HC3.out HG4.out, fun e h => Option.some.inj h⟩, hT⟩
theorem hold_any (W w : World) (b : Nat) (x : Option (List UInt8)) (n lo hi : Int) (hs : Option Addr) (m hc : Nat) (e : List UInt8) (hW : Wr W w b x) (he : IsBy w hs m hc e) (heb : ∀ a, hs = some a → a.block ≠ b) (hm : 0 < m) (hlen : ∀ d, x = some d → d.length + m ≤ 1000000) :
    Calls Tryz.prog 65 #[.pointer (some ⟨b, 0, none⟩), .int .i64 n, .int .i64 lo, .int .i64 hi, .slice hs m hc] w fun r w' => r = .returned (.tuple #[]) ∧ Wr W w' b (push x (decide (lo ≤ n) && decide (n ≤ hi)) e) ∧ Turn XW w w' := by
  obtain ⟨hg, hl, s, k, c, d, hC, hO, hd⟩ := hW
  cases x with
  | none =>
    rw [push_none]
    exact hold_a W w b s k c d n lo hi hs m hc hg hl hC hO
  | some d' =>
    have hdd := hd d' rfl
    subst hdd
    have hk := hlen d rfl
    rw [hO.len] at hk
    by_cases h1 : n < lo
    · have : push (some d) (decide (lo ≤ n) && decide (n ≤ hi)) e = none := by simp [push]; omega
      rw [this]
      exact hold_b W w b s k c d n lo hi hs m hc h1 hg hl hC hO
    by_cases h2 : hi < n
    · have : push (some d) (decide (lo ≤ n) && decide (n ≤ hi)) e = none := by simp [push]; omega
      rw [this]
      exact hold_c W w b s k c d n lo hi hs m hc h1 h2 hg hl hC hO
    · have : push (some d) (decide (lo ≤ n) && decide (n ≤ hi)) e = some (d ++ e) := by
        rw [decide_eq_true (by omega : lo ≤ n), decide_eq_true (by omega : n ≤ hi)]; rfl
      rw [this]
      exact hold_d W w b s k c d n lo hi hs m hc e h1 h2 hg hl hC hO he heb hm hk

/-! ## Numbers of one byte, and of two -/
set_option maxHeartbeats 1000000 in
theorem lsmall_any (W w : World) (b : Nat) (x : Option (List UInt8)) (n : Int) (hW : Wr W w b x) (hlen : ∀ d, x = some d → d.length + 1 ≤ 1000000) {y : Option (List UInt8)} (hy : push x (smlB n) [byt n] = y) :
    Calls Tryz.prog 27 #[.pointer (some ⟨b, 0, none⟩), .int .i64 n] w fun r w' => r = .returned (.tuple #[]) ∧ Wr W w' b y ∧ Turn XW w w' := by
  subst hy
  have HW := hide hW
  have hb : b < w.heap.size := by obtain ⟨_, _, s, k, c, d, hC, _⟩ := hW; exact hC.lt
  have HB := hide hb
  clear hW hb
  have hu := wrap_u8 n
  go_enter Tryz.func27, Tryz.ntmps27
  go_wp2_with fail
  have HE : Hid (IsBy (w.alloc (.cells #[.int .u8 ((byt n).toNat : Int)] 5)) (some ⟨w.heap.size, 0, none⟩) 1 1 [byt n]) := hide (IsBy.lit w _ [byt n] _ (by simp [flatU]) 1 rfl)
  have HW1 : Hid (Wr W (w.alloc (.cells #[.int .u8 ((byt n).toNat : Int)] 5)) b x) := hide (HW.out.later (Grow.alloc' _ _))
  have HT1 : Hid (Turn XW w (w.alloc (.cells #[.int .u8 ((byt n).toNat : Int)] 5))) := hide (Turn.of_grow (Grow.alloc' _ _))
  refine (hold_any W _ b x n 0 255 (some ⟨w.heap.size, 0, none⟩) 1 1 [byt n] HW1.out HE.out (fun a ha => by cases ha; have := HB.out; exact fun e => by simp at e; omega) (by omega) hlen).mono ?_
  rintro _ w2 ⟨rfl, hW2, hT2⟩
  go_wp2_with fail
  exact bodyPost_end (v := .tuple #[]) (by simp [results, Tryz.results27]) rfl ⟨rfl, hW2, HT1.out.trans hT2⟩
set_option maxHeartbeats 1000000 in
theorem lwide_any (W w : World) (b : Nat) (x : Option (List UInt8)) (n : Int) (hW : Wr W w b x) (hlen : ∀ d, x = some d → d.length + 2 ≤ 1000000) {y : Option (List UInt8)} (hy : push x (twoB n) [byt (n / 256), byt n] = y) :
    Calls Tryz.prog 66 #[.pointer (some ⟨b, 0, none⟩), .int .i64 n] w fun r w' => r = .returned (.tuple #[]) ∧ Wr W w' b y ∧ Turn XW w w' := by
  subst hy
  have HW := hide hW
  have hb : b < w.heap.size := by obtain ⟨_, _, s, k, c, d, hC, _⟩ := hW; exact hC.lt
  have HB := hide hb
  clear hW hb
  have hu := wrap_u8 n
  have hv := wrap_u8 (n / 256)
  have hsh : n / 2 ^ min (8 : Int).toNat IntKind.i64.bits = n / 256 := by rfl
  go_enter Tryz.func66, Tryz.ntmps66
  go_wp2_with fail
  have HE : Hid (IsBy (w.alloc (.cells #[.int .u8 ((byt (n / 256)).toNat : Int), .int .u8 ((byt n).toNat : Int)] 5)) (some ⟨w.heap.size, 0, none⟩) 2 2 [byt (n / 256), byt n]) := hide (IsBy.lit w _ [byt (n / 256), byt n] _ (by simp [flatU]) 2 rfl)
  have HW1 : Hid (Wr W (w.alloc (.cells #[.int .u8 ((byt (n / 256)).toNat : Int), .int .u8 ((byt n).toNat : Int)] 5)) b x) := hide (HW.out.later (Grow.alloc' _ _))
  have HT1 : Hid (Turn XW w (w.alloc (.cells #[.int .u8 ((byt (n / 256)).toNat : Int), .int .u8 ((byt n).toNat : Int)] 5))) := hide (Turn.of_grow (Grow.alloc' _ _))
  refine (hold_any W _ b x n (-32768) 32767 (some ⟨w.heap.size, 0, none⟩) 2 2 [byt (n / 256), byt n] HW1.out HE.out (fun a ha => by cases ha; have := HB.out; exact fun e => by simp at e; omega) (by omega) hlen).mono ?_
  rintro _ w2 ⟨rfl, hW2, hT2⟩
  go_wp2_with fail
  exact bodyPost_end (v := .tuple #[]) (by simp [results, Tryz.results66]) rfl ⟨rfl, hW2, HT1.out.trans hT2⟩

/-! ## A node, and an edge -/
theorem push_len {x : Option (List UInt8)} {p : Bool} {e : List UInt8} {k : Nat} (h : ∀ d, x = some d → d.length + e.length ≤ k) : ∀ d, push x p e = some d → d.length ≤ k := by
  intro d hd
  cases p with
  | false => simp [push] at hd
  | true =>
    cases x with
    | none => simp [push] at hd
    | some a =>
      simp [push] at hd
      subst hd
      have := h a rfl
      rw [List.length_append]; omega
set_option maxHeartbeats 4000000 in
theorem wnode_any (W w : World) (b : Nat) (x : Option (List UInt8)) (t : Nd) (hW : Wr W w b x) (hlen : ∀ d, x = some d → d.length + 6 ≤ 1000000) {y : Option (List UInt8)} (hy : push x (ndB t) (byN t) = y) :
    Calls Tryz.prog 28 #[.pointer (some ⟨b, 0, none⟩), .agg #[.int .i64 t.k, .int .i64 t.a, .int .i64 t.b, .int .i64 t.d]] w fun r w' => r = .returned (.tuple #[]) ∧ Wr W w' b y ∧ Turn XW w w' := by
  have HY := hide hy
  have HLEN := hide hlen
  have HW := hide (hW.later (Grow.alloc' w (.cells #[.int .i64 t.k, .int .i64 t.a, .int .i64 t.b, .int .i64 t.d] 37)))
  have HT : Hid (Turn XW w (w.alloc (.cells #[.int .i64 t.k, .int .i64 t.a, .int .i64 t.b, .int .i64 t.d] 37))) := hide (Turn.of_grow (Grow.alloc' _ _))
  have KN : Hid (BoxN (w.alloc (.cells #[.int .i64 t.k, .int .i64 t.a, .int .i64 t.b, .int .i64 t.d] 37)) w.heap.size t) := hide (BoxN.new _ _)
  have BN : Hid (BlkN (w.alloc (.cells #[.int .i64 t.k, .int .i64 t.a, .int .i64 t.b, .int .i64 t.d] 37)) w.heap.size) := hide (BlkN.new' _ _)
  clear hW hy hlen
  go_enter Tryz.func28, Tryz.ntmps28
  go_wp2_with fail
  generalize w.alloc (.cells #[.int .i64 t.k, .int .i64 t.a, .int .i64 t.b, .int .i64 t.d] 37) = w0 at *
  obtain ⟨y1, hy1⟩ : ∃ y, push x (smlB t.k) [byt t.k] = y := ⟨_, rfl⟩
  have HY1 := hide hy1
  have HL0 : Hid (∀ d, x = some d → d.length + 6 ≤ 1000000) := hide HLEN.out
  clear hy1
  refine wp_region_end (fun i vF wF => match i with | 0 => vF = .pointer (some ⟨b, 0, none⟩) | 1 => vF = .pointer (some ⟨b, 0, none⟩) | 2 => vF = .pointer (some ⟨b, 0, none⟩) | 3 => vF = .pointer (some ⟨w.heap.size, 0, none⟩) | 4 => vF = .int .i64 t.k | _ => True) 5 _ rfl rfl rfl (by kernel_rfl) (by kernel_rfl) ?_ ?_ ?_
  · intro k v w1 w2 hg h
    match k with
    | 0 => exact h
    | 1 => exact h
    | 2 => exact h
    | 3 => exact h
    | 4 => exact h
    | k + 5 => exact trivial
  · refine ⟨?_, ?_, ?_, ?_, ?_, trivial⟩
    · refine stepOne_run trivial ?_
      intro a' w' hg hs hd
      have e0 : a'.eval (.tmp 0) = .pointer (some ⟨b, 0, none⟩) := hs.rest 0 rfl
      have ec : ∀ v, a'.eval (.const v) = v := fun _ => rfl
      have ef : ∀ g, a'.eval (.func g) = .func (.func g) #[] #[] := fun _ => rfl
      clear hd hs
      refine wpv (v := .pointer (some ⟨b, 0, none⟩)) ?_ ⟨_, rfl, Grow.rfl' _, rfl⟩
      (generalize a'.eval = ev at ec ef e0 ⊢; simp [execOp, go_sem, *])
    · refine stepOne_run trivial ?_
      intro a' w' hg hs hd
      have e4 : a'.eval (.tmp 4) = .pointer (some ⟨b, 0, none⟩) := hd ⟨0, Ground.data⟩ (by simp) rfl
      have ec : ∀ v, a'.eval (.const v) = v := fun _ => rfl
      have ef : ∀ g, a'.eval (.func g) = .func (.func g) #[] #[] := fun _ => rfl
      clear hd hs
      refine wpv (v := .pointer (some ⟨b, 0, none⟩)) ?_ ⟨_, rfl, Grow.rfl' _, rfl⟩
      (generalize a'.eval = ev at ec ef e4 ⊢; simp [execOp, go_sem, *])
    · refine stepOne_run trivial ?_
      intro a' w' hg hs hd
      have e5 : a'.eval (.tmp 5) = .pointer (some ⟨b, 0, none⟩) := hd ⟨1, Ground.data⟩ (by simp) rfl
      have ec : ∀ v, a'.eval (.const v) = v := fun _ => rfl
      have ef : ∀ g, a'.eval (.func g) = .func (.func g) #[] #[] := fun _ => rfl
      clear hd hs
      refine wpv (v := .pointer (some ⟨b, 0, none⟩)) ?_ ⟨_, rfl, Grow.rfl' _, rfl⟩
      (generalize a'.eval = ev at ec ef e5 ⊢; simp [execOp, go_sem, *])
    · refine stepOne_run trivial ?_
      intro a' w' hg hs hd
      have e3 : a'.eval (.tmp 3) = .pointer (some ⟨w.heap.size, 0, none⟩) := hs.rest 3 rfl
      have ec : ∀ v, a'.eval (.const v) = v := fun _ => rfl
      have ef : ∀ g, a'.eval (.func g) = .func (.func g) #[] #[] := fun _ => rfl
      clear hd hs
      refine wpv (v := .pointer (some ⟨w.heap.size, 0, none⟩)) ?_ ⟨_, rfl, Grow.rfl' _, rfl⟩
      (generalize a'.eval = ev at ec ef e3 ⊢; simp [execOp, go_sem, *])
    · refine stepOne_run trivial ?_
      intro a' w' hg hs hd
      have e7 : a'.eval (.tmp 7) = .pointer (some ⟨w.heap.size, 0, none⟩) := hd ⟨3, Ground.data⟩ (by simp) rfl
      have ec : ∀ v, a'.eval (.const v) = v := fun _ => rfl
      have ef : ∀ g, a'.eval (.func g) = .func (.func g) #[] #[] := fun _ => rfl
      obtain ⟨x0, x1, x2, x3⟩ := KN.out.later hg
      clear hd hs
      refine wpv (v := .int .i64 t.k) ?_ ⟨_, rfl, Grow.rfl' _, rfl⟩
      (generalize a'.eval = ev at ec ef e7 ⊢; simp [execOp, go_sem, *])
  · intro a' w' hg hs hd
    have e6 : a'.eval (.tmp 6) = .pointer (some ⟨b, 0, none⟩) := hd 2 (by omega)
    have e8 : a'.eval (.tmp 8) = .int .i64 t.k := hd 4 (by omega)
    have ec : ∀ v, a'.eval (.const v) = v := fun _ => rfl
    have ef : ∀ g, a'.eval (.func g) = .func (.func g) #[] #[] := fun _ => rfl
    refine wpc ?_ ((lsmall_any W w' b x t.k (HW.out.later hg) (fun d hd => by have := HL0.out d hd; omega) HY1.out).mono ?_)
    · (generalize a'.eval = ev at ec ef e6 e8 ⊢; simp [execOp, go_sem, *])
    rintro e v1 ⟨rfl, hW2, hT2⟩
    refine ⟨_, rfl, ?_⟩
    have hT3 := (Turn.of_grow (X := XW) hg).trans hT2
    have KN := hide (BoxN.turn hT3 (by decide) BN.out KN.out)
    have BN := hide (BlkN.turn hT3 (by decide) BN.out)
    have HW := hide hW2
    have HT := hide (HT.out.trans hT3)
    clear hW2 hT2 hT3 hg e6 e8 ec ef
    rw [frame_eq hs [false, false, false, false, true, true, true, true, true, true, false, false, false, false, false, false, false, false, false, false, false, false, false, false, false, false, false, false] (by kernel_rfl)]; simp only [mergeL]; clear hs hd; generalize a'.tmps = TT at *; try go_frame
    go_wp2_with fail
    obtain ⟨y2, hy2⟩ : ∃ y, push y1 (smlB t.d) [byt t.d] = y := ⟨_, rfl⟩
    have HY2 := hide hy2
    have HL1 : Hid (∀ d, y1 = some d → d.length + 5 ≤ 1000000) := hide (by intro d hd; have := push_len (k := 1000000 - 5) (fun d hd => by have := HL0.out d hd; simp; omega) d (HY1.out.trans hd); omega)
    clear hy2
    refine wp_region_end (fun i vF wF => match i with | 0 => vF = .pointer (some ⟨b, 0, none⟩) | 1 => vF = .pointer (some ⟨b, 0, none⟩) | 2 => vF = .pointer (some ⟨b, 0, none⟩) | 3 => vF = .pointer (some ⟨w.heap.size, 3, none⟩) | 4 => vF = .int .i64 t.d | _ => True) 5 _ rfl rfl rfl (by kernel_rfl) (by kernel_rfl) ?_ ?_ ?_
    · intro k v w1 w2 hg h
      match k with
      | 0 => exact h
      | 1 => exact h
      | 2 => exact h
      | 3 => exact h
      | 4 => exact h
      | k + 5 => exact trivial
    · refine ⟨?_, ?_, ?_, ?_, ?_, trivial⟩
      · refine stepOne_run trivial ?_
        intro a' w' hg hs hd
        have e0 : a'.eval (.tmp 0) = .pointer (some ⟨b, 0, none⟩) := hs.rest 0 rfl
        have ec : ∀ v, a'.eval (.const v) = v := fun _ => rfl
        have ef : ∀ g, a'.eval (.func g) = .func (.func g) #[] #[] := fun _ => rfl
        clear hd hs
        refine wpv (v := .pointer (some ⟨b, 0, none⟩)) ?_ ⟨_, rfl, Grow.rfl' _, rfl⟩
        (generalize a'.eval = ev at ec ef e0 ⊢; simp [execOp, go_sem, *])
      · refine stepOne_run trivial ?_
        intro a' w' hg hs hd
        have e10 : a'.eval (.tmp 10) = .pointer (some ⟨b, 0, none⟩) := hd ⟨0, Ground.data⟩ (by simp) rfl
        have ec : ∀ v, a'.eval (.const v) = v := fun _ => rfl
        have ef : ∀ g, a'.eval (.func g) = .func (.func g) #[] #[] := fun _ => rfl
        clear hd hs
        refine wpv (v := .pointer (some ⟨b, 0, none⟩)) ?_ ⟨_, rfl, Grow.rfl' _, rfl⟩
        (generalize a'.eval = ev at ec ef e10 ⊢; simp [execOp, go_sem, *])
      · refine stepOne_run trivial ?_
        intro a' w' hg hs hd
        have e11 : a'.eval (.tmp 11) = .pointer (some ⟨b, 0, none⟩) := hd ⟨1, Ground.data⟩ (by simp) rfl
        have ec : ∀ v, a'.eval (.const v) = v := fun _ => rfl
        have ef : ∀ g, a'.eval (.func g) = .func (.func g) #[] #[] := fun _ => rfl
        clear hd hs
        refine wpv (v := .pointer (some ⟨b, 0, none⟩)) ?_ ⟨_, rfl, Grow.rfl' _, rfl⟩
        (generalize a'.eval = ev at ec ef e11 ⊢; simp [execOp, go_sem, *])
      · refine stepOne_run trivial ?_
        intro a' w' hg hs hd
        have e3 : a'.eval (.tmp 3) = .pointer (some ⟨w.heap.size, 0, none⟩) := hs.rest 3 rfl
        have ec : ∀ v, a'.eval (.const v) = v := fun _ => rfl
        have ef : ∀ g, a'.eval (.func g) = .func (.func g) #[] #[] := fun _ => rfl
        clear hd hs
        refine wpv (v := .pointer (some ⟨w.heap.size, 3, none⟩)) ?_ ⟨_, rfl, Grow.rfl' _, rfl⟩
        (generalize a'.eval = ev at ec ef e3 ⊢; simp [execOp, go_sem, *])
      · refine stepOne_run trivial ?_
        intro a' w' hg hs hd
        have e13 : a'.eval (.tmp 13) = .pointer (some ⟨w.heap.size, 3, none⟩) := hd ⟨3, Ground.data⟩ (by simp) rfl
        have ec : ∀ v, a'.eval (.const v) = v := fun _ => rfl
        have ef : ∀ g, a'.eval (.func g) = .func (.func g) #[] #[] := fun _ => rfl
        obtain ⟨x0, x1, x2, x3⟩ := KN.out.later hg
        clear hd hs
        refine wpv (v := .int .i64 t.d) ?_ ⟨_, rfl, Grow.rfl' _, rfl⟩
        (generalize a'.eval = ev at ec ef e13 ⊢; simp [execOp, go_sem, *])
    · intro a' w' hg hs hd
      have e12 : a'.eval (.tmp 12) = .pointer (some ⟨b, 0, none⟩) := hd 2 (by omega)
      have e14 : a'.eval (.tmp 14) = .int .i64 t.d := hd 4 (by omega)
      have ec : ∀ v, a'.eval (.const v) = v := fun _ => rfl
      have ef : ∀ g, a'.eval (.func g) = .func (.func g) #[] #[] := fun _ => rfl
      refine wpc ?_ ((lsmall_any W w' b y1 t.d (HW.out.later hg) (fun d hd => by have := HL1.out d hd; omega) HY2.out).mono ?_)
      · (generalize a'.eval = ev at ec ef e12 e14 ⊢; simp [execOp, go_sem, *])
      rintro e v2 ⟨rfl, hW2, hT2⟩
      refine ⟨_, rfl, ?_⟩
      have hT3 := (Turn.of_grow (X := XW) hg).trans hT2
      have KN := hide (BoxN.turn hT3 (by decide) BN.out KN.out)
      have BN := hide (BlkN.turn hT3 (by decide) BN.out)
      have HW := hide hW2
      have HT := hide (HT.out.trans hT3)
      clear hW2 hT2 hT3 hg e12 e14 ec ef
      rw [frame_eq hs [false, false, false, false, false, false, false, false, false, false, true, true, true, true, true, true, false, false, false, false, false, false, false, false, false, false, false, false] (by kernel_rfl)]; simp only [mergeL]; clear hs hd; generalize a'.tmps = TT at *; try go_frame
      go_wp2_with fail
      obtain ⟨y3, hy3⟩ : ∃ y, push y2 (twoB t.a) [byt (t.a / 256), byt t.a] = y := ⟨_, rfl⟩
      have HY3 := hide hy3
      have HL2 : Hid (∀ d, y2 = some d → d.length + 4 ≤ 1000000) := hide (by intro d hd; have := push_len (k := 1000000 - 4) (fun d hd => by have := HL1.out d hd; simp; omega) d (HY2.out.trans hd); omega)
      clear hy3
      refine wp_region_end (fun i vF wF => match i with | 0 => vF = .pointer (some ⟨b, 0, none⟩) | 1 => vF = .pointer (some ⟨b, 0, none⟩) | 2 => vF = .pointer (some ⟨b, 0, none⟩) | 3 => vF = .pointer (some ⟨w.heap.size, 1, none⟩) | 4 => vF = .int .i64 t.a | _ => True) 5 _ rfl rfl rfl (by kernel_rfl) (by kernel_rfl) ?_ ?_ ?_
      · intro k v w1 w2 hg h
        match k with
        | 0 => exact h
        | 1 => exact h
        | 2 => exact h
        | 3 => exact h
        | 4 => exact h
        | k + 5 => exact trivial
      · refine ⟨?_, ?_, ?_, ?_, ?_, trivial⟩
        · refine stepOne_run trivial ?_
          intro a' w' hg hs hd
          have e0 : a'.eval (.tmp 0) = .pointer (some ⟨b, 0, none⟩) := hs.rest 0 rfl
          have ec : ∀ v, a'.eval (.const v) = v := fun _ => rfl
          have ef : ∀ g, a'.eval (.func g) = .func (.func g) #[] #[] := fun _ => rfl
          clear hd hs
          refine wpv (v := .pointer (some ⟨b, 0, none⟩)) ?_ ⟨_, rfl, Grow.rfl' _, rfl⟩
          (generalize a'.eval = ev at ec ef e0 ⊢; simp [execOp, go_sem, *])
        · refine stepOne_run trivial ?_
          intro a' w' hg hs hd
          have e16 : a'.eval (.tmp 16) = .pointer (some ⟨b, 0, none⟩) := hd ⟨0, Ground.data⟩ (by simp) rfl
          have ec : ∀ v, a'.eval (.const v) = v := fun _ => rfl
          have ef : ∀ g, a'.eval (.func g) = .func (.func g) #[] #[] := fun _ => rfl
          clear hd hs
          refine wpv (v := .pointer (some ⟨b, 0, none⟩)) ?_ ⟨_, rfl, Grow.rfl' _, rfl⟩
          (generalize a'.eval = ev at ec ef e16 ⊢; simp [execOp, go_sem, *])
        · refine stepOne_run trivial ?_
          intro a' w' hg hs hd
          have e17 : a'.eval (.tmp 17) = .pointer (some ⟨b, 0, none⟩) := hd ⟨1, Ground.data⟩ (by simp) rfl
          have ec : ∀ v, a'.eval (.const v) = v := fun _ => rfl
          have ef : ∀ g, a'.eval (.func g) = .func (.func g) #[] #[] := fun _ => rfl
          clear hd hs
          refine wpv (v := .pointer (some ⟨b, 0, none⟩)) ?_ ⟨_, rfl, Grow.rfl' _, rfl⟩
          (generalize a'.eval = ev at ec ef e17 ⊢; simp [execOp, go_sem, *])
        · refine stepOne_run trivial ?_
          intro a' w' hg hs hd
          have e3 : a'.eval (.tmp 3) = .pointer (some ⟨w.heap.size, 0, none⟩) := hs.rest 3 rfl
          have ec : ∀ v, a'.eval (.const v) = v := fun _ => rfl
          have ef : ∀ g, a'.eval (.func g) = .func (.func g) #[] #[] := fun _ => rfl
          clear hd hs
          refine wpv (v := .pointer (some ⟨w.heap.size, 1, none⟩)) ?_ ⟨_, rfl, Grow.rfl' _, rfl⟩
          (generalize a'.eval = ev at ec ef e3 ⊢; simp [execOp, go_sem, *])
        · refine stepOne_run trivial ?_
          intro a' w' hg hs hd
          have e19 : a'.eval (.tmp 19) = .pointer (some ⟨w.heap.size, 1, none⟩) := hd ⟨3, Ground.data⟩ (by simp) rfl
          have ec : ∀ v, a'.eval (.const v) = v := fun _ => rfl
          have ef : ∀ g, a'.eval (.func g) = .func (.func g) #[] #[] := fun _ => rfl
          obtain ⟨x0, x1, x2, x3⟩ := KN.out.later hg
          clear hd hs
          refine wpv (v := .int .i64 t.a) ?_ ⟨_, rfl, Grow.rfl' _, rfl⟩
          (generalize a'.eval = ev at ec ef e19 ⊢; simp [execOp, go_sem, *])
      · intro a' w' hg hs hd
        have e18 : a'.eval (.tmp 18) = .pointer (some ⟨b, 0, none⟩) := hd 2 (by omega)
        have e20 : a'.eval (.tmp 20) = .int .i64 t.a := hd 4 (by omega)
        have ec : ∀ v, a'.eval (.const v) = v := fun _ => rfl
        have ef : ∀ g, a'.eval (.func g) = .func (.func g) #[] #[] := fun _ => rfl
        refine wpc ?_ ((lwide_any W w' b y2 t.a (HW.out.later hg) (fun d hd => by have := HL2.out d hd; omega) HY3.out).mono ?_)
        · (generalize a'.eval = ev at ec ef e18 e20 ⊢; simp [execOp, go_sem, *])
        rintro e v3 ⟨rfl, hW2, hT2⟩
        refine ⟨_, rfl, ?_⟩
        have hT3 := (Turn.of_grow (X := XW) hg).trans hT2
        have KN := hide (BoxN.turn hT3 (by decide) BN.out KN.out)
        have BN := hide (BlkN.turn hT3 (by decide) BN.out)
        have HW := hide hW2
        have HT := hide (HT.out.trans hT3)
        clear hW2 hT2 hT3 hg e18 e20 ec ef
        rw [frame_eq hs [false, false, false, false, false, false, false, false, false, false, false, false, false, false, false, false, true, true, true, true, true, true, false, false, false, false, false, false] (by kernel_rfl)]; simp only [mergeL]; clear hs hd; generalize a'.tmps = TT at *; try go_frame
        go_wp2_with fail
        obtain ⟨y4, hy4⟩ : ∃ y, push y3 (twoB t.b) [byt (t.b / 256), byt t.b] = y := ⟨_, rfl⟩
        have HY4 := hide hy4
        have HL3 : Hid (∀ d, y3 = some d → d.length + 2 ≤ 1000000) := hide (by intro d hd; have := push_len (k := 1000000 - 2) (fun d hd => by have := HL2.out d hd; simp; omega) d (HY3.out.trans hd); omega)
        clear hy4
        refine wp_region_end (fun i vF wF => match i with | 0 => vF = .pointer (some ⟨b, 0, none⟩) | 1 => vF = .pointer (some ⟨b, 0, none⟩) | 2 => vF = .pointer (some ⟨b, 0, none⟩) | 3 => vF = .pointer (some ⟨w.heap.size, 2, none⟩) | 4 => vF = .int .i64 t.b | _ => True) 5 _ rfl rfl rfl (by kernel_rfl) (by kernel_rfl) ?_ ?_ ?_
        · intro k v w1 w2 hg h
          match k with
          | 0 => exact h
          | 1 => exact h
          | 2 => exact h
          | 3 => exact h
          | 4 => exact h
          | k + 5 => exact trivial
        · refine ⟨?_, ?_, ?_, ?_, ?_, trivial⟩
          · refine stepOne_run trivial ?_
            intro a' w' hg hs hd
            have e0 : a'.eval (.tmp 0) = .pointer (some ⟨b, 0, none⟩) := hs.rest 0 rfl
            have ec : ∀ v, a'.eval (.const v) = v := fun _ => rfl
            have ef : ∀ g, a'.eval (.func g) = .func (.func g) #[] #[] := fun _ => rfl
            clear hd hs
            refine wpv (v := .pointer (some ⟨b, 0, none⟩)) ?_ ⟨_, rfl, Grow.rfl' _, rfl⟩
            (generalize a'.eval = ev at ec ef e0 ⊢; simp [execOp, go_sem, *])
          · refine stepOne_run trivial ?_
            intro a' w' hg hs hd
            have e22 : a'.eval (.tmp 22) = .pointer (some ⟨b, 0, none⟩) := hd ⟨0, Ground.data⟩ (by simp) rfl
            have ec : ∀ v, a'.eval (.const v) = v := fun _ => rfl
            have ef : ∀ g, a'.eval (.func g) = .func (.func g) #[] #[] := fun _ => rfl
            clear hd hs
            refine wpv (v := .pointer (some ⟨b, 0, none⟩)) ?_ ⟨_, rfl, Grow.rfl' _, rfl⟩
            (generalize a'.eval = ev at ec ef e22 ⊢; simp [execOp, go_sem, *])
          · refine stepOne_run trivial ?_
            intro a' w' hg hs hd
            have e23 : a'.eval (.tmp 23) = .pointer (some ⟨b, 0, none⟩) := hd ⟨1, Ground.data⟩ (by simp) rfl
            have ec : ∀ v, a'.eval (.const v) = v := fun _ => rfl
            have ef : ∀ g, a'.eval (.func g) = .func (.func g) #[] #[] := fun _ => rfl
            clear hd hs
            refine wpv (v := .pointer (some ⟨b, 0, none⟩)) ?_ ⟨_, rfl, Grow.rfl' _, rfl⟩
            (generalize a'.eval = ev at ec ef e23 ⊢; simp [execOp, go_sem, *])
          · refine stepOne_run trivial ?_
            intro a' w' hg hs hd
            have e3 : a'.eval (.tmp 3) = .pointer (some ⟨w.heap.size, 0, none⟩) := hs.rest 3 rfl
            have ec : ∀ v, a'.eval (.const v) = v := fun _ => rfl
            have ef : ∀ g, a'.eval (.func g) = .func (.func g) #[] #[] := fun _ => rfl
            clear hd hs
            refine wpv (v := .pointer (some ⟨w.heap.size, 2, none⟩)) ?_ ⟨_, rfl, Grow.rfl' _, rfl⟩
            (generalize a'.eval = ev at ec ef e3 ⊢; simp [execOp, go_sem, *])
          · refine stepOne_run trivial ?_
            intro a' w' hg hs hd
            have e25 : a'.eval (.tmp 25) = .pointer (some ⟨w.heap.size, 2, none⟩) := hd ⟨3, Ground.data⟩ (by simp) rfl
            have ec : ∀ v, a'.eval (.const v) = v := fun _ => rfl
            have ef : ∀ g, a'.eval (.func g) = .func (.func g) #[] #[] := fun _ => rfl
            obtain ⟨x0, x1, x2, x3⟩ := KN.out.later hg
            clear hd hs
            refine wpv (v := .int .i64 t.b) ?_ ⟨_, rfl, Grow.rfl' _, rfl⟩
            (generalize a'.eval = ev at ec ef e25 ⊢; simp [execOp, go_sem, *])
        · intro a' w' hg hs hd
          have e24 : a'.eval (.tmp 24) = .pointer (some ⟨b, 0, none⟩) := hd 2 (by omega)
          have e26 : a'.eval (.tmp 26) = .int .i64 t.b := hd 4 (by omega)
          have ec : ∀ v, a'.eval (.const v) = v := fun _ => rfl
          have ef : ∀ g, a'.eval (.func g) = .func (.func g) #[] #[] := fun _ => rfl
          refine wpc ?_ ((lwide_any W w' b y3 t.b (HW.out.later hg) (fun d hd => by have := HL3.out d hd; omega) HY4.out).mono ?_)
          · (generalize a'.eval = ev at ec ef e24 e26 ⊢; simp [execOp, go_sem, *])
          rintro e v4 ⟨rfl, hW2, hT2⟩
          refine ⟨_, rfl, ?_⟩
          have hT3 := (Turn.of_grow (X := XW) hg).trans hT2
          have KN := hide (BoxN.turn hT3 (by decide) BN.out KN.out)
          have BN := hide (BlkN.turn hT3 (by decide) BN.out)
          have HW := hide hW2
          have HT := hide (HT.out.trans hT3)
          clear hW2 hT2 hT3 hg e24 e26 ec ef
          rw [frame_eq hs [false, false, false, false, false, false, false, false, false, false, false, false, false, false, false, false, false, false, false, false, false, false, true, true, true, true, true, true] (by kernel_rfl)]; simp only [mergeL]; clear hs hd; generalize a'.tmps = TT at *; try go_frame
          go_wp2_with fail
          have hyy : y4 = y := by rw [← HY.out, ← HY4.out, ← HY3.out, ← HY2.out, ← HY1.out, push_push, push_push, push_push]; simp [ndB, byN, Bool.and_assoc]
          subst hyy
          exact bodyPost_end (v := .tuple #[]) (by simp [results, Tryz.results28]) rfl ⟨rfl, HW.out, HT.out⟩
set_option maxHeartbeats 4000000 in
theorem wedge_any (W w : World) (b : Nat) (x : Option (List UInt8)) (t : Ed) (hW : Wr W w b x) (hlen : ∀ d, x = some d → d.length + 3 ≤ 1000000) {y : Option (List UInt8)} (hy : push x (edB t) (byE t) = y) :
    Calls Tryz.prog 29 #[.pointer (some ⟨b, 0, none⟩), .agg #[.int .i64 t.f, .int .i64 t.t, .int .i64 t.p]] w fun r w' => r = .returned (.tuple #[]) ∧ Wr W w' b y ∧ Turn XW w w' := by
  have HY := hide hy
  have HLEN := hide hlen
  have HW := hide (hW.later (Grow.alloc' w (.cells #[.int .i64 t.f, .int .i64 t.t, .int .i64 t.p] 39)))
  have HT : Hid (Turn XW w (w.alloc (.cells #[.int .i64 t.f, .int .i64 t.t, .int .i64 t.p] 39))) := hide (Turn.of_grow (Grow.alloc' _ _))
  have KN : Hid (BoxE (w.alloc (.cells #[.int .i64 t.f, .int .i64 t.t, .int .i64 t.p] 39)) w.heap.size t) := hide (BoxE.new _ _)
  have BN : Hid (BlkE (w.alloc (.cells #[.int .i64 t.f, .int .i64 t.t, .int .i64 t.p] 39)) w.heap.size) := hide (BlkE.new' _ _)
  clear hW hy hlen
  go_enter Tryz.func29, Tryz.ntmps29
  go_wp2_with fail
  generalize w.alloc (.cells #[.int .i64 t.f, .int .i64 t.t, .int .i64 t.p] 39) = w0 at *
  obtain ⟨y1, hy1⟩ : ∃ y, push x (smlB t.f) [byt t.f] = y := ⟨_, rfl⟩
  have HY1 := hide hy1
  have HL0 : Hid (∀ d, x = some d → d.length + 3 ≤ 1000000) := hide HLEN.out
  clear hy1
  refine wp_region_end (fun i vF wF => match i with | 0 => vF = .pointer (some ⟨b, 0, none⟩) | 1 => vF = .pointer (some ⟨b, 0, none⟩) | 2 => vF = .pointer (some ⟨b, 0, none⟩) | 3 => vF = .pointer (some ⟨w.heap.size, 0, none⟩) | 4 => vF = .int .i64 t.f | _ => True) 5 _ rfl rfl rfl (by kernel_rfl) (by kernel_rfl) ?_ ?_ ?_
  · intro k v w1 w2 hg h
    match k with
    | 0 => exact h
    | 1 => exact h
    | 2 => exact h
    | 3 => exact h
    | 4 => exact h
    | k + 5 => exact trivial
  · refine ⟨?_, ?_, ?_, ?_, ?_, trivial⟩
    · refine stepOne_run trivial ?_
      intro a' w' hg hs hd
      have e0 : a'.eval (.tmp 0) = .pointer (some ⟨b, 0, none⟩) := hs.rest 0 rfl
      have ec : ∀ v, a'.eval (.const v) = v := fun _ => rfl
      have ef : ∀ g, a'.eval (.func g) = .func (.func g) #[] #[] := fun _ => rfl
      clear hd hs
      refine wpv (v := .pointer (some ⟨b, 0, none⟩)) ?_ ⟨_, rfl, Grow.rfl' _, rfl⟩
      (generalize a'.eval = ev at ec ef e0 ⊢; simp [execOp, go_sem, *])
    · refine stepOne_run trivial ?_
      intro a' w' hg hs hd
      have e4 : a'.eval (.tmp 4) = .pointer (some ⟨b, 0, none⟩) := hd ⟨0, Ground.data⟩ (by simp) rfl
      have ec : ∀ v, a'.eval (.const v) = v := fun _ => rfl
      have ef : ∀ g, a'.eval (.func g) = .func (.func g) #[] #[] := fun _ => rfl
      clear hd hs
      refine wpv (v := .pointer (some ⟨b, 0, none⟩)) ?_ ⟨_, rfl, Grow.rfl' _, rfl⟩
      (generalize a'.eval = ev at ec ef e4 ⊢; simp [execOp, go_sem, *])
    · refine stepOne_run trivial ?_
      intro a' w' hg hs hd
      have e5 : a'.eval (.tmp 5) = .pointer (some ⟨b, 0, none⟩) := hd ⟨1, Ground.data⟩ (by simp) rfl
      have ec : ∀ v, a'.eval (.const v) = v := fun _ => rfl
      have ef : ∀ g, a'.eval (.func g) = .func (.func g) #[] #[] := fun _ => rfl
      clear hd hs
      refine wpv (v := .pointer (some ⟨b, 0, none⟩)) ?_ ⟨_, rfl, Grow.rfl' _, rfl⟩
      (generalize a'.eval = ev at ec ef e5 ⊢; simp [execOp, go_sem, *])
    · refine stepOne_run trivial ?_
      intro a' w' hg hs hd
      have e3 : a'.eval (.tmp 3) = .pointer (some ⟨w.heap.size, 0, none⟩) := hs.rest 3 rfl
      have ec : ∀ v, a'.eval (.const v) = v := fun _ => rfl
      have ef : ∀ g, a'.eval (.func g) = .func (.func g) #[] #[] := fun _ => rfl
      clear hd hs
      refine wpv (v := .pointer (some ⟨w.heap.size, 0, none⟩)) ?_ ⟨_, rfl, Grow.rfl' _, rfl⟩
      (generalize a'.eval = ev at ec ef e3 ⊢; simp [execOp, go_sem, *])
    · refine stepOne_run trivial ?_
      intro a' w' hg hs hd
      have e7 : a'.eval (.tmp 7) = .pointer (some ⟨w.heap.size, 0, none⟩) := hd ⟨3, Ground.data⟩ (by simp) rfl
      have ec : ∀ v, a'.eval (.const v) = v := fun _ => rfl
      have ef : ∀ g, a'.eval (.func g) = .func (.func g) #[] #[] := fun _ => rfl
      obtain ⟨x0, x1, x2⟩ := KN.out.later hg
      clear hd hs
      refine wpv (v := .int .i64 t.f) ?_ ⟨_, rfl, Grow.rfl' _, rfl⟩
      (generalize a'.eval = ev at ec ef e7 ⊢; simp [execOp, go_sem, *])
  · intro a' w' hg hs hd
    have e6 : a'.eval (.tmp 6) = .pointer (some ⟨b, 0, none⟩) := hd 2 (by omega)
    have e8 : a'.eval (.tmp 8) = .int .i64 t.f := hd 4 (by omega)
    have ec : ∀ v, a'.eval (.const v) = v := fun _ => rfl
    have ef : ∀ g, a'.eval (.func g) = .func (.func g) #[] #[] := fun _ => rfl
    refine wpc ?_ ((lsmall_any W w' b x t.f (HW.out.later hg) (fun d hd => by have := HL0.out d hd; omega) HY1.out).mono ?_)
    · (generalize a'.eval = ev at ec ef e6 e8 ⊢; simp [execOp, go_sem, *])
    rintro e v1 ⟨rfl, hW2, hT2⟩
    refine ⟨_, rfl, ?_⟩
    have hT3 := (Turn.of_grow (X := XW) hg).trans hT2
    have KN := hide (BoxE.turn hT3 (by decide) BN.out KN.out)
    have BN := hide (BlkE.turn hT3 (by decide) BN.out)
    have HW := hide hW2
    have HT := hide (HT.out.trans hT3)
    clear hW2 hT2 hT3 hg e6 e8 ec ef
    rw [frame_eq hs [false, false, false, false, true, true, true, true, true, true, false, false, false, false, false, false, false, false, false, false, false, false] (by kernel_rfl)]; simp only [mergeL]; clear hs hd; generalize a'.tmps = TT at *; try go_frame
    go_wp2_with fail
    obtain ⟨y2, hy2⟩ : ∃ y, push y1 (smlB t.t) [byt t.t] = y := ⟨_, rfl⟩
    have HY2 := hide hy2
    have HL1 : Hid (∀ d, y1 = some d → d.length + 2 ≤ 1000000) := hide (by intro d hd; have := push_len (k := 1000000 - 2) (fun d hd => by have := HL0.out d hd; simp; omega) d (HY1.out.trans hd); omega)
    clear hy2
    refine wp_region_end (fun i vF wF => match i with | 0 => vF = .pointer (some ⟨b, 0, none⟩) | 1 => vF = .pointer (some ⟨b, 0, none⟩) | 2 => vF = .pointer (some ⟨b, 0, none⟩) | 3 => vF = .pointer (some ⟨w.heap.size, 1, none⟩) | 4 => vF = .int .i64 t.t | _ => True) 5 _ rfl rfl rfl (by kernel_rfl) (by kernel_rfl) ?_ ?_ ?_
    · intro k v w1 w2 hg h
      match k with
      | 0 => exact h
      | 1 => exact h
      | 2 => exact h
      | 3 => exact h
      | 4 => exact h
      | k + 5 => exact trivial
    · refine ⟨?_, ?_, ?_, ?_, ?_, trivial⟩
      · refine stepOne_run trivial ?_
        intro a' w' hg hs hd
        have e0 : a'.eval (.tmp 0) = .pointer (some ⟨b, 0, none⟩) := hs.rest 0 rfl
        have ec : ∀ v, a'.eval (.const v) = v := fun _ => rfl
        have ef : ∀ g, a'.eval (.func g) = .func (.func g) #[] #[] := fun _ => rfl
        clear hd hs
        refine wpv (v := .pointer (some ⟨b, 0, none⟩)) ?_ ⟨_, rfl, Grow.rfl' _, rfl⟩
        (generalize a'.eval = ev at ec ef e0 ⊢; simp [execOp, go_sem, *])
      · refine stepOne_run trivial ?_
        intro a' w' hg hs hd
        have e10 : a'.eval (.tmp 10) = .pointer (some ⟨b, 0, none⟩) := hd ⟨0, Ground.data⟩ (by simp) rfl
        have ec : ∀ v, a'.eval (.const v) = v := fun _ => rfl
        have ef : ∀ g, a'.eval (.func g) = .func (.func g) #[] #[] := fun _ => rfl
        clear hd hs
        refine wpv (v := .pointer (some ⟨b, 0, none⟩)) ?_ ⟨_, rfl, Grow.rfl' _, rfl⟩
        (generalize a'.eval = ev at ec ef e10 ⊢; simp [execOp, go_sem, *])
      · refine stepOne_run trivial ?_
        intro a' w' hg hs hd
        have e11 : a'.eval (.tmp 11) = .pointer (some ⟨b, 0, none⟩) := hd ⟨1, Ground.data⟩ (by simp) rfl
        have ec : ∀ v, a'.eval (.const v) = v := fun _ => rfl
        have ef : ∀ g, a'.eval (.func g) = .func (.func g) #[] #[] := fun _ => rfl
        clear hd hs
        refine wpv (v := .pointer (some ⟨b, 0, none⟩)) ?_ ⟨_, rfl, Grow.rfl' _, rfl⟩
        (generalize a'.eval = ev at ec ef e11 ⊢; simp [execOp, go_sem, *])
      · refine stepOne_run trivial ?_
        intro a' w' hg hs hd
        have e3 : a'.eval (.tmp 3) = .pointer (some ⟨w.heap.size, 0, none⟩) := hs.rest 3 rfl
        have ec : ∀ v, a'.eval (.const v) = v := fun _ => rfl
        have ef : ∀ g, a'.eval (.func g) = .func (.func g) #[] #[] := fun _ => rfl
        clear hd hs
        refine wpv (v := .pointer (some ⟨w.heap.size, 1, none⟩)) ?_ ⟨_, rfl, Grow.rfl' _, rfl⟩
        (generalize a'.eval = ev at ec ef e3 ⊢; simp [execOp, go_sem, *])
      · refine stepOne_run trivial ?_
        intro a' w' hg hs hd
        have e13 : a'.eval (.tmp 13) = .pointer (some ⟨w.heap.size, 1, none⟩) := hd ⟨3, Ground.data⟩ (by simp) rfl
        have ec : ∀ v, a'.eval (.const v) = v := fun _ => rfl
        have ef : ∀ g, a'.eval (.func g) = .func (.func g) #[] #[] := fun _ => rfl
        obtain ⟨x0, x1, x2⟩ := KN.out.later hg
        clear hd hs
        refine wpv (v := .int .i64 t.t) ?_ ⟨_, rfl, Grow.rfl' _, rfl⟩
        (generalize a'.eval = ev at ec ef e13 ⊢; simp [execOp, go_sem, *])
    · intro a' w' hg hs hd
      have e12 : a'.eval (.tmp 12) = .pointer (some ⟨b, 0, none⟩) := hd 2 (by omega)
      have e14 : a'.eval (.tmp 14) = .int .i64 t.t := hd 4 (by omega)
      have ec : ∀ v, a'.eval (.const v) = v := fun _ => rfl
      have ef : ∀ g, a'.eval (.func g) = .func (.func g) #[] #[] := fun _ => rfl
      refine wpc ?_ ((lsmall_any W w' b y1 t.t (HW.out.later hg) (fun d hd => by have := HL1.out d hd; omega) HY2.out).mono ?_)
      · (generalize a'.eval = ev at ec ef e12 e14 ⊢; simp [execOp, go_sem, *])
      rintro e v2 ⟨rfl, hW2, hT2⟩
      refine ⟨_, rfl, ?_⟩
      have hT3 := (Turn.of_grow (X := XW) hg).trans hT2
      have KN := hide (BoxE.turn hT3 (by decide) BN.out KN.out)
      have BN := hide (BlkE.turn hT3 (by decide) BN.out)
      have HW := hide hW2
      have HT := hide (HT.out.trans hT3)
      clear hW2 hT2 hT3 hg e12 e14 ec ef
      rw [frame_eq hs [false, false, false, false, false, false, false, false, false, false, true, true, true, true, true, true, false, false, false, false, false, false] (by kernel_rfl)]; simp only [mergeL]; clear hs hd; generalize a'.tmps = TT at *; try go_frame
      go_wp2_with fail
      obtain ⟨y3, hy3⟩ : ∃ y, push y2 (smlB t.p) [byt t.p] = y := ⟨_, rfl⟩
      have HY3 := hide hy3
      have HL2 : Hid (∀ d, y2 = some d → d.length + 1 ≤ 1000000) := hide (by intro d hd; have := push_len (k := 1000000 - 1) (fun d hd => by have := HL1.out d hd; simp; omega) d (HY2.out.trans hd); omega)
      clear hy3
      refine wp_region_end (fun i vF wF => match i with | 0 => vF = .pointer (some ⟨b, 0, none⟩) | 1 => vF = .pointer (some ⟨b, 0, none⟩) | 2 => vF = .pointer (some ⟨b, 0, none⟩) | 3 => vF = .pointer (some ⟨w.heap.size, 2, none⟩) | 4 => vF = .int .i64 t.p | _ => True) 5 _ rfl rfl rfl (by kernel_rfl) (by kernel_rfl) ?_ ?_ ?_
      · intro k v w1 w2 hg h
        match k with
        | 0 => exact h
        | 1 => exact h
        | 2 => exact h
        | 3 => exact h
        | 4 => exact h
        | k + 5 => exact trivial
      · refine ⟨?_, ?_, ?_, ?_, ?_, trivial⟩
        · refine stepOne_run trivial ?_
          intro a' w' hg hs hd
          have e0 : a'.eval (.tmp 0) = .pointer (some ⟨b, 0, none⟩) := hs.rest 0 rfl
          have ec : ∀ v, a'.eval (.const v) = v := fun _ => rfl
          have ef : ∀ g, a'.eval (.func g) = .func (.func g) #[] #[] := fun _ => rfl
          clear hd hs
          refine wpv (v := .pointer (some ⟨b, 0, none⟩)) ?_ ⟨_, rfl, Grow.rfl' _, rfl⟩
          (generalize a'.eval = ev at ec ef e0 ⊢; simp [execOp, go_sem, *])
        · refine stepOne_run trivial ?_
          intro a' w' hg hs hd
          have e16 : a'.eval (.tmp 16) = .pointer (some ⟨b, 0, none⟩) := hd ⟨0, Ground.data⟩ (by simp) rfl
          have ec : ∀ v, a'.eval (.const v) = v := fun _ => rfl
          have ef : ∀ g, a'.eval (.func g) = .func (.func g) #[] #[] := fun _ => rfl
          clear hd hs
          refine wpv (v := .pointer (some ⟨b, 0, none⟩)) ?_ ⟨_, rfl, Grow.rfl' _, rfl⟩
          (generalize a'.eval = ev at ec ef e16 ⊢; simp [execOp, go_sem, *])
        · refine stepOne_run trivial ?_
          intro a' w' hg hs hd
          have e17 : a'.eval (.tmp 17) = .pointer (some ⟨b, 0, none⟩) := hd ⟨1, Ground.data⟩ (by simp) rfl
          have ec : ∀ v, a'.eval (.const v) = v := fun _ => rfl
          have ef : ∀ g, a'.eval (.func g) = .func (.func g) #[] #[] := fun _ => rfl
          clear hd hs
          refine wpv (v := .pointer (some ⟨b, 0, none⟩)) ?_ ⟨_, rfl, Grow.rfl' _, rfl⟩
          (generalize a'.eval = ev at ec ef e17 ⊢; simp [execOp, go_sem, *])
        · refine stepOne_run trivial ?_
          intro a' w' hg hs hd
          have e3 : a'.eval (.tmp 3) = .pointer (some ⟨w.heap.size, 0, none⟩) := hs.rest 3 rfl
          have ec : ∀ v, a'.eval (.const v) = v := fun _ => rfl
          have ef : ∀ g, a'.eval (.func g) = .func (.func g) #[] #[] := fun _ => rfl
          clear hd hs
          refine wpv (v := .pointer (some ⟨w.heap.size, 2, none⟩)) ?_ ⟨_, rfl, Grow.rfl' _, rfl⟩
          (generalize a'.eval = ev at ec ef e3 ⊢; simp [execOp, go_sem, *])
        · refine stepOne_run trivial ?_
          intro a' w' hg hs hd
          have e19 : a'.eval (.tmp 19) = .pointer (some ⟨w.heap.size, 2, none⟩) := hd ⟨3, Ground.data⟩ (by simp) rfl
          have ec : ∀ v, a'.eval (.const v) = v := fun _ => rfl
          have ef : ∀ g, a'.eval (.func g) = .func (.func g) #[] #[] := fun _ => rfl
          obtain ⟨x0, x1, x2⟩ := KN.out.later hg
          clear hd hs
          refine wpv (v := .int .i64 t.p) ?_ ⟨_, rfl, Grow.rfl' _, rfl⟩
          (generalize a'.eval = ev at ec ef e19 ⊢; simp [execOp, go_sem, *])
      · intro a' w' hg hs hd
        have e18 : a'.eval (.tmp 18) = .pointer (some ⟨b, 0, none⟩) := hd 2 (by omega)
        have e20 : a'.eval (.tmp 20) = .int .i64 t.p := hd 4 (by omega)
        have ec : ∀ v, a'.eval (.const v) = v := fun _ => rfl
        have ef : ∀ g, a'.eval (.func g) = .func (.func g) #[] #[] := fun _ => rfl
        refine wpc ?_ ((lsmall_any W w' b y2 t.p (HW.out.later hg) (fun d hd => by have := HL2.out d hd; omega) HY3.out).mono ?_)
        · (generalize a'.eval = ev at ec ef e18 e20 ⊢; simp [execOp, go_sem, *])
        rintro e v3 ⟨rfl, hW2, hT2⟩
        refine ⟨_, rfl, ?_⟩
        have hT3 := (Turn.of_grow (X := XW) hg).trans hT2
        have KN := hide (BoxE.turn hT3 (by decide) BN.out KN.out)
        have BN := hide (BlkE.turn hT3 (by decide) BN.out)
        have HW := hide hW2
        have HT := hide (HT.out.trans hT3)
        clear hW2 hT2 hT3 hg e18 e20 ec ef
        rw [frame_eq hs [false, false, false, false, false, false, false, false, false, false, false, false, false, false, false, false, true, true, true, true, true, true] (by kernel_rfl)]; simp only [mergeL]; clear hs hd; generalize a'.tmps = TT at *; try go_frame
        go_wp2_with fail
        have hyy : y3 = y := by rw [← HY.out, ← HY3.out, ← HY2.out, ← HY1.out, push_push, push_push]; simp [edB, byE, Bool.and_assoc]
        subst hyy
        exact bodyPost_end (v := .tuple #[]) (by simp [results, Tryz.results29]) rfl ⟨rfl, HW.out, HT.out⟩
end Go.Proofs.YtjebipagehhkjaaGreat
