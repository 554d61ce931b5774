/-
  Graphs as bytes, as plain data: how a graph is laid down, and how bytes are taken as one; what follows of it. No program is named here.
-/
import Derived.Test.YtjebipagehhkjaaGreatHPl
namespace Go.Proofs.YtjebipagehhkjaaGreat
open Go.RowKit
set_option linter.unusedVariables false
set_option linter.unusedSimpArgs false

/-- The lowest byte of a number. -/
def byt (x : Int) : UInt8 := UInt8.ofNat (x % 256).toNat
/-- The number of two bytes, the highest first. -/
def num (h l : UInt8) : Int := if 256 * (h.toNat : Int) + l.toNat > 32767 then 256 * (h.toNat : Int) + l.toNat - 65536 else 256 * (h.toNat : Int) + l.toNat
def smlB (x : Int) : Bool := decide (0 ≤ x) && decide (x ≤ 255)
def twoB (x : Int) : Bool := decide (-32768 ≤ x) && decide (x ≤ 32767)
def ndB (n : Nd) : Bool := smlB n.k && smlB n.d && twoB n.a && twoB n.b
def edB (e : Ed) : Bool := smlB e.f && smlB e.t && smlB e.p
def byN (n : Nd) : List UInt8 := [byt n.k, byt n.d, byt (n.a / 256), byt n.a, byt (n.b / 256), byt n.b]
def byE (e : Ed) : List UInt8 := [byt e.f, byt e.t, byt e.p]
/-- May a graph be laid down? -/
def fitG (N : List Nd) (E : List Ed) : Bool := decide (N.length ≤ 255) && decide (E.length ≤ 255) && N.all ndB && E.all edB
/-- A graph's bytes. -/
def putG (N : List Nd) (E : List Ed) : List UInt8 := 77 :: 71 :: byt N.length :: (N.flatMap byN ++ byt E.length :: E.flatMap byE)
/-- The byte at a place. -/
def atB (b : List UInt8) (i : Nat) : UInt8 := b.getD i 0
def ndAt (b : List UInt8) (i : Nat) : Nd := ⟨(atB b i).toNat, num (atB b (i + 2)) (atB b (i + 3)), num (atB b (i + 4)) (atB b (i + 5)), (atB b (i + 1)).toNat⟩
def edAt (b : List UInt8) (i : Nat) : Ed := ⟨(atB b i).toNat, (atB b (i + 1)).toNat, (atB b (i + 2)).toNat⟩
def ndsAt (b : List UInt8) (i n : Nat) : List Nd := (List.range n).map fun k => ndAt b (i + 6 * k)
def edsAt (b : List UInt8) (i n : Nat) : List Ed := (List.range n).map fun k => edAt b (i + 3 * k)
/-- How many nodes bytes speak of, how many edges. -/
def nn (b : List UInt8) : Nat := (atB b 2).toNat
def ne (b : List UInt8) : Nat := (atB b (3 + 6 * nn b)).toNat
/-- Are bytes those of a graph? -/
def isB10 (b : List UInt8) : Bool := decide (4 ≤ b.length) && decide (atB b 0 = 77) && decide (atB b 1 = 71) && decide (4 + 6 * nn b ≤ b.length) && decide (b.length = 4 + 6 * nn b + 3 * ne b)
def tkN (b : List UInt8) : List Nd := ndsAt b 3 (nn b)
def tkE (b : List UInt8) : List Ed := edsAt b (4 + 6 * nn b) (ne b)

theorem byt_nat {x : Int} (h : 0 ≤ x) (h2 : x ≤ 255) : ((byt x).toNat : Int) = x := by
  unfold byt
  rw [UInt8.toNat_ofNat']
  omega
theorem byt_toNat (x : Int) : ((byt x).toNat : Int) = x % 256 := by
  unfold byt
  rw [UInt8.toNat_ofNat']
  omega
theorem byt_of (u : UInt8) : byt (u.toNat : Int) = u := by
  have h := u.toNat_lt
  apply UInt8.toNat_inj.1
  have := byt_toNat (u.toNat : Int)
  omega
theorem num_byt {x : Int} (h : -32768 ≤ x) (h2 : x ≤ 32767) : num (byt (x / 256)) (byt x) = x := by
  unfold num
  rw [byt_toNat, byt_toNat]
  split <;> omega
theorem num_two (h l : UInt8) : twoB (num h l) = true := by
  have h1 := h.toNat_lt
  have h2 := l.toNat_lt
  unfold num twoB
  simp
  split <;> omega
theorem byt_hi (h l : UInt8) : byt (num h l / 256) = h := by
  have h1 := h.toNat_lt
  have h2 := l.toNat_lt
  apply UInt8.toNat_inj.1
  have := byt_toNat (num h l / 256)
  unfold num at this ⊢
  split at this <;> rename_i hc <;> simp only [hc, if_true, if_false] <;> omega
theorem byt_lo (h l : UInt8) : byt (num h l) = l := by
  have h1 := h.toNat_lt
  have h2 := l.toNat_lt
  apply UInt8.toNat_inj.1
  have := byt_toNat (num h l)
  unfold num at this ⊢
  split at this <;> rename_i hc <;> simp only [hc, if_true, if_false] <;> omega
theorem sml_nat (u : UInt8) : smlB (u.toNat : Int) = true := by
  have := u.toNat_lt
  simp [smlB]
  omega
theorem ndB_at (b : List UInt8) (i : Nat) : ndB (ndAt b i) = true := by
  simp only [ndB, ndAt, sml_nat, num_two, Bool.and_self]
theorem edB_at (b : List UInt8) (i : Nat) : edB (edAt b i) = true := by
  simp only [edB, edAt, sml_nat, Bool.and_self]
theorem atB_drop (b : List UInt8) (i j : Nat) : atB (b.drop i) j = atB b (i + j) := by
  simp [atB, List.getD_eq_getElem?_getD]
theorem atB_left {b c : List UInt8} {i : Nat} (h : i < b.length) : atB (b ++ c) i = atB b i := by
  simp [atB, List.getD_eq_getElem?_getD, List.getElem?_append_left h]
theorem atB_right (b c : List UInt8) (i : Nat) : atB (b ++ c) (b.length + i) = atB c i := by
  simp only [atB, List.getD_eq_getElem?_getD]
  rw [List.getElem?_append_right (Nat.le_add_right _ _), Nat.add_sub_cancel_left]
theorem ndAt_left {b c : List UInt8} {i : Nat} (h : i + 5 < b.length) : ndAt (b ++ c) i = ndAt b i := by
  simp only [ndAt, atB_left (c := c) (show i < b.length by omega), atB_left (c := c) (show i + 1 < b.length by omega), atB_left (c := c) (show i + 2 < b.length by omega), atB_left (c := c) (show i + 3 < b.length by omega), atB_left (c := c) (show i + 4 < b.length by omega), atB_left (c := c) h]
theorem edAt_left {b c : List UInt8} {i : Nat} (h : i + 2 < b.length) : edAt (b ++ c) i = edAt b i := by
  simp only [edAt, atB_left (c := c) (show i < b.length by omega), atB_left (c := c) (show i + 1 < b.length by omega), atB_left (c := c) h]
theorem ndAt_right (b c : List UInt8) (i : Nat) : ndAt (b ++ c) (b.length + i) = ndAt c i := by
  simp only [ndAt, Nat.add_assoc, atB_right]
theorem edAt_right (b c : List UInt8) (i : Nat) : edAt (b ++ c) (b.length + i) = edAt c i := by
  simp only [edAt, Nat.add_assoc, atB_right]
theorem ndAt_byN {n : Nd} (h : ndB n = true) (c : List UInt8) : ndAt (byN n ++ c) 0 = n := by
  cases n
  simp only [ndB, smlB, twoB, Bool.and_eq_true, decide_eq_true_eq] at h
  obtain ⟨⟨⟨⟨h1, h2⟩, h3, h4⟩, h5, h6⟩, h7, h8⟩ := h
  simp [ndAt, atB, byN, byt_nat, num_byt, *]
theorem edAt_byE {e : Ed} (h : edB e = true) (c : List UInt8) : edAt (byE e ++ c) 0 = e := by
  cases e
  simp only [edB, smlB, Bool.and_eq_true, decide_eq_true_eq] at h
  obtain ⟨⟨⟨h1, h2⟩, h3, h4⟩, h5, h6⟩ := h
  simp [edAt, atB, byE, byt_nat, *]
theorem ndsAt_zero (b : List UInt8) (i : Nat) : ndsAt b i 0 = [] := rfl
theorem ndsAt_succ (b : List UInt8) (i n : Nat) : ndsAt b i (n + 1) = ndsAt b i n ++ [ndAt b (i + 6 * n)] := by
  simp [ndsAt, List.range_succ]
theorem edsAt_succ (b : List UInt8) (i n : Nat) : edsAt b i (n + 1) = edsAt b i n ++ [edAt b (i + 3 * n)] := by
  simp [edsAt, List.range_succ]
theorem ndsAt_length (b : List UInt8) (i n : Nat) : (ndsAt b i n).length = n := by simp [ndsAt]
theorem edsAt_length (b : List UInt8) (i n : Nat) : (edsAt b i n).length = n := by simp [edsAt]
theorem ndsAt_cons (b : List UInt8) (i n : Nat) : ndsAt b i (n + 1) = ndAt b i :: ndsAt b (i + 6) n := by
  simp only [ndsAt, List.range_succ_eq_map, List.map_cons, List.map_map]
  congr 1
  apply List.map_congr_left
  intro k _
  simp only [Function.comp]
  congr 1
  omega
theorem edsAt_cons (b : List UInt8) (i n : Nat) : edsAt b i (n + 1) = edAt b i :: edsAt b (i + 3) n := by
  simp only [edsAt, List.range_succ_eq_map, List.map_cons, List.map_map]
  congr 1
  apply List.map_congr_left
  intro k _
  simp only [Function.comp]
  congr 1
  omega
theorem ndsAt_shift (b c : List UInt8) (i n : Nat) : ndsAt (b ++ c) (b.length + i) n = ndsAt c i n := by
  simp only [ndsAt, Nat.add_assoc, ndAt_right]
theorem edsAt_shift (b c : List UInt8) (i n : Nat) : edsAt (b ++ c) (b.length + i) n = edsAt c i n := by
  simp only [edsAt, Nat.add_assoc, edAt_right]
theorem len_byN (N : List Nd) : (N.flatMap byN).length = 6 * N.length := by
  induction N with
  | nil => rfl
  | cons n N ih => simp only [List.flatMap_cons, List.length_append, ih, List.length_cons]; simp [byN]; omega
theorem len_byE (E : List Ed) : (E.flatMap byE).length = 3 * E.length := by
  induction E with
  | nil => rfl
  | cons e E ih => simp only [List.flatMap_cons, List.length_append, ih, List.length_cons]; simp [byE]; omega
theorem nds_by : ∀ (N : List Nd) (c : List UInt8), N.all ndB = true → ndsAt (N.flatMap byN ++ c) 0 N.length = N := by
  intro N
  induction N with
  | nil => intro c _; rfl
  | cons n N ih =>
    intro c h
    simp only [List.all_cons, Bool.and_eq_true] at h
    rw [List.flatMap_cons, List.append_assoc, List.length_cons, ndsAt_cons, ndAt_byN h.1]
    have := ndsAt_shift (byN n) (N.flatMap byN ++ c) 0 N.length
    rw [show (byN n).length = 6 from rfl] at this
    rw [show 0 + 6 = 6 + 0 from rfl, this, ih c h.2]
theorem eds_by : ∀ (E : List Ed) (c : List UInt8), E.all edB = true → edsAt (E.flatMap byE ++ c) 0 E.length = E := by
  intro E
  induction E with
  | nil => intro c _; rfl
  | cons e E ih =>
    intro c h
    simp only [List.all_cons, Bool.and_eq_true] at h
    rw [List.flatMap_cons, List.append_assoc, List.length_cons, edsAt_cons, edAt_byE h.1]
    have := edsAt_shift (byE e) (E.flatMap byE ++ c) 0 E.length
    rw [show (byE e).length = 3 from rfl] at this
    rw [show 0 + 3 = 3 + 0 from rfl, this, ih c h.2]
theorem putG_length (N : List Nd) (E : List Ed) : (putG N E).length = 4 + 6 * N.length + 3 * E.length := by
  simp only [putG, List.length_cons, List.length_append, len_byN, len_byE]
  omega
theorem putG_split (N : List Nd) (E : List Ed) : putG N E = [77, 71, byt N.length] ++ (N.flatMap byN ++ ([byt E.length] ++ E.flatMap byE)) := by
  simp [putG]
theorem fitG_iff {N : List Nd} {E : List Ed} : fitG N E = true ↔ N.length ≤ 255 ∧ E.length ≤ 255 ∧ N.all ndB = true ∧ E.all edB = true := by
  simp only [fitG, Bool.and_eq_true, decide_eq_true_eq, and_assoc]
theorem nn_put {N : List Nd} {E : List Ed} (h : N.length ≤ 255) (c : List UInt8) : nn (putG N E ++ c) = N.length := by
  have := byt_nat (x := N.length) (by omega) (by omega)
  simp only [nn, putG, atB, List.cons_append, List.getD_cons_succ, List.getD_cons_zero]
  omega
theorem ne_put {N : List Nd} {E : List Ed} (h : N.length ≤ 255) (h2 : E.length ≤ 255) (c : List UInt8) : ne (putG N E ++ c) = E.length := by
  have h3 := byt_nat (x := E.length) (by omega) (by omega)
  unfold ne
  rw [nn_put h, putG_split, List.append_assoc, List.append_assoc, show 3 + 6 * N.length = ([77, 71, byt N.length] : List UInt8).length + (6 * N.length) from rfl, atB_right, ← len_byN, ← Nat.add_zero (N.flatMap byN).length, atB_right]
  simp only [atB, List.cons_append, List.getD_cons_zero, List.nil_append, List.append_assoc]
  omega
theorem tkN_put {N : List Nd} {E : List Ed} (h : fitG N E = true) (c : List UInt8) : tkN (putG N E ++ c) = N := by
  obtain ⟨h1, h2, h3, h4⟩ := fitG_iff.1 h
  unfold tkN
  rw [nn_put h1, putG_split, List.append_assoc, List.append_assoc, show 3 = ([77, 71, byt N.length] : List UInt8).length + 0 from rfl, ndsAt_shift]
  exact nds_by N _ h3
theorem tkE_put {N : List Nd} {E : List Ed} (h : fitG N E = true) (c : List UInt8) : tkE (putG N E ++ c) = E := by
  obtain ⟨h1, h2, h3, h4⟩ := fitG_iff.1 h
  unfold tkE
  rw [ne_put h1 h2, nn_put h1, putG_split, List.append_assoc, List.append_assoc, show 4 + 6 * N.length = ([77, 71, byt N.length] : List UInt8).length + (6 * N.length + 1) by simp; omega, edsAt_shift, ← len_byN, edsAt_shift, List.append_assoc, show 1 = ([byt E.length] : List UInt8).length + 0 from rfl, edsAt_shift]
  exact eds_by E c h4
/-- Bytes that go on behind a graph's are none. -/
theorem isB10_put {N : List Nd} {E : List Ed} (h : fitG N E = true) (c : List UInt8) : isB10 (putG N E ++ c) = decide (c = []) := by
  obtain ⟨h1, h2, h3, h4⟩ := fitG_iff.1 h
  have hl : (putG N E ++ c).length = 4 + 6 * N.length + 3 * E.length + c.length := by rw [List.length_append, putG_length]
  have ha : atB (putG N E ++ c) 0 = 77 := rfl
  have hb : atB (putG N E ++ c) 1 = 71 := rfl
  simp only [isB10, nn_put h1, ne_put h1 h2, hl, ha, hb]
  cases c with
  | nil => simp; omega
  | cons x c => simp
/-- P10.2: Take of Put is the graph. -/
theorem take_put {N : List Nd} {E : List Ed} (h : fitG N E = true) : isB10 (putG N E) = true ∧ tkN (putG N E) = N ∧ tkE (putG N E) = E := by
  have h1 := isB10_put h []
  have h2 := tkN_put h []
  have h3 := tkE_put h []
  rw [List.append_nil] at h1 h2 h3
  exact ⟨by rw [h1]; rfl, h2, h3⟩
theorem put_more {N : List Nd} {E : List Ed} (h : fitG N E = true) (x : UInt8) : isB10 (putG N E ++ [x]) = false := by
  rw [isB10_put h]; rfl
theorem put_inj {N M : List Nd} {E F : List Ed} (h : fitG N E = true) (h2 : fitG M F = true) (e : putG N E = putG M F) : N = M ∧ E = F := by
  have h3 := take_put h
  have h4 := take_put h2
  rw [e] at h3
  exact ⟨h3.2.1.symm.trans h4.2.1, h3.2.2.symm.trans h4.2.2⟩
theorem atB_take {b : List UInt8} {k i : Nat} (h : i < k) : atB (b.take k) i = atB b i := by
  simp [atB, List.getD_eq_getElem?_getD, List.getElem?_take, h]
/-- Bytes that are cut are none. -/
theorem put_cut {N : List Nd} {E : List Ed} (h : fitG N E = true) {k : Nat} (hk : k < (putG N E).length) : isB10 ((putG N E).take k) = false := by
  obtain ⟨h1, h2, h3, h4⟩ := fitG_iff.1 h
  have hl := putG_length N E
  have hn := nn_put (N := N) (E := E) h1 []
  have hm := ne_put (N := N) (E := E) h1 h2 []
  rw [List.append_nil] at hn hm
  have hc : ((putG N E).take k).length = k := by rw [List.length_take]; omega
  cases hx : isB10 ((putG N E).take k) with
  | false => rfl
  | true =>
    simp only [isB10, hc, Bool.and_eq_true, decide_eq_true_eq] at hx
    obtain ⟨⟨⟨⟨x1, x2⟩, x3⟩, x4⟩, x5⟩ := hx
    have hn2 : nn ((putG N E).take k) = N.length := by rw [← hn]; unfold nn; rw [atB_take (by omega)]
    rw [hn2] at x4 x5
    have hm2 : ne ((putG N E).take k) = E.length := by
      rw [← hm]
      unfold ne
      rw [hn2, hn, atB_take (by omega)]
    rw [hm2] at x5
    omega
/-- Of bytes that are a graph's, it is laid down as they are. -/
theorem by_nds : ∀ (n i : Nat) (b : List UInt8), i + 6 * n ≤ b.length → (ndsAt b i n).flatMap byN = (b.drop i).take (6 * n) := by
  intro n
  induction n with
  | zero => intro i b _; simp [ndsAt]
  | succ n ih =>
    intro i b h
    rw [ndsAt_cons, List.flatMap_cons, ih (i + 6) b (by omega)]
    have hd : b.drop i = atB b i :: atB b (i + 1) :: atB b (i + 2) :: atB b (i + 3) :: atB b (i + 4) :: atB b (i + 5) :: b.drop (i + 6) := by
      have s : ∀ j, j < b.length → b.drop j = atB b j :: b.drop (j + 1) := by
        intro j hj
        rw [List.drop_eq_getElem_cons hj]
        simp [atB, List.getD_eq_getElem?_getD, hj]
      rw [s i (by omega), s (i + 1) (by omega), s (i + 2) (by omega), s (i + 3) (by omega), s (i + 4) (by omega), s (i + 5) (by omega)]
    rw [hd, show 6 * (n + 1) = 6 * n + 6 by omega]
    simp only [List.take_succ_cons, byN, ndAt, byt_of, byt_hi, byt_lo, List.cons_append, List.nil_append]
theorem by_eds : ∀ (n i : Nat) (b : List UInt8), i + 3 * n ≤ b.length → (edsAt b i n).flatMap byE = (b.drop i).take (3 * n) := by
  intro n
  induction n with
  | zero => intro i b _; simp [edsAt]
  | succ n ih =>
    intro i b h
    rw [edsAt_cons, List.flatMap_cons, ih (i + 3) b (by omega)]
    have hd : b.drop i = atB b i :: atB b (i + 1) :: atB b (i + 2) :: b.drop (i + 3) := by
      have s : ∀ j, j < b.length → b.drop j = atB b j :: b.drop (j + 1) := by
        intro j hj
        rw [List.drop_eq_getElem_cons hj]
        simp [atB, List.getD_eq_getElem?_getD, hj]
      rw [s i (by omega), s (i + 1) (by omega), s (i + 2) (by omega)]
    rw [hd, show 3 * (n + 1) = 3 * n + 3 by omega]
    simp only [List.take_succ_cons, byE, edAt, byt_of, List.cons_append, List.nil_append]
theorem tk_fit (b : List UInt8) : fitG (tkN b) (tkE b) = true := by
  rw [fitG_iff]
  have h1 := (atB b 2).toNat_lt
  have h2 := (atB b (3 + 6 * nn b)).toNat_lt
  refine ⟨?_, ?_, ?_, ?_⟩
  · unfold tkN; rw [ndsAt_length]; unfold nn; omega
  · unfold tkE; rw [edsAt_length]; unfold ne; omega
  · simp [tkN, ndsAt, ndB_at]
  · simp [tkE, edsAt, edB_at]
theorem put_take {b : List UInt8} (h : isB10 b = true) : putG (tkN b) (tkE b) = b := by
  simp only [isB10, Bool.and_eq_true, decide_eq_true_eq] at h
  obtain ⟨⟨⟨⟨x1, x2⟩, x3⟩, x4⟩, x5⟩ := h
  have s : ∀ j, j < b.length → b.drop j = atB b j :: b.drop (j + 1) := by
    intro j hj
    rw [List.drop_eq_getElem_cons hj]
    simp [atB, List.getD_eq_getElem?_getD, hj]
  have e1 : byt ((tkN b).length : Int) = atB b 2 := by unfold tkN; rw [ndsAt_length]; exact byt_of _
  have e2 : byt ((tkE b).length : Int) = atB b (3 + 6 * nn b) := by unfold tkE; rw [edsAt_length]; exact byt_of _
  have e3 : (tkN b).flatMap byN = (b.drop 3).take (6 * nn b) := by_nds _ _ _ (by omega)
  have e4 : (tkE b).flatMap byE = (b.drop (4 + 6 * nn b)).take (3 * ne b) := by_eds _ _ _ (by omega)
  have e5 : (b.drop (4 + 6 * nn b)).take (3 * ne b) = b.drop (4 + 6 * nn b) := List.take_of_length_le (by rw [List.length_drop]; omega)
  unfold putG
  rw [e1, e2, e3, e4, e5]
  have e6 : atB b (3 + 6 * nn b) :: b.drop (4 + 6 * nn b) = (b.drop 3).drop (6 * nn b) := by
    rw [List.drop_drop, s (3 + 6 * nn b) (by omega), show 3 + 6 * nn b + 1 = 4 + 6 * nn b by omega]
  rw [e6, List.take_append_drop, ← x2, ← x3, ← s 2 (by omega), ← s 1 (by omega), ← s 0 (by omega)]
  rfl
theorem Nd.ext' {a b : Nd} (h1 : a.k = b.k) (h2 : a.a = b.a) (h3 : a.b = b.b) (h4 : a.d = b.d) : a = b := by cases a; cases b; simp_all
theorem Ed.ext' {a b : Ed} (h1 : a.f = b.f) (h2 : a.t = b.t) (h3 : a.p = b.p) : a = b := by cases a; cases b; simp_all
instance : DecidableEq Nd := fun a b =>
  if h : a.k = b.k ∧ a.a = b.a ∧ a.b = b.b ∧ a.d = b.d then .isTrue (Nd.ext' h.1 h.2.1 h.2.2.1 h.2.2.2) else .isFalse fun e => h (by subst e; exact ⟨rfl, rfl, rfl, rfl⟩)
instance : DecidableEq Ed := fun a b =>
  if h : a.f = b.f ∧ a.t = b.t ∧ a.p = b.p then .isTrue (Ed.ext' h.1 h.2.1 h.2.2) else .isFalse fun e => h (by subst e; exact ⟨rfl, rfl, rfl⟩)
/-- Are two graphs the same? -/
def sameG (N : List Nd) (E : List Ed) (M : List Nd) (F : List Ed) : Bool := decide (N = M) && decide (E = F)
theorem sameG_self (N : List Nd) (E : List Ed) : sameG N E N E = true := by simp [sameG]
theorem put_same {N M : List Nd} {E F : List Ed} (h : fitG N E = true) (h2 : fitG M F = true) : decide (putG N E = putG M F) = sameG N E M F := by
  by_cases e : putG N E = putG M F
  · obtain ⟨rfl, rfl⟩ := put_inj h h2 e
    rw [sameG_self]
    exact decide_eq_true rfl
  · rw [decide_eq_false e]
    cases hs : sameG N E M F with
    | false => rfl
    | true =>
      simp only [sameG, Bool.and_eq_true, decide_eq_true_eq] at hs
      obtain ⟨rfl, rfl⟩ := hs
      exact absurd rfl e
/-- Two rows of one length are the same just if each of their members is. -/
theorem rows_same {α : Type} {a b : List α} (hl : a.length = b.length) (h : ∀ j (h1 : j < a.length) (h2 : j < b.length), a[j] = b[j]) : a = b := List.ext_getElem hl h
theorem rows_un {α : Type} {a b : List α} {j : Nat} (h1 : j < a.length) (h2 : j < b.length) (h : a[j] ≠ b[j]) : a ≠ b := fun e => by subst e; exact h rfl
theorem rows_len {α : Type} {a b : List α} (h : a.length ≠ b.length) : a ≠ b := fun e => h (by rw [e])
/-- Strings of rows of bytes. -/
theorem str_eq (l m : List UInt8) : ((⟨l.toArray⟩ : ByteArray) = ⟨m.toArray⟩) ↔ l = m := by
  constructor
  · intro h
    have := congrArg ByteArray.data h
    simpa using this
  · rintro rfl
    rfl
theorem by_step {N : List Nd} {k : Nat} (h : k < N.length) : (N.take (k + 1)).flatMap byN = (N.take k).flatMap byN ++ byN N[k] := by
  rw [← List.take_append_getElem h, List.flatMap_append]
  simp
theorem ey_step {E : List Ed} {k : Nat} (h : k < E.length) : (E.take (k + 1)).flatMap byE = (E.take k).flatMap byE ++ byE E[k] := by
  rw [← List.take_append_getElem h, List.flatMap_append]
  simp
theorem fit_nd {N : List Nd} {E : List Ed} (h : fitG N E = true) {k : Nat} (hk : k < N.length) : ndB N[k] = true := List.all_eq_true.1 (fitG_iff.1 h).2.2.1 _ (List.getElem_mem hk)
theorem fit_ed {N : List Nd} {E : List Ed} (h : fitG N E = true) {k : Nat} (hk : k < E.length) : edB E[k] = true := List.all_eq_true.1 (fitG_iff.1 h).2.2.2 _ (List.getElem_mem hk)
theorem fit_no1 {N : List Nd} {E : List Ed} (h : 255 < N.length ∨ 255 < E.length) : fitG N E = false := by
  cases hf : fitG N E with
  | false => rfl
  | true => obtain ⟨h1, h2, h3, h4⟩ := fitG_iff.1 hf; omega
theorem fit_no2 {N : List Nd} {E : List Ed} {k : Nat} (hk : k < N.length) (h : ndB N[k] = false) : fitG N E = false := by
  cases hf : fitG N E with
  | false => rfl
  | true => rw [fit_nd hf hk] at h; cases h
theorem fit_no3 {N : List Nd} {E : List Ed} {k : Nat} (hk : k < E.length) (h : edB E[k] = false) : fitG N E = false := by
  cases hf : fitG N E with
  | false => rfl
  | true => rw [fit_ed hf hk] at h; cases h
theorem fit_yes {N : List Nd} {E : List Ed} (h1 : N.length ≤ 255) (h2 : E.length ≤ 255) (h3 : ∀ j (h : j < N.length), ndB N[j] = true) (h4 : ∀ j (h : j < E.length), edB E[j] = true) : fitG N E = true := by
  refine fitG_iff.2 ⟨h1, h2, List.all_eq_true.2 fun x hx => ?_, List.all_eq_true.2 fun x hx => ?_⟩
  · obtain ⟨j, hj, e⟩ := List.getElem_of_mem hx
    rw [← e]; exact h3 j hj
  · obtain ⟨j, hj, e⟩ := List.getElem_of_mem hx
    rw [← e]; exact h4 j hj
/-- The document's example. -/
theorem put_shown : putG [⟨1, 0, 0, 0⟩, ⟨11, 0, 0, 0⟩] [⟨0, 1, 0⟩] = [77, 71, 2, 1, 0, 0, 0, 0, 0, 11, 0, 0, 0, 0, 0, 1, 0, 1, 0] := by decide
theorem isB10_iff {b : List UInt8} : isB10 b = true ↔ 4 ≤ b.length ∧ atB b 0 = 77 ∧ atB b 1 = 71 ∧ 4 + 6 * nn b ≤ b.length ∧ b.length = 4 + 6 * nn b + 3 * ne b := by
  simp only [isB10, Bool.and_eq_true, decide_eq_true_eq, and_assoc]
end Go.Proofs.YtjebipagehhkjaaGreat
