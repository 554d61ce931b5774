/-
  What Take and Load tell of all bytes, both ways in one: a graph, with no rows where there is an error, and the error; heads of rows of bytes.
-/
import Derived.Test.YtjebipagehhkjaaGreatKRa
import Derived.Test.YtjebipagehhkjaaGreatVGr
import Derived.Test.YtjebipagehhkjaaGreatVRg
import Derived.Test.YtjebipagehhkjaaGreatKHd
import Derived.Test.YtjebipagehhkjaaGreatKSg
/-
  What gcode's Load, and the document's own, do to the world: of bytes that are a graph's that may run they return the graph, else the error; what was there stays as it was.
-/
namespace Go.Proofs.YtjebipagehhkjaaGreat
set_option maxRecDepth 100000
open Go.ChangeShapes Go.WideShapes Go.ChangeAt Go.RowKit Go.Deep Go.Sort
set_option linter.unusedVariables false
set_option linter.unusedSimpArgs false

/-- What is told of bytes that are loaded. -/
def ldE (d : List UInt8) : Int := if isB10 d = true then errG (tkN d) (tkE d) else 2
def Loaded (d : List UInt8) (w : World) (e : Ending) (w' : World) : Prop :=
  Grow w w' ∧ ((ldE d = 0 ∧ isB10 d = true ∧ ∃ s c t q, e = .returned (.tuple #[.agg #[.slice s (nn d) c, .slice t (ne d) q], .int .i64 0]) ∧ IsNds w' s (nn d) c (tkN d) ∧ IsEds w' t (ne d) q (tkE d)) ∨ (ldE d ≠ 0 ∧ e = .returned (.tuple #[.agg #[.slice none 0 0, .slice none 0 0], .int .i64 (ldE d)])))
set_option maxHeartbeats 4000000 in
theorem load_any (s : Option Addr) (n c : Nat) (d : List UInt8) (w : World) (hn : n ≤ 100000) (hI : IsBy w s n c d) : Calls Tryz.prog 8 #[.slice s n c] w fun e w' => Loaded d w e w' := by
  have HG : Hid (Grow w (w.alloc (.cells #[.slice none 0 0, .slice none 0 0] 27))) := hide (Grow.alloc' _ _)
  have HB : Hid (BlkG (w.alloc (.cells #[.slice none 0 0, .slice none 0 0] 27)) w.heap.size) := hide (BlkG.new w _ _)
  have HI := hide (hI.later HG.out)
  have HN := hide hn
  clear hI hn
  go_enter Tryz.func8, Tryz.ntmps8
  go_wp2_with fail
  generalize (w.alloc (.cells #[.slice none 0 0, .slice none 0 0] 27)) = w0 at *
  obtain ⟨P, hP⟩ : ∃ P, P = w.heap.size := ⟨_, rfl⟩
  rw [← hP] at HB ⊢
  have HPW : Hid (w.heap.size ≤ P) := hide (Nat.le_of_eq hP.symm)
  clear hP
  refine (take_any s n c d w0 HI.out).mono ?_
  rintro _ w1 ⟨hg, ⟨hyes, s1, c1, t1, q1, rfl, hN1, hE1⟩ | ⟨hno, rfl⟩⟩
  · obtain ⟨n1, hn1⟩ : ∃ n1, nn d = n1 := ⟨_, rfl⟩
    obtain ⟨m1, hm1⟩ : ∃ m1, ne d = m1 := ⟨_, rfl⟩
    rw [hn1] at hN1
    rw [hm1] at hE1
    have HPB : Hid (P < w0.heap.size) := hide HB.out.lt
    rw [hn1, hm1]
    have HNN := hide hn1
    have HMM := hide hm1
    have HYES := hide hyes
    have HG1 := hide (Grow.trans' (Grow.trans' HG.out hg) (Grow.alloc' w1 (.cells #[.slice s1 n1 c1, .slice t1 m1 q1] 27)))
    have HB1 := hide ((HB.out.later hg).later (Grow.alloc' w1 (.cells #[.slice s1 n1 c1, .slice t1 m1 q1] 27)))
    have KG := hide (BoxG.new w1 ⟨s1, n1, c1, t1, m1, q1, [], []⟩)
    have HN1 := hide (hN1.later (Grow.alloc' w1 (.cells #[.slice s1 n1 c1, .slice t1 m1 q1] 27)))
    have HE1 := hide (hE1.later (Grow.alloc' w1 (.cells #[.slice s1 n1 c1, .slice t1 m1 q1] 27)))
    clear hn1 hm1 hyes hg hN1 hE1 HG HB HI
    go_upto_region 2 with fail
    generalize w1.alloc (.cells #[.slice s1 n1 c1, .slice t1 m1 q1] 27) = w2 at *
    generalize w1.heap.size = Q at *
    obtain ⟨g0, g1⟩ := KG.out
    dsimp only at g0 g1
    obtain ⟨r, hr⟩ : ∃ r, errG (tkN d) (tkE d) = r := ⟨_, rfl⟩
    have C := hide (graph_any s1 n1 c1 t1 m1 q1 (tkN d) (tkE d) w2 HN1.out.is HE1.out.is hr)
    have HE : Hid (ldE d = r) := hide (by unfold ldE; rw [if_pos HYES.out]; exact hr)
    clear hr
    go_wp2_with fail
    refine C.out.mono ?_
    rintro _ w3 ⟨rfl, hg⟩
    have HG3 := hide (Grow.trans' HG1.out hg)
    have HB3 := hide (HB1.out.later hg)
    have HN3 := hide (HN1.out.later hg)
    have HE3 := hide (HE1.out.later hg)
    obtain ⟨h0, h1⟩ := KG.out.later hg
    dsimp only at h0 h1
    clear hg g0 g1 HG1 HB1 HN1 HE1 KG C
    by_cases hr0 : r = 0
    · subst hr0
      go_wp2_with (refine wpList_putG2 rfl _ _ rfl P ⟨s1, n1, c1, t1, m1, q1, [], []⟩ rfl rfl HB3.out w HG3.out HPW.out ?_)
      intro w5 hg5 hb5 hbb5 hk5 hz5
      have HG5 := hide hg5
      have HN5 : Hid (IsNds w5 s1 n1 c1 (tkN d)) := hide (HN3.out.keep fun a ha => hk5 _ (fun e => by have h1 := (HN3.out.lt a ha).2; have h2 := HPB.out; omega)).is
      have HE5 : Hid (IsEds w5 t1 m1 q1 (tkE d)) := hide (HE3.out.keep fun a ha => hk5 _ (fun e => by have h1 := (HE3.out.lt a ha).2; have h2 := HPB.out; omega)).is
      obtain ⟨b0, b1⟩ := hb5
      dsimp only at b0 b1
      clear hg5 hbb5 hk5 hz5 h0 h1
      go_wp2_with fail
      exact bodyPost_ret (v := .tuple #[.agg #[.slice s1 n1 c1, .slice t1 m1 q1], .int .i64 0]) (by simp [results, Tryz.results8, go_sem, b0, b1]) rfl ⟨HG5.out, .inl ⟨HE.out, HYES.out, s1, c1, t1, q1, by rw [HNN.out, HMM.out], by rw [HNN.out]; exact HN5.out, by rw [HMM.out]; exact HE5.out⟩⟩
    · have e1 : (r != 0) = true := by simpa using hr0
      have e2 : (r == 0) = false := by simpa using hr0
      have HR := hide hr0
      clear hr0
      go_wp2_with (refine wpList_putG2 rfl _ _ rfl P ⟨none, 0, 0, none, 0, 0, [], []⟩ rfl rfl HB3.out w HG3.out HPW.out ?_)
      intro w5 hg5 hb5 _ _ _
      have HG5 := hide hg5
      obtain ⟨b0, b1⟩ := hb5
      dsimp only at b0 b1
      clear hg5 h0 h1 e1 e2
      go_wp2_with fail
      exact bodyPost_ret (v := .tuple #[.agg #[.slice none 0 0, .slice none 0 0], .int .i64 r]) (by simp [results, Tryz.results8, go_sem, b0, b1]) rfl ⟨HG5.out, .inr ⟨by rw [HE.out]; exact HR.out, by rw [HE.out]⟩⟩
  · have HE : Hid (ldE d = 2) := hide (by unfold ldE; rw [if_neg (by rw [hno]; decide)])
    have HG1 := hide (Grow.trans' (Grow.trans' HG.out hg) (Grow.alloc' w1 (.cells #[.slice none 0 0, .slice none 0 0] 27)))
    have HB1 := hide ((HB.out.later hg).later (Grow.alloc' w1 (.cells #[.slice none 0 0, .slice none 0 0] 27)))
    clear hno hg HG HB HI
    go_upto_region 2 with fail
    generalize w1.alloc (.cells #[.slice none 0 0, .slice none 0 0] 27) = w2 at *
    generalize w1.heap.size = Q at *
    go_wp2_with (refine wpList_putG2 rfl _ _ rfl P ⟨none, 0, 0, none, 0, 0, [], []⟩ rfl rfl HB1.out w HG1.out HPW.out ?_)
    intro w5 hg5 hb5 _ _ _
    have HG5 := hide hg5
    obtain ⟨b0, b1⟩ := hb5
    dsimp only at b0 b1
    clear hg5
    go_wp2_with fail
    exact bodyPost_ret (v := .tuple #[.agg #[.slice none 0 0, .slice none 0 0], .int .i64 2]) (by simp [results, Tryz.results8, go_sem, b0, b1]) rfl ⟨HG5.out, .inr ⟨by rw [HE.out]; decide, by rw [HE.out]⟩⟩
set_option maxHeartbeats 4000000 in
theorem rload_any (s : Option Addr) (n c : Nat) (d : List UInt8) (w : World) (hn : n ≤ 100000) (hI : IsBy w s n c d) : Calls Tryz.prog 9 #[.slice s n c] w fun e w' => Loaded d w e w' := by
  have HG : Hid (Grow w (w.alloc (.cells #[.slice none 0 0, .slice none 0 0] 27))) := hide (Grow.alloc' _ _)
  have HB : Hid (BlkG (w.alloc (.cells #[.slice none 0 0, .slice none 0 0] 27)) w.heap.size) := hide (BlkG.new w _ _)
  have HI := hide (hI.later HG.out)
  have HN := hide hn
  clear hI hn
  go_enter Tryz.func9, Tryz.ntmps9
  go_wp2_with fail
  generalize (w.alloc (.cells #[.slice none 0 0, .slice none 0 0] 27)) = w0 at *
  obtain ⟨P, hP⟩ : ∃ P, P = w.heap.size := ⟨_, rfl⟩
  rw [← hP] at HB ⊢
  have HPW : Hid (w.heap.size ≤ P) := hide (Nat.le_of_eq hP.symm)
  clear hP
  refine (rtake_any s n c d w0 HN.out HI.out).mono ?_
  rintro _ w1 ⟨hg, ⟨hyes, s1, c1, t1, q1, rfl, hN1, hE1⟩ | ⟨hno, rfl⟩⟩
  · obtain ⟨n1, hn1⟩ : ∃ n1, nn d = n1 := ⟨_, rfl⟩
    obtain ⟨m1, hm1⟩ : ∃ m1, ne d = m1 := ⟨_, rfl⟩
    rw [hn1] at hN1
    rw [hm1] at hE1
    have HPB : Hid (P < w0.heap.size) := hide HB.out.lt
    rw [hn1, hm1]
    have HNN := hide hn1
    have HMM := hide hm1
    have HYES := hide hyes
    have HG1 := hide (Grow.trans' (Grow.trans' HG.out hg) (Grow.alloc' w1 (.cells #[.slice s1 n1 c1, .slice t1 m1 q1] 27)))
    have HB1 := hide ((HB.out.later hg).later (Grow.alloc' w1 (.cells #[.slice s1 n1 c1, .slice t1 m1 q1] 27)))
    have KG := hide (BoxG.new w1 ⟨s1, n1, c1, t1, m1, q1, [], []⟩)
    have HN1 := hide (hN1.later (Grow.alloc' w1 (.cells #[.slice s1 n1 c1, .slice t1 m1 q1] 27)))
    have HE1 := hide (hE1.later (Grow.alloc' w1 (.cells #[.slice s1 n1 c1, .slice t1 m1 q1] 27)))
    clear hn1 hm1 hyes hg hN1 hE1 HG HB HI
    go_upto_region 2 with fail
    generalize w1.alloc (.cells #[.slice s1 n1 c1, .slice t1 m1 q1] 27) = w2 at *
    generalize w1.heap.size = Q at *
    obtain ⟨g0, g1⟩ := KG.out
    dsimp only at g0 g1
    obtain ⟨r, hr⟩ : ∃ r, errG (tkN d) (tkE d) = r := ⟨_, rfl⟩
    have C := hide (rgraph_any s1 n1 c1 t1 m1 q1 (tkN d) (tkE d) w2 HN1.out.is HE1.out.is hr)
    have HE : Hid (ldE d = r) := hide (by unfold ldE; rw [if_pos HYES.out]; exact hr)
    clear hr
    go_wp2_with fail
    refine C.out.mono ?_
    rintro _ w3 ⟨rfl, hg⟩
    have HG3 := hide (Grow.trans' HG1.out hg)
    have HB3 := hide (HB1.out.later hg)
    have HN3 := hide (HN1.out.later hg)
    have HE3 := hide (HE1.out.later hg)
    obtain ⟨h0, h1⟩ := KG.out.later hg
    dsimp only at h0 h1
    clear hg g0 g1 HG1 HB1 HN1 HE1 KG C
    by_cases hr0 : r = 0
    · subst hr0
      go_wp2_with (refine wpList_putG2 rfl _ _ rfl P ⟨s1, n1, c1, t1, m1, q1, [], []⟩ rfl rfl HB3.out w HG3.out HPW.out ?_)
      intro w5 hg5 hb5 hbb5 hk5 hz5
      have HG5 := hide hg5
      have HN5 : Hid (IsNds w5 s1 n1 c1 (tkN d)) := hide (HN3.out.keep fun a ha => hk5 _ (fun e => by have h1 := (HN3.out.lt a ha).2; have h2 := HPB.out; omega)).is
      have HE5 : Hid (IsEds w5 t1 m1 q1 (tkE d)) := hide (HE3.out.keep fun a ha => hk5 _ (fun e => by have h1 := (HE3.out.lt a ha).2; have h2 := HPB.out; omega)).is
      obtain ⟨b0, b1⟩ := hb5
      dsimp only at b0 b1
      clear hg5 hbb5 hk5 hz5 h0 h1
      go_wp2_with fail
      exact bodyPost_ret (v := .tuple #[.agg #[.slice s1 n1 c1, .slice t1 m1 q1], .int .i64 0]) (by simp [results, Tryz.results9, go_sem, b0, b1]) rfl ⟨HG5.out, .inl ⟨HE.out, HYES.out, s1, c1, t1, q1, by rw [HNN.out, HMM.out], by rw [HNN.out]; exact HN5.out, by rw [HMM.out]; exact HE5.out⟩⟩
    · have e1 : (r != 0) = true := by simpa using hr0
      have e2 : (r == 0) = false := by simpa using hr0
      have HR := hide hr0
      clear hr0
      go_wp2_with (refine wpList_putG2 rfl _ _ rfl P ⟨none, 0, 0, none, 0, 0, [], []⟩ rfl rfl HB3.out w HG3.out HPW.out ?_)
      intro w5 hg5 hb5 _ _ _
      have HG5 := hide hg5
      obtain ⟨b0, b1⟩ := hb5
      dsimp only at b0 b1
      clear hg5 h0 h1 e1 e2
      go_wp2_with fail
      exact bodyPost_ret (v := .tuple #[.agg #[.slice none 0 0, .slice none 0 0], .int .i64 r]) (by simp [results, Tryz.results9, go_sem, b0, b1]) rfl ⟨HG5.out, .inr ⟨by rw [HE.out]; exact HR.out, by rw [HE.out]⟩⟩
  · have HE : Hid (ldE d = 2) := hide (by unfold ldE; rw [if_neg (by rw [hno]; decide)])
    have HG1 := hide (Grow.trans' (Grow.trans' HG.out hg) (Grow.alloc' w1 (.cells #[.slice none 0 0, .slice none 0 0] 27)))
    have HB1 := hide ((HB.out.later hg).later (Grow.alloc' w1 (.cells #[.slice none 0 0, .slice none 0 0] 27)))
    clear hno hg HG HB HI
    go_upto_region 2 with fail
    generalize w1.alloc (.cells #[.slice none 0 0, .slice none 0 0] 27) = w2 at *
    generalize w1.heap.size = Q at *
    go_wp2_with (refine wpList_putG2 rfl _ _ rfl P ⟨none, 0, 0, none, 0, 0, [], []⟩ rfl rfl HB1.out w HG1.out HPW.out ?_)
    intro w5 hg5 hb5 _ _ _
    have HG5 := hide hg5
    obtain ⟨b0, b1⟩ := hb5
    dsimp only at b0 b1
    clear hg5
    go_wp2_with fail
    exact bodyPost_ret (v := .tuple #[.agg #[.slice none 0 0, .slice none 0 0], .int .i64 2]) (by simp [results, Tryz.results9, go_sem, b0, b1]) rfl ⟨HG5.out, .inr ⟨by rw [HE.out]; decide, by rw [HE.out]⟩⟩
end Go.Proofs.YtjebipagehhkjaaGreat
namespace Go.Proofs.YtjebipagehhkjaaGreat
set_option maxRecDepth 100000
open Go.ChangeShapes Go.WideShapes Go.ChangeAt Go.RowKit Go.Deep Go.Sort
set_option linter.unusedVariables false
set_option linter.unusedSimpArgs false

def tN (d : List UInt8) : List Nd := if isB10 d = true then tkN d else []
def tE (d : List UInt8) : List Ed := if isB10 d = true then tkE d else []
def tC (d : List UInt8) : Int := if isB10 d = true then 0 else 2
theorem tN_le (d : List UInt8) : (tN d).length ≤ 255 := by
  unfold tN
  split
  · unfold tkN; rw [ndsAt_length]; have := (atB d 2).toNat_lt; unfold nn; omega
  · simp
theorem tE_le (d : List UInt8) : (tE d).length ≤ 255 := by
  unfold tE
  split
  · unfold tkE; rw [edsAt_length]; have := (atB d (3 + 6 * nn d)).toNat_lt; unfold ne; omega
  · simp
def lN (d : List UInt8) : List Nd := if ldE d = 0 then tkN d else []
def lE (d : List UInt8) : List Ed := if ldE d = 0 then tkE d else []
def lC (d : List UInt8) : Int := ldE d
theorem lN_le (d : List UInt8) : (lN d).length ≤ 255 := by
  unfold lN
  split
  · unfold tkN; rw [ndsAt_length]; have := (atB d 2).toNat_lt; unfold nn; omega
  · simp
theorem lE_le (d : List UInt8) : (lE d).length ≤ 255 := by
  unfold lE
  split
  · unfold tkE; rw [edsAt_length]; have := (atB d (3 + 6 * nn d)).toNat_lt; unfold ne; omega
  · simp
theorem Taken.any {d : List UInt8} {w w' : World} {e : Ending} (h : Taken d w e w') : Grow w w' ∧ ∃ s c t q, e = .returned (.tuple #[.agg #[.slice s (tN d).length c, .slice t (tE d).length q], .int .i64 (tC d)]) ∧ IsNds w' s (tN d).length c (tN d) ∧ IsEds w' t (tE d).length q (tE d) := by
  obtain ⟨hg, ⟨hy, s, c, t, q, rfl, h1, h2⟩ | ⟨hy, rfl⟩⟩ := h
  · have e1 : tN d = tkN d := by unfold tN; rw [if_pos hy]
    have e2 : tE d = tkE d := by unfold tE; rw [if_pos hy]
    have e3 : tC d = 0 := by unfold tC; rw [if_pos hy]
    rw [e1, e2, e3]
    have l1 : (tkN d).length = nn d := by unfold tkN; exact ndsAt_length _ _ _
    have l2 : (tkE d).length = ne d := by unfold tkE; exact edsAt_length _ _ _
    rw [l1, l2]
    exact ⟨hg, s, c, t, q, rfl, h1.is, h2.is⟩
  · have hy' : ¬ isB10 d = true := by rw [hy]; decide
    have e1 : tN d = [] := by unfold tN; rw [if_neg hy']
    have e2 : tE d = [] := by unfold tE; rw [if_neg hy']
    have e3 : tC d = 2 := by unfold tC; rw [if_neg hy']
    rw [e1, e2, e3]
    exact ⟨hg, none, 0, none, 0, rfl, IsNds_nil _, IsEds_nil _⟩
theorem Loaded.any {d : List UInt8} {w w' : World} {e : Ending} (h : Loaded d w e w') : Grow w w' ∧ ∃ s c t q, e = .returned (.tuple #[.agg #[.slice s (lN d).length c, .slice t (lE d).length q], .int .i64 (lC d)]) ∧ IsNds w' s (lN d).length c (lN d) ∧ IsEds w' t (lE d).length q (lE d) := by
  obtain ⟨hg, ⟨h0, hy, s, c, t, q, rfl, h1, h2⟩ | ⟨h0, rfl⟩⟩ := h
  · have e1 : lN d = tkN d := by unfold lN; rw [if_pos h0]
    have e2 : lE d = tkE d := by unfold lE; rw [if_pos h0]
    have e3 : lC d = 0 := h0
    rw [e1, e2, e3]
    have l1 : (tkN d).length = nn d := by unfold tkN; exact ndsAt_length _ _ _
    have l2 : (tkE d).length = ne d := by unfold tkE; exact edsAt_length _ _ _
    rw [l1, l2]
    exact ⟨hg, s, c, t, q, rfl, h1, h2⟩
  · have e1 : lN d = [] := by unfold lN; rw [if_neg h0]
    have e2 : lE d = [] := by unfold lE; rw [if_neg h0]
    rw [e1, e2]
    exact ⟨hg, none, 0, none, 0, rfl, IsNds_nil _, IsEds_nil _⟩
theorem ret_graph {n n' m m' : Nat} {s t : Option Addr} {c q : Nat} {C C' : Int} (h1 : n = n') (h2 : m = m') (h3 : C = C') : Ending.returned (.tuple #[.agg #[.slice s n c, .slice t m q], .int .i64 C]) = .returned (.tuple #[.agg #[.slice s n' c, .slice t m' q], .int .i64 C']) := by subst h1; subst h2; subst h3; rfl
end Go.Proofs.YtjebipagehhkjaaGreat
