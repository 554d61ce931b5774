/-
  What the document's own Sort does to the world: a new row, the same times in order, and what was there stays as it was.
-/
import Derived.Test.YtbohgfcndclbjaaPut
namespace Go.Proofs.Ytbohgfcndclbjaa
open Go.RowKit Go.Sort
set_option linter.unusedVariables false

def sortT (d : List Tm) : List Tm := d.foldl insT []

theorem ins_perm (d : List Tm) (t : Tm) : (insT d t).Perm (t :: d) := by
  unfold insT
  refine List.perm_middle.trans ?_
  rw [List.takeWhile_append_dropWhile]
theorem ins_len (d : List Tm) (t : Tm) : (insT d t).length = d.length + 1 := by rw [(ins_perm d t).length_eq]; simp
theorem fold_perm : ∀ (d acc : List Tm), (d.foldl insT acc).Perm (acc ++ d)
  | [], acc => by simp
  | t :: d, acc => by
    rw [List.foldl_cons]
    refine (fold_perm d _).trans ?_
    refine ((ins_perm acc t).append_right d).trans ?_
    exact List.perm_middle.symm
theorem sort_perm (d : List Tm) : (sortT d).Perm d := by unfold sortT; simpa using fold_perm d []
theorem notBehind_iff (t x : Tm) : notBehind t x = true ↔ ¬ lexLt t x := by
  have h1 := order_lt t x
  have h2 := order_anti t x
  simp only [notBehind, decide_eq_true_eq]
  rw [← h1, h2]
  omega
theorem ins_sorted (d : List Tm) (t : Tm) (h : SortedT d) : SortedT (insT d t) := by
  unfold SortedT insT
  have hall := List.all_eq_true.1 (List.all_takeWhile (p := notBehind t) (l := d))
  have hs : (d.takeWhile (notBehind t) ++ d.dropWhile (notBehind t)).Pairwise fun a b => ¬ lexLt b a := by rw [List.takeWhile_append_dropWhile]; exact h
  rw [List.pairwise_append] at hs ⊢
  obtain ⟨h1, h2, h3⟩ := hs
  have key : ∀ y ∈ d.dropWhile (notBehind t), ¬ lexLt y t := by
    intro y hy hlt
    cases hdw : d.dropWhile (notBehind t) with
    | nil => rw [hdw] at hy; cases hy
    | cons x l =>
      have hx : ¬ notBehind t x = true := by
        have := List.head_dropWhile_not (notBehind t) (by rw [hdw]; simp : d.dropWhile (notBehind t) ≠ [])
        simp only [hdw, List.head_cons] at this
        simp [this]
      rw [notBehind_iff] at hx
      have hx' : lexLt t x := Classical.not_not.1 hx
      rw [hdw] at hy h2
      rcases List.mem_cons.1 hy with rfl | hy
      · exact lex_irrefl _ (lex_trans hx' hlt)
      · exact (List.pairwise_cons.1 h2).1 y hy (lex_trans hlt hx')
  refine ⟨h1, ?_, ?_⟩
  · rw [List.pairwise_cons]
    exact ⟨fun y hy => key y hy, h2⟩
  · intro a ha y hy
    rcases List.mem_cons.1 hy with rfl | hy
    · exact (notBehind_iff _ _).1 (hall a ha)
    · exact h3 a ha y hy
theorem fold_sorted : ∀ (d acc : List Tm), SortedT acc → SortedT (d.foldl insT acc)
  | [], _, h => h
  | t :: d, acc, h => fold_sorted d _ (ins_sorted acc t h)
theorem sort_sorted (d : List Tm) : SortedT (sortT d) := fold_sorted d [] List.Pairwise.nil
theorem fold_len (d acc : List Tm) : (d.foldl insT acc).length = acc.length + d.length := by rw [(fold_perm d acc).length_eq]; simp
theorem fold_take (d : List Tm) (k : Nat) (h : k < d.length) : (d.take (k + 1)).foldl insT [] = insT ((d.take k).foldl insT []) d[k] := by
  rw [List.take_succ_eq_append_getElem h, List.foldl_append]; rfl

set_option maxHeartbeats 1000000 in
theorem refSort_any (s : Option Addr) (cap : Nat) (d : List Tm) (w : World) (hbig : d.length ≤ 1000) (hr : d = [] ∨ ∃ b o, s = some ⟨b, o, none⟩ ∧ RowT w b o d) :
    Calls Try.prog 26 #[.slice s d.length cap] w fun e w' => ∃ g cap', e = .returned (.slice (some ⟨g, 0, none⟩) d.length cap') ∧ Grow w w' ∧ OwnS w' w.heap.size g cap' (sortT d) := by
  have HR := hide hr
  clear hr
  go_enter Try.func26, Try.ntmps26
  go_wp2
  go_loopw [3, 4] (fun x i wr => ∃ k g c : Nat, k ≤ d.length ∧ i = .int .i64 k ∧ x = .slice (some ⟨g, 0, none⟩) k c ∧ Grow w wr ∧ OwnS wr w.heap.size g c ((d.take k).foldl insT [])) (fun _ i _ => d.length - (intOf i).toNat)
  case atStart => exact ⟨0, w.heap.size, 0, Nat.zero_le _, rfl, rfl, Grow.alloc' _ _, OwnS.lit0 w _ (Nat.le_refl _)⟩
  case round =>
    obtain ⟨k, g, c, hk, rfl, rfl, hg, hO⟩ := hrel
    have hl : ((d.take k).foldl insT []).length = k := by rw [fold_len]; simp; omega
    by_cases hlt : k < d.length
    · obtain ⟨b, o, rfl, hrow⟩ : ∃ b o, s = some ⟨b, o, none⟩ ∧ RowT w b o d := by
        rcases HR.out with h | h
        · rw [h] at hlt; simp at hlt
        · exact h
      obtain ⟨p0, p1, p2, p3, p4⟩ := (hrow.later hg).at k hlt
      have hP := put_any g 0 c ((d.take k).foldl insT []) d[k] wr (by rw [hl]; have := hO.le; rw [hl] at this; omega) (by rw [hl]; omega) hO.row
      rw [hl, ← fold_take d k hlt] at hP
      have HP := hide hP
      have HO := hide hO
      have HGr := hide hg
      clear hP hO hrow hl
      have hi1 : (0 : Int) ≤ (k : Int) := by omega
      have hi2 : (k : Int) < (d.length : Int) := by omega
      go_wp2_with fail
      refine (HP.out).mono ?_
      rintro e w2 ⟨g2, c2, rfl, hg2, hO2⟩
      have FIN := hide (show Grow w w2 ∧ OwnS w2 w.heap.size g2 c2 ((d.take (k + 1)).foldl insT []) from ⟨Grow.trans' HGr.out hg2, hO2.rebase (Nat.le_trans HGr.out.size hO2.le.1)⟩)
      clear hg2 hO2 HP HO p0 p1 p2 p3 p4
      go_wp2
      go_roundw
      case rel => exact ⟨k + 1, g2, c2, by omega, by go_num, rfl, FIN.out.1, FIN.out.2⟩
      case measure => simp [intOf]; omega
    · have hkn : k = d.length := by omega
      have FIN := hide (show Grow w wr ∧ OwnS wr w.heap.size g c (sortT d) from ⟨hg, by unfold sortT; rw [hkn, List.take_length] at hO; exact hO⟩)
      have HN := hide hkn
      clear hg hO hkn hl
      go_wp2
      go_ret
      exact ⟨g, c, ret_slice HN.out, FIN.out⟩

end Go.Proofs.Ytbohgfcndclbjaa
