/-
  What gcode's writer makes of a whole graph, and what Put answers: the bytes of the graph, in a row of the call's own, or the error; what was there stays as it was.
-/
import Derived.Test.YtjebipagehhkjaaGreatKWr
namespace Go.Proofs.YtjebipagehhkjaaGreat
set_option maxRecDepth 100000
open Go.ChangeShapes Go.WideShapes Go.ChangeAt Go.RowKit Go.Deep Go.Sort
set_option linter.unusedVariables false
set_option linter.unusedSimpArgs false

theorem take_all_succ {α : Type} (l : List α) (p : α → Bool) (k : Nat) (hk : k < l.length) : (l.take (k + 1)).all p = ((l.take k).all p && p l[k]) := by
  rw [List.take_succ_eq_append_getElem hk, List.all_append]; simp
theorem take_flat_succ {α β : Type} (l : List α) (f : α → List β) (k : Nat) (hk : k < l.length) : (l.take (k + 1)).flatMap f = (l.take k).flatMap f ++ f l[k] := by
  rw [List.take_succ_eq_append_getElem hk, List.flatMap_append]; simp
theorem push_le {x : Option (List UInt8)} {p : Bool} {e : List UInt8} {k m : Nat} (h : ∀ d, x = some d → d.length ≤ k) (he : e.length ≤ m) : ∀ d, push x p e = some d → d.length ≤ k + m :=
  push_len (fun d hd => by have := h d hd; omega)
theorem fit_parts {N : List Nd} {E : List Ed} : (smlB N.length && N.all ndB && (smlB E.length && E.all edB)) = fitG N E := by
  have e : ∀ n : Nat, smlB (n : Int) = decide (n ≤ 255) := fun n => by
    unfold smlB
    rw [decide_eq_true (by omega : (0 : Int) ≤ (n : Int)), Bool.true_and]
    exact decide_eq_decide.2 (by omega)
  unfold fitG
  rw [e, e]
  cases N.all ndB <;> cases E.all edB <;> cases decide (N.length ≤ 255) <;> cases decide (E.length ≤ 255) <;> rfl

set_option maxHeartbeats 8000000 in
theorem wgraph_any (W w : World) (b : Nat) (x : Option (List UInt8)) (gs : Option Addr) (gn gc : Nat) (gt : Option Addr) (gm gq : Nat) (N : List Nd) (E : List Ed) (hn : gn ≤ 260) (hm : gm ≤ 260) (hW : Wr W w b x) (hN : IsNds W gs gn gc N) (hE : IsEds W gt gm gq E) (hlen : ∀ d, x = some d → d.length ≤ 100) {y : Option (List UInt8)} (hy : push x (fitG N E) (byt gn :: N.flatMap byN ++ byt gm :: E.flatMap byE) = y) :
    Calls Tryz.prog 17 #[.pointer (some ⟨b, 0, none⟩), .agg #[.slice gs gn gc, .slice gt gm gq]] w fun r w' => r = .returned (.tuple #[]) ∧ Wr W w' b y ∧ Turn XW w w' := by
  obtain ⟨y1, hy1⟩ : ∃ y, push x (smlB gn) [byt gn] = y := ⟨_, rfl⟩
  obtain ⟨y2, hy2⟩ : ∃ y, push y1 (N.all ndB) (N.flatMap byN) = y := ⟨_, rfl⟩
  obtain ⟨y3, hy3⟩ : ∃ y, push y2 (smlB gm) [byt gm] = y := ⟨_, rfl⟩
  have hyy : push y3 (E.all edB) (E.flatMap byE) = y := by
    rw [← hy, ← hy3, ← hy2, ← hy1, push_push, push_push, push_push, ← fit_parts, hN.1, hE.1]
    congr 1
    simp only [Bool.and_assoc]
  have lN : (N.flatMap byN).length ≤ 1560 := by rw [len_byN, hN.1]; omega
  have lE : (E.flatMap byE).length ≤ 780 := by rw [len_byE, hE.1]; omega
  have L1 : Hid (∀ d, y1 = some d → d.length ≤ 101) := hide (by rw [← hy1]; exact push_le (m := 1) hlen (Nat.le_refl _))
  have L2 : Hid (∀ d, y2 = some d → d.length ≤ 1661) := hide (by rw [← hy2]; exact push_le L1.out lN)
  have L3 : Hid (∀ d, y3 = some d → d.length ≤ 1662) := hide (by rw [← hy3]; exact push_le (m := 1) L2.out (Nat.le_refl _))
  have HL := hide hlen
  have HY1 := hide hy1
  have HY2 := hide hy2
  have HY3 := hide hy3
  have HYY := hide hyy
  have HN := hide hN
  have HE := hide hE
  have HNl : Hid (N.length = gn) := hide hN.1
  have HEl : Hid (E.length = gm) := hide hE.1
  have HNm := hide hn
  have HEm := hide hm
  have HW := hide (hW.later (Grow.alloc' w (.cells #[.slice gs gn gc, .slice gt gm gq] 27)))
  have HT : Hid (Turn XW w (w.alloc (.cells #[.slice gs gn gc, .slice gt gm gq] 27))) := hide (Turn.of_grow (Grow.alloc' _ _))
  have KG0 : Hid (BoxG (w.alloc (.cells #[.slice gs gn gc, .slice gt gm gq] 27)) w.heap.size ⟨gs, gn, gc, gt, gm, gq, [], []⟩) := hide (BoxG.new w ⟨gs, gn, gc, gt, gm, gq, [], []⟩)
  have BG0 : Hid (BlkG (w.alloc (.cells #[.slice gs gn gc, .slice gt gm gq] 27)) w.heap.size) := hide (BlkG.new _ _ _)
  clear hW hy hlen hy1 hy2 hy3 hyy lN lE hN hE hn hm
  go_enter Tryz.func17, Tryz.ntmps17
  go_wp2_with fail
  generalize (w.alloc (.cells #[.slice gs gn gc, .slice gt gm gq] 27)) = w0 at *
  obtain ⟨P, hP⟩ : ∃ P, P = w.heap.size := ⟨_, rfl⟩
  rw [← hP] at KG0 BG0 ⊢
  clear hP
  refine wp_region_end (fun i vF wF => match i with | 0 => vF = .pointer (some ⟨b, 0, none⟩) | 1 => vF = .pointer (some ⟨b, 0, none⟩) | 2 => vF = .pointer (some ⟨b, 0, none⟩) | 3 => vF = .pointer (some ⟨P, 0, none⟩) | 4 => vF = .slice gs gn gc | 5 => vF = .int .i64 (gn : Int) | _ => True) 6 _ rfl rfl rfl (by kernel_rfl) (by kernel_rfl) ?_ ?_ ?_
  · intro k v w1 w2 hg h
    match k with
    | 0 => exact h
    | 1 => exact h
    | 2 => exact h
    | 3 => exact h
    | 4 => exact h
    | 5 => exact h
    | k + 6 => exact trivial
  · refine ⟨?_, ?_, ?_, ?_, ?_, ?_, trivial⟩
    · refine stepOne_run trivial ?_
      intro a' w' hg hs hd
      have e0 : a'.eval (.tmp 0) = .pointer (some ⟨b, 0, none⟩) := hs.rest 0 rfl
      have ec : ∀ v, a'.eval (.const v) = v := fun _ => rfl
      have ef : ∀ g, a'.eval (.func g) = .func (.func g) #[] #[] := fun _ => rfl
      clear hd hs
      refine wpv (v := .pointer (some ⟨b, 0, none⟩)) ?_ ⟨_, rfl, Grow.rfl' _, rfl⟩
      (generalize a'.eval = ev at ec ef e0 ⊢; simp [execOp, go_sem, *])
    · refine stepOne_run trivial ?_
      intro a' w' hg hs hd
      have e8 : a'.eval (.tmp 8) = .pointer (some ⟨b, 0, none⟩) := hd ⟨0, Ground.data⟩ (by simp) rfl
      have ec : ∀ v, a'.eval (.const v) = v := fun _ => rfl
      have ef : ∀ g, a'.eval (.func g) = .func (.func g) #[] #[] := fun _ => rfl
      clear hd hs
      refine wpv (v := .pointer (some ⟨b, 0, none⟩)) ?_ ⟨_, rfl, Grow.rfl' _, rfl⟩
      (generalize a'.eval = ev at ec ef e8 ⊢; simp [execOp, go_sem, *])
    · refine stepOne_run trivial ?_
      intro a' w' hg hs hd
      have e9 : a'.eval (.tmp 9) = .pointer (some ⟨b, 0, none⟩) := hd ⟨1, Ground.data⟩ (by simp) rfl
      have ec : ∀ v, a'.eval (.const v) = v := fun _ => rfl
      have ef : ∀ g, a'.eval (.func g) = .func (.func g) #[] #[] := fun _ => rfl
      clear hd hs
      refine wpv (v := .pointer (some ⟨b, 0, none⟩)) ?_ ⟨_, rfl, Grow.rfl' _, rfl⟩
      (generalize a'.eval = ev at ec ef e9 ⊢; simp [execOp, go_sem, *])
    · refine stepOne_run trivial ?_
      intro a' w' hg hs hd
      have e3 : a'.eval (.tmp 3) = .pointer (some ⟨P, 0, none⟩) := hs.rest 3 rfl
      have ec : ∀ v, a'.eval (.const v) = v := fun _ => rfl
      have ef : ∀ g, a'.eval (.func g) = .func (.func g) #[] #[] := fun _ => rfl
      clear hd hs
      refine wpv (v := .pointer (some ⟨P, 0, none⟩)) ?_ ⟨_, rfl, Grow.rfl' _, rfl⟩
      (generalize a'.eval = ev at ec ef e3 ⊢; simp [execOp, go_sem, *])
    · refine stepOne_run trivial ?_
      intro a' w' hg hs hd
      have e11 : a'.eval (.tmp 11) = .pointer (some ⟨P, 0, none⟩) := hd ⟨3, Ground.data⟩ (by simp) rfl
      have ec : ∀ v, a'.eval (.const v) = v := fun _ => rfl
      have ef : ∀ g, a'.eval (.func g) = .func (.func g) #[] #[] := fun _ => rfl
      obtain ⟨x0, x1⟩ := KG0.out.later hg
      clear hd hs
      refine wpv (v := .slice gs gn gc) ?_ ⟨_, rfl, Grow.rfl' _, rfl⟩
      (generalize a'.eval = ev at ec ef e11 ⊢; simp [execOp, go_sem, *])
    · refine stepOne_run trivial ?_
      intro a' w' hg hs hd
      have e12 : a'.eval (.tmp 12) = .slice gs gn gc := hd ⟨4, Ground.data⟩ (by simp) rfl
      have ec : ∀ v, a'.eval (.const v) = v := fun _ => rfl
      have ef : ∀ g, a'.eval (.func g) = .func (.func g) #[] #[] := fun _ => rfl
      clear hd hs
      refine wpv (v := .int .i64 (gn : Int)) ?_ ⟨_, rfl, Grow.rfl' _, rfl⟩
      (generalize a'.eval = ev at ec ef e12 ⊢; simp [go_sem, *])
  · intro a' w' hg hs hd
    have e10 : a'.eval (.tmp 10) = .pointer (some ⟨b, 0, none⟩) := hd 2 (by omega)
    have e13 : a'.eval (.tmp 13) = .int .i64 (gn : Int) := hd 5 (by omega)
    have ec : ∀ v, a'.eval (.const v) = v := fun _ => rfl
    have ef : ∀ g, a'.eval (.func g) = .func (.func g) #[] #[] := fun _ => rfl
    refine wpc ?_ ((lsmall_any W w' b x gn (HW.out.later hg) (fun d hd => by have := HL.out d hd; omega) HY1.out).mono ?_)
    · (generalize a'.eval = ev at ec ef e10 e13 ⊢; simp [execOp, go_sem, *])
    rintro e v1 ⟨rfl, hW2, hT2⟩
    refine ⟨_, rfl, ?_⟩
    have hT3 := (Turn.of_grow (X := XW) hg).trans hT2
    have KG1 := hide (BoxG.turn hT3 (by decide) BG0.out KG0.out)
    have BG1 := hide (BlkG.turn hT3 (by decide) BG0.out)
    have HW1 := hide hW2
    have HT1 := hide (HT.out.trans hT3)
    obtain ⟨g0, g1⟩ := KG1.out
    dsimp only at g0 g1
    clear hW2 hT2 hT3 hg e10 e13 ec ef HW HT KG0 BG0 HL HY1
    rw [frame_eq hs [false, false, false, false, false, false, false, false, true, true, true, true, true, true, true, false, false, false, false, false, false, false, false, false, false, false, false, false, false, false, false, false, false, false, false, false, false, false, false, false, false, false, false, false] (by kernel_rfl)]; simp only [mergeL]; clear hs hd; generalize a'.tmps = TT at *; try go_frame
    go_wp2_with fail
    clear g0 g1
    simp only [Array.getD_eq_getD_getElem?, Nat.zero_add, Nat.reduceAdd]
    go_loopw [18] (fun i wr => ∃ k : Nat, k ≤ gn ∧ i = .int .i64 (k : Int) ∧ Wr W wr b (push y1 ((N.take k).all ndB) ((N.take k).flatMap byN)) ∧ Turn XW v1 wr) (fun i _ => gn - (intOf i).toNat)
    case atStart => exact ⟨0, Nat.zero_le _, rfl, by rw [List.take_zero]; exact (push_nil y1).symm ▸ HW1.out, Turn.refl _ _⟩
    case round =>
      obtain ⟨k, hk, rfl, hWk, hTk⟩ := hrel
      generalize wr = wi at *
      have HWk := hide hWk
      have HTk := hide hTk
      have hgn := HNm.out
      by_cases hlt : k < gn
      · have hkd : k < N.length := by rw [HNl.out]; exact hlt
        have hne : ¬ N = [] := fun h => by rw [h] at hkd; simp at hkd
        obtain ⟨bN, oN, rfl, hr1⟩ := HN.out.2.2.resolve_left hne
        obtain ⟨p0, p1, p2, p3⟩ := (hr1.later hWk.g).at k hkd
        obtain ⟨z, hz⟩ : ∃ z, push y1 ((N.take k).all ndB) ((N.take k).flatMap byN) = z := ⟨_, rfl⟩
        obtain ⟨z', hz'⟩ : ∃ z', push z (ndB N[k]) (byN N[k]) = z' := ⟨_, rfl⟩
        have HZ' : Hid (push y1 ((N.take (k + 1)).all ndB) ((N.take (k + 1)).flatMap byN) = z') := hide (by rw [take_all_succ N ndB k hkd, take_flat_succ N byN k hkd, ← push_push, hz, hz'])
        have LZ : Hid (∀ d, z = some d → d.length ≤ 1661) := hide (by
          rw [← hz]
          exact push_le (m := 1560) L1.out (by rw [len_byN, List.length_take, HNl.out]; have := HNm.out; omega))
        rw [hz] at HWk
        obtain ⟨t, ht⟩ : ∃ t, t = N[k] := ⟨_, rfl⟩
        rw [← ht] at p0 p1 p2 p3 hz'
        have HZ := hide hz'
        have hi1 : (0 : Int) ≤ (k : Int) := by omega
        have hi2 : (k : Int) < (gn : Int) := by omega
        clear hne hr1 hkd hWk hTk hz hz' ht
        go_wp2_with (refine wpList_putN2 rfl _ _ rfl wi.heap.size t rfl rfl (BlkN.new wi) wi (Grow.alloc' _ _) (Nat.le_refl _) ?_)
        intro w4 hg4 hb4 hbb4
        have HW4 := hide (HWk.out.later hg4)
        have HT4 := hide (HTk.out.trans (Turn.of_grow hg4))
        obtain ⟨q0, q1, q2, q3⟩ := hb4
        obtain ⟨R, hR⟩ : ∃ R, R = wi.heap.size := ⟨_, rfl⟩
        rw [← hR] at q0 q1 q2 q3 ⊢
        clear p0 p1 p2 p3 hg4 hbb4 HWk HTk hR
        go_wp2_with fail
        refine (wnode_any W w4 b z t HW4.out (fun d hd => by have := LZ.out d hd; omega) HZ.out).mono ?_
        rintro _ w5 ⟨rfl, hW5, hT5⟩
        have HW5 := hide hW5
        have HT5 := hide (HT4.out.trans hT5)
        clear hW5 hT5 q0 q1 q2 q3 HW4 HT4
        go_wp2_with fail
        go_roundw
        case rel => exact ⟨k + 1, by omega, by go_num, by rw [HZ'.out]; exact HW5.out, HT5.out⟩
        case measure => simp [intOf]; omega
      · have hkn : k = gn := by omega
        have hi2 : ¬ (k : Int) < (gn : Int) := by omega
        have hz : push y1 ((N.take k).all ndB) ((N.take k).flatMap byN) = y2 := by rw [List.take_of_length_le (by rw [HNl.out]; omega)]; exact HY2.out
        rw [hz] at HWk
        have KG2 := hide (BoxG.turn hTk (by decide) BG1.out KG1.out)
        have BG2 := hide (BlkG.turn hTk (by decide) BG1.out)
        have HT2 := hide (HT1.out.trans hTk)
        clear hWk hTk hz HTk KG1 BG1 HT1 HW1 hkn hlt
        go_wp2_with fail
        refine wp_region_end (fun i vF wF => match i with | 0 => vF = .pointer (some ⟨b, 0, none⟩) | 1 => vF = .pointer (some ⟨b, 0, none⟩) | 2 => vF = .pointer (some ⟨b, 0, none⟩) | 3 => vF = .pointer (some ⟨P, 1, none⟩) | 4 => vF = .slice gt gm gq | 5 => vF = .int .i64 (gm : Int) | _ => True) 6 _ rfl rfl rfl (by kernel_rfl) (by kernel_rfl) ?_ ?_ ?_
        · intro k v w1 w2 hg h
          match k with
          | 0 => exact h
          | 1 => exact h
          | 2 => exact h
          | 3 => exact h
          | 4 => exact h
          | 5 => exact h
          | k + 6 => exact trivial
        · refine ⟨?_, ?_, ?_, ?_, ?_, ?_, trivial⟩
          · refine stepOne_run trivial ?_
            intro a' w' hg hs hd
            have e0 : a'.eval (.tmp 0) = .pointer (some ⟨b, 0, none⟩) := hs.rest 0 rfl
            have ec : ∀ v, a'.eval (.const v) = v := fun _ => rfl
            have ef : ∀ g, a'.eval (.func g) = .func (.func g) #[] #[] := fun _ => rfl
            clear hd hs
            refine wpv (v := .pointer (some ⟨b, 0, none⟩)) ?_ ⟨_, rfl, Grow.rfl' _, rfl⟩
            (generalize a'.eval = ev at ec ef e0 ⊢; simp [execOp, go_sem, *])
          · refine stepOne_run trivial ?_
            intro a' w' hg hs hd
            have e26 : a'.eval (.tmp 26) = .pointer (some ⟨b, 0, none⟩) := hd ⟨0, Ground.data⟩ (by simp) rfl
            have ec : ∀ v, a'.eval (.const v) = v := fun _ => rfl
            have ef : ∀ g, a'.eval (.func g) = .func (.func g) #[] #[] := fun _ => rfl
            clear hd hs
            refine wpv (v := .pointer (some ⟨b, 0, none⟩)) ?_ ⟨_, rfl, Grow.rfl' _, rfl⟩
            (generalize a'.eval = ev at ec ef e26 ⊢; simp [execOp, go_sem, *])
          · refine stepOne_run trivial ?_
            intro a' w' hg hs hd
            have e27 : a'.eval (.tmp 27) = .pointer (some ⟨b, 0, none⟩) := hd ⟨1, Ground.data⟩ (by simp) rfl
            have ec : ∀ v, a'.eval (.const v) = v := fun _ => rfl
            have ef : ∀ g, a'.eval (.func g) = .func (.func g) #[] #[] := fun _ => rfl
            clear hd hs
            refine wpv (v := .pointer (some ⟨b, 0, none⟩)) ?_ ⟨_, rfl, Grow.rfl' _, rfl⟩
            (generalize a'.eval = ev at ec ef e27 ⊢; simp [execOp, go_sem, *])
          · refine stepOne_run trivial ?_
            intro a' w' hg hs hd
            have e3 : a'.eval (.tmp 3) = .pointer (some ⟨P, 0, none⟩) := hs.rest 3 rfl
            have ec : ∀ v, a'.eval (.const v) = v := fun _ => rfl
            have ef : ∀ g, a'.eval (.func g) = .func (.func g) #[] #[] := fun _ => rfl
            clear hd hs
            refine wpv (v := .pointer (some ⟨P, 1, none⟩)) ?_ ⟨_, rfl, Grow.rfl' _, rfl⟩
            (generalize a'.eval = ev at ec ef e3 ⊢; simp [execOp, go_sem, *])
          · refine stepOne_run trivial ?_
            intro a' w' hg hs hd
            have e29 : a'.eval (.tmp 29) = .pointer (some ⟨P, 1, none⟩) := hd ⟨3, Ground.data⟩ (by simp) rfl
            have ec : ∀ v, a'.eval (.const v) = v := fun _ => rfl
            have ef : ∀ g, a'.eval (.func g) = .func (.func g) #[] #[] := fun _ => rfl
            obtain ⟨x0, x1⟩ := KG2.out.later hg
            clear hd hs
            refine wpv (v := .slice gt gm gq) ?_ ⟨_, rfl, Grow.rfl' _, rfl⟩
            (generalize a'.eval = ev at ec ef e29 ⊢; simp [execOp, go_sem, *])
          · refine stepOne_run trivial ?_
            intro a' w' hg hs hd
            have e30 : a'.eval (.tmp 30) = .slice gt gm gq := hd ⟨4, Ground.data⟩ (by simp) rfl
            have ec : ∀ v, a'.eval (.const v) = v := fun _ => rfl
            have ef : ∀ g, a'.eval (.func g) = .func (.func g) #[] #[] := fun _ => rfl
            clear hd hs
            refine wpv (v := .int .i64 (gm : Int)) ?_ ⟨_, rfl, Grow.rfl' _, rfl⟩
            (generalize a'.eval = ev at ec ef e30 ⊢; simp [go_sem, *])
        · intro a' w' hg hs hd
          have e28 : a'.eval (.tmp 28) = .pointer (some ⟨b, 0, none⟩) := hd 2 (by omega)
          have e31 : a'.eval (.tmp 31) = .int .i64 (gm : Int) := hd 5 (by omega)
          have ec : ∀ v, a'.eval (.const v) = v := fun _ => rfl
          have ef : ∀ g, a'.eval (.func g) = .func (.func g) #[] #[] := fun _ => rfl
          refine wpc ?_ ((lsmall_any W w' b y2 gm (HWk.out.later hg) (fun d hd => by have := L2.out d hd; omega) HY3.out).mono ?_)
          · (generalize a'.eval = ev at ec ef e28 e31 ⊢; simp [execOp, go_sem, *])
          rintro e v2 ⟨rfl, hW2, hT2⟩
          refine ⟨_, rfl, ?_⟩
          have hT3 := (Turn.of_grow (X := XW) hg).trans hT2
          have KG3 := hide (BoxG.turn hT3 (by decide) BG2.out KG2.out)
          have HW1 := hide hW2
          have HT1 := hide (HT2.out.trans hT3)
          obtain ⟨g0, g1⟩ := KG3.out
          dsimp only at g0 g1
          clear hW2 hT2 hT3 hg e28 e31 ec ef HWk HT2 KG2 BG2
          rw [frame_eq hs [false, false, false, false, false, false, false, false, false, false, false, false, false, false, false, false, false, false, false, false, false, false, false, false, false, false, true, true, true, true, true, true, true, false, false, false, false, false, false, false, false, false, false, false] (by kernel_rfl)]; simp only [mergeL]; clear hs hd; generalize a'.tmps = TT at *; try go_frame
          go_wp2_with fail
          clear g0 g1
          simp only [Array.getD_eq_getD_getElem?, Nat.zero_add, Nat.reduceAdd]
          go_loopw [36] (fun i wr => ∃ k : Nat, k ≤ gm ∧ i = .int .i64 (k : Int) ∧ Wr W wr b (push y3 ((E.take k).all edB) ((E.take k).flatMap byE)) ∧ Turn XW v2 wr) (fun i _ => gm - (intOf i).toNat)
          case atStart => exact ⟨0, Nat.zero_le _, rfl, by rw [List.take_zero]; exact (push_nil y3).symm ▸ HW1.out, Turn.refl _ _⟩
          case round =>
            obtain ⟨j, hj, rfl, hWk, hTk⟩ := hrel
            generalize wr = wj at *
            have HWk := hide hWk
            have HTk := hide hTk
            have hgm := HEm.out
            by_cases hlt : j < gm
            · have hkd : j < E.length := by rw [HEl.out]; exact hlt
              have hne : ¬ E = [] := fun h => by rw [h] at hkd; simp at hkd
              obtain ⟨bE, oE, rfl, hr1⟩ := HE.out.2.2.resolve_left hne
              obtain ⟨p0, p1, p2⟩ := (hr1.later hWk.g).at j hkd
              obtain ⟨z, hz⟩ : ∃ z, push y3 ((E.take j).all edB) ((E.take j).flatMap byE) = z := ⟨_, rfl⟩
              obtain ⟨z', hz'⟩ : ∃ z', push z (edB E[j]) (byE E[j]) = z' := ⟨_, rfl⟩
              have HZ' : Hid (push y3 ((E.take (j + 1)).all edB) ((E.take (j + 1)).flatMap byE) = z') := hide (by rw [take_all_succ E edB j hkd, take_flat_succ E byE j hkd, ← push_push, hz, hz'])
              have LZ : Hid (∀ d, z = some d → d.length ≤ 2442) := hide (by
                rw [← hz]
                exact push_le (m := 780) L3.out (by rw [len_byE, List.length_take, HEl.out]; have := HEm.out; omega))
              rw [hz] at HWk
              obtain ⟨t, ht⟩ : ∃ t, t = E[j] := ⟨_, rfl⟩
              rw [← ht] at p0 p1 p2 hz'
              have HZ := hide hz'
              have hi1 : (0 : Int) ≤ (j : Int) := by omega
              have hi2 : (j : Int) < (gm : Int) := by omega
              clear hne hr1 hkd hWk hTk hz hz' ht
              go_wp2_with (refine wpList_putE rfl _ _ rfl wj.heap.size t rfl rfl ⟨_, (MapKept.heap_alloc wj _).1, rfl⟩ wj (Grow.alloc' _ _) (Nat.le_refl _) ?_)
              intro w4 hg4 hb4
              have HW4 := hide (HWk.out.later hg4)
              have HT4 := hide (HTk.out.trans (Turn.of_grow hg4))
              obtain ⟨q0, q1, q2⟩ := hb4
              obtain ⟨R, hR⟩ : ∃ R, R = wj.heap.size := ⟨_, rfl⟩
              rw [← hR] at q0 q1 q2 ⊢
              clear p0 p1 p2 hg4 HWk HTk hR
              go_wp2_with fail
              refine (wedge_any W w4 b z t HW4.out (fun d hd => by have := LZ.out d hd; omega) HZ.out).mono ?_
              rintro _ w5 ⟨rfl, hW5, hT5⟩
              have HW5 := hide hW5
              have HT5 := hide (HT4.out.trans hT5)
              clear hW5 hT5 q0 q1 q2 HW4 HT4
              go_wp2_with fail
              go_roundw
              case rel => exact ⟨j + 1, by omega, by go_num, by rw [HZ'.out]; exact HW5.out, HT5.out⟩
              case measure => simp [intOf]; omega
            · have hkn : j = gm := by omega
              have hi2 : ¬ (j : Int) < (gm : Int) := by omega
              have hz : push y3 ((E.take j).all edB) ((E.take j).flatMap byE) = y := by rw [List.take_of_length_le (by rw [HEl.out]; omega)]; exact HYY.out
              rw [hz] at HWk
              have HT2 := hide (HT1.out.trans hTk)
              clear hWk hTk hz HTk HT1 HW1 hkn hlt
              go_wp2_with fail
              exact bodyPost_end (v := .tuple #[]) (by simp [results, Tryz.results17]) rfl ⟨rfl, HWk.out, HT2.out⟩
end Go.Proofs.YtjebipagehhkjaaGreat
