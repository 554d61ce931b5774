/-
  What the document's own Put does to the world: the bytes of the graph, or the error; what was there stays as it was.
-/
import Derived.Test.YtjebipagehhkjaaKSt
import Derived.Test.YtjebipagehhkjaaKRw
namespace Go.Proofs.Ytjebipagehhkjaa
set_option maxRecDepth 100000
open Go.ChangeShapes Go.WideShapes Go.ChangeAt Go.RowKit Go.Deep Go.Sort
set_option linter.unusedVariables false
set_option linter.unusedSimpArgs false

theorem rsml_at (x : Int) {p : Bool} (hp : smlB x = p) (w : World) :
    Calls Try.prog 13 #[.int .i64 x] w fun e w' => e = .returned (.bool p) ∧ w' = w := by
  subst hp
  by_cases h1 : 0 ≤ x <;> by_cases h2 : x ≤ 255
  all_goals
    go_enter Try.func13, Try.ntmps13
    go_wp2
  all_goals go_ret
  all_goals exact ⟨ret_bool (by unfold smlB; simp [*]), rfl⟩
theorem rtwo_at (x : Int) {p : Bool} (hp : twoB x = p) (w : World) :
    Calls Try.prog 14 #[.int .i64 x] w fun e w' => e = .returned (.bool p) ∧ w' = w := by
  subst hp
  by_cases h1 : -32768 ≤ x <;> by_cases h2 : x ≤ 32767
  all_goals
    go_enter Try.func14, Try.ntmps14
    go_wp2
  all_goals go_ret
  all_goals exact ⟨ret_bool (by unfold twoB; simp [*]), rfl⟩
theorem all_not {α : Type} {p : α → Bool} {l : List α} {k : Nat} (hk : k < l.length) (h : p l[k] = false) : l.all p = false := by
  rw [← Bool.not_eq_true, List.all_eq_true]
  intro hh
  have := hh l[k] (List.getElem_mem hk)
  rw [h] at this; cases this
theorem fit_noN {N : List Nd} {E : List Ed} (h : N.all ndB = false) : fitG N E = false := by unfold fitG; rw [h]; simp
theorem fit_noE {N : List Nd} {E : List Ed} (h : E.all edB = false) : fitG N E = false := by unfold fitG; rw [h]; simp
theorem all_up {α : Type} {p : α → Bool} {l : List α} {k : Nat} (hk : k < l.length) (h : (l.take k).all p = true) (h2 : p l[k] = true) : (l.take (k + 1)).all p = true := by
  rw [List.take_succ_eq_append_getElem hk, List.all_append, h]; simp [h2]
theorem flat_up {α β : Type} (l : List α) (f : α → List β) (k : Nat) (hk : k < l.length) : (l.take (k + 1)).flatMap f = (l.take k).flatMap f ++ f l[k] := by
  rw [List.take_succ_eq_append_getElem hk, List.flatMap_append]; simp
def NilErr (N : List Nd) (E : List Ed) (w : World) (e : Ending) (w' : World) : Prop :=
  Grow w w' ∧ ((fitG N E = true ∧ ∃ s n c, e = .returned (.tuple #[.slice s n c, .int .i64 0]) ∧ IsBy w' s n c (putG N E)) ∨ (fitG N E = false ∧ e = .returned (.tuple #[.slice none 0 0, .int .i64 1])))

set_option maxHeartbeats 1000000 in
theorem rput_big1 (gs : Option Addr) (gn gc : Nat) (gt : Option Addr) (gm gq : Nat) (N : List Nd) (E : List Ed) (w : World) (h1 : 255 < gn) (hN : N.length = gn) (hE : E.length = gm) : Calls Try.prog 9 #[.agg #[.slice gs gn gc, .slice gt gm gq]] w fun e w' => NilErr N E w e w' := by
  have i1 : (255 : Int) < (gn : Int) := by omega
  have hf : fitG N E = false := by unfold fitG; simp; omega
  have HF := hide hf
  have G0 := hide (Grow.alloc' w (.cells #[.slice gs gn gc, .slice gt gm gq] 25))
  clear hf hN hE
  go_enter Try.func9, Try.ntmps9
  go_wp2_with fail
  exact bodyPost_ret (v := .tuple #[.slice none 0 0, .int .i64 1]) (by simp [results, Try.results9, go_sem]) rfl ⟨G0.out, .inr ⟨HF.out, rfl⟩⟩
set_option maxHeartbeats 1000000 in
theorem rput_big2 (gs : Option Addr) (gn gc : Nat) (gt : Option Addr) (gm gq : Nat) (N : List Nd) (E : List Ed) (w : World) (h1 : ¬ 255 < gn) (h2 : 255 < gm) (hN : N.length = gn) (hE : E.length = gm) : Calls Try.prog 9 #[.agg #[.slice gs gn gc, .slice gt gm gq]] w fun e w' => NilErr N E w e w' := by
  have i1 : ¬ (255 : Int) < (gn : Int) := by omega
  have i2 : (255 : Int) < (gm : Int) := by omega
  have hf : fitG N E = false := by unfold fitG; simp; omega
  have HF := hide hf
  have G0 := hide (Grow.alloc' w (.cells #[.slice gs gn gc, .slice gt gm gq] 25))
  clear hf hN hE
  go_enter Try.func9, Try.ntmps9
  go_wp2_with fail
  exact bodyPost_ret (v := .tuple #[.slice none 0 0, .int .i64 1]) (by simp [results, Try.results9, go_sem]) rfl ⟨G0.out, .inr ⟨HF.out, rfl⟩⟩
set_option maxHeartbeats 16000000 in
theorem rput_few (gs : Option Addr) (gn gc : Nat) (gt : Option Addr) (gm gq : Nat) (N : List Nd) (E : List Ed) (w : World) (h1 : gn ≤ 255) (h2 : gm ≤ 255) (hN : IsNds w gs gn gc N) (hE : IsEds w gt gm gq E) : Calls Try.prog 9 #[.agg #[.slice gs gn gc, .slice gt gm gq]] w fun e w' => NilErr N E w e w' := by
  have i1 : ¬ (255 : Int) < (gn : Int) := by omega
  have i2 : ¬ (255 : Int) < (gm : Int) := by omega
  have G0 := hide (Grow.alloc' w (.cells #[.slice gs gn gc, .slice gt gm gq] 25))
  have KG : Hid (BoxG (w.alloc (.cells #[.slice gs gn gc, .slice gt gm gq] 25)) w.heap.size ⟨gs, gn, gc, gt, gm, gq, [], []⟩) := hide (BoxG.new w ⟨gs, gn, gc, gt, gm, gq, [], []⟩)
  have HN := hide hN
  have HE := hide hE
  have HNl : Hid (N.length = gn) := hide hN.1
  have HEl : Hid (E.length = gm) := hide hE.1
  have hu := wrap_u8 gn
  have hv := wrap_u8 gm
  have HNm := hide h1
  have HEm := hide h2
  obtain ⟨D0, hD0⟩ : ∃ D, D = [77, 71, byt gn] := ⟨_, rfl⟩
  have HD0 := hide hD0
  clear hN hE h1 h2 hD0
  go_enter Try.func9, Try.ntmps9
  go_wp2_with fail
  have O1 : Hid (OwnU 5 ((w.alloc (.cells #[.slice gs gn gc, .slice gt gm gq] 25)).alloc (.cells #[.int .u8 77, .int .u8 71, .int .u8 ((byt gn).toNat : Int)] 5)) (w.alloc (.cells #[.slice gs gn gc, .slice gt gm gq] 25)).heap.size (some ⟨(w.alloc (.cells #[.slice gs gn gc, .slice gt gm gq] 25)).heap.size, 0, none⟩) 3 3 D0) := hide (OwnU.lit _ _ _ (Nat.le_refl _) D0 _ (by rw [HD0.out]; simp [flatU]) 3 (by rw [HD0.out]; rfl) (by omega))
  have G1 : Hid (Grow (w.alloc (.cells #[.slice gs gn gc, .slice gt gm gq] 25)) ((w.alloc (.cells #[.slice gs gn gc, .slice gt gm gq] 25)).alloc (.cells #[.int .u8 77, .int .u8 71, .int .u8 ((byt gn).toNat : Int)] 5))) := hide (Grow.alloc' _ _)
  have hz : (w.alloc (.cells #[.slice gs gn gc, .slice gt gm gq] 25)).heap.size = w.heap.size + 1 := by simp
  have O1' : Hid (OwnU 5 ((w.alloc (.cells #[.slice gs gn gc, .slice gt gm gq] 25)).alloc (.cells #[.int .u8 77, .int .u8 71, .int .u8 ((byt gn).toNat : Int)] 5)) (w.alloc (.cells #[.slice gs gn gc, .slice gt gm gq] 25)).heap.size (some ⟨w.heap.size + 1, 0, none⟩) 3 3 D0) := hide (by rw [← hz]; exact O1.out)
  clear O1 hu i1 i2 hz
  generalize (w.alloc (.cells #[.slice gs gn gc, .slice gt gm gq] 25)).alloc (.cells #[.int .u8 77, .int .u8 71, .int .u8 ((byt gn).toNat : Int)] 5) = w1 at *
  generalize (w.alloc (.cells #[.slice gs gn gc, .slice gt gm gq] 25)) = w0 at *
  obtain ⟨P, hP⟩ : ∃ P, P = w.heap.size := ⟨_, rfl⟩
  rw [← hP] at KG O1' ⊢
  clear hP
  go_loopw [4, 5] (fun o i wr => ∃ (k : Nat) (s : Option Addr) (m c : Nat), k ≤ gn ∧ i = .int .i64 (k : Int) ∧ o = .slice s m c ∧ Grow w0 wr ∧ OwnU 5 wr w0.heap.size s m c (D0 ++ (N.take k).flatMap byN) ∧ (N.take k).all ndB = true) (fun _ i _ => gn - (intOf i).toNat)
  case atStart => exact ⟨0, _, 3, 3, Nat.zero_le _, rfl, rfl, G1.out, by simpa using O1'.out, by simp⟩
  case round =>
    obtain ⟨k, s, m, c, hk, rfl, rfl, hg, hO, hall⟩ := hrel
    generalize wr = wi at *
    have HG := hide hg
    have HO := hide hO
    have HA := hide hall
    have hgn := HNm.out
    obtain ⟨g0, g1⟩ := KG.out.later hg
    dsimp only at g0 g1
    have hml : m = 3 + 6 * k := by
      have := hO.1
      rw [List.length_append, len_byN, List.length_take, HNl.out, HD0.out] at this
      simp at this
      omega
    have HM := hide hml
    clear hO hall hml
    by_cases hlt : k < gn
    · have hkd : k < N.length := by rw [HNl.out]; exact hlt
      have hne : ¬ N = [] := fun h => by rw [h] at hkd; simp at hkd
      obtain ⟨bN, oN, rfl, hr1⟩ := HN.out.2.2.resolve_left hne
      obtain ⟨p0, p1, p2, p3⟩ := (hr1.later (Grow.trans' G0.out hg)).at k hkd
      have HBad := hide (fun (h : ndB N[k] = false) => fit_noN (E := E) (all_not hkd h))
      have HUp := hide (fun (h : ndB N[k] = true) => all_up hkd HA.out h)
      have HFl := hide (flat_up N byN k hkd)
      obtain ⟨t, ht⟩ : ∃ t, t = N[k] := ⟨_, rfl⟩
      rw [← ht] at p0 p1 p2 p3 HBad HUp HFl
      have hi1 : (0 : Int) ≤ (k : Int) := by omega
      have hi2 : (k : Int) < (gn : Int) := by omega
      clear hne hr1 hkd hg ht
      obtain ⟨tk, ta, tb, td⟩ := t
      dsimp only at p0 p1 p2 p3
      obtain ⟨q1, hq1⟩ : ∃ q, smlB tk = q := ⟨_, rfl⟩
      obtain ⟨q2, hq2⟩ : ∃ q, smlB td = q := ⟨_, rfl⟩
      obtain ⟨q3, hq3⟩ : ∃ q, twoB ta = q := ⟨_, rfl⟩
      obtain ⟨q4, hq4⟩ : ∃ q, twoB tb = q := ⟨_, rfl⟩
      have C1 := hide (fun w => rsml_at tk hq1 w)
      have C2 := hide (fun w => rsml_at td hq2 w)
      have C3 := hide (fun w => rtwo_at ta hq3 w)
      have C4 := hide (fun w => rtwo_at tb hq4 w)
      have hnd : ndB ⟨tk, ta, tb, td⟩ = (q1 && q2 && q3 && q4) := by simp [ndB, hq1, hq2, hq3, hq4]
      rw [hnd] at HBad HUp
      clear hq1 hq2 hq3 hq4 hnd
      go_wp2_with (refine wpList_putN2 rfl _ _ rfl wi.heap.size ⟨tk, ta, tb, td⟩ rfl rfl (BlkN.new wi) wi (Grow.alloc' _ _) (Nat.le_refl _) ?_)
      intro w4 hg4 hb4 hbb4
      have G4 := hide (Grow.trans' HG.out hg4)
      have O4 := hide (HO.out.later hg4)
      obtain ⟨n0, n1, n2, n3⟩ := hb4
      dsimp only at n0 n1 n2 n3
      obtain ⟨g0', g1'⟩ := KG.out.later G4.out
      dsimp only at g0' g1'
      obtain ⟨R, hR⟩ : ∃ R, R = wi.heap.size := ⟨_, rfl⟩
      rw [← hR] at n0 n1 n2 n3 ⊢
      clear p0 p1 p2 p3 g0 g1 hg4 hbb4 hR HO HG
      by_cases hx1 : q1 = false
      · subst hx1
        have HX := HBad.out (by simp)
        have HF := hide HX
        clear HX HBad HUp
        go_wp2_with fail
        refine (C1.out _).mono ?_
        rintro _ w5 ⟨rfl, hw5⟩
        obtain rfl : w4 = w5 := hw5.symm
        go_wp2_with fail
        exact bodyPost_ret (v := .tuple #[.slice none 0 0, .int .i64 1]) (by simp [results, Try.results9, go_sem]) rfl ⟨Grow.trans' G0.out G4.out, .inr ⟨HF.out, rfl⟩⟩
      have hx1t : q1 = true := by simpa using hx1
      subst hx1t
      clear hx1
      by_cases hx2 : q2 = false
      · subst hx2
        have HX := HBad.out (by simp)
        have HF := hide HX
        clear HX HBad HUp
        go_wp2_with fail
        refine (C1.out _).mono ?_
        rintro _ w5 ⟨rfl, hw5⟩
        obtain rfl : w4 = w5 := hw5.symm
        go_wp2_with fail
        refine (C2.out _).mono ?_
        rintro _ w5 ⟨rfl, hw5⟩
        obtain rfl : w4 = w5 := hw5.symm
        go_wp2_with fail
        exact bodyPost_ret (v := .tuple #[.slice none 0 0, .int .i64 1]) (by simp [results, Try.results9, go_sem]) rfl ⟨Grow.trans' G0.out G4.out, .inr ⟨HF.out, rfl⟩⟩
      have hx2t : q2 = true := by simpa using hx2
      subst hx2t
      clear hx2
      by_cases hx3 : q3 = false
      · subst hx3
        have HX := HBad.out (by simp)
        have HF := hide HX
        clear HX HBad HUp
        go_wp2_with fail
        refine (C1.out _).mono ?_
        rintro _ w5 ⟨rfl, hw5⟩
        obtain rfl : w4 = w5 := hw5.symm
        go_wp2_with fail
        refine (C2.out _).mono ?_
        rintro _ w5 ⟨rfl, hw5⟩
        obtain rfl : w4 = w5 := hw5.symm
        go_wp2_with fail
        refine (C3.out _).mono ?_
        rintro _ w5 ⟨rfl, hw5⟩
        obtain rfl : w4 = w5 := hw5.symm
        go_wp2_with fail
        exact bodyPost_ret (v := .tuple #[.slice none 0 0, .int .i64 1]) (by simp [results, Try.results9, go_sem]) rfl ⟨Grow.trans' G0.out G4.out, .inr ⟨HF.out, rfl⟩⟩
      have hx3t : q3 = true := by simpa using hx3
      subst hx3t
      clear hx3
      by_cases hx4 : q4 = false
      · subst hx4
        have HX := HBad.out (by simp)
        have HF := hide HX
        clear HX HBad HUp
        go_wp2_with fail
        refine (C1.out _).mono ?_
        rintro _ w5 ⟨rfl, hw5⟩
        obtain rfl : w4 = w5 := hw5.symm
        go_wp2_with fail
        refine (C2.out _).mono ?_
        rintro _ w5 ⟨rfl, hw5⟩
        obtain rfl : w4 = w5 := hw5.symm
        go_wp2_with fail
        refine (C3.out _).mono ?_
        rintro _ w5 ⟨rfl, hw5⟩
        obtain rfl : w4 = w5 := hw5.symm
        go_wp2_with fail
        refine (C4.out _).mono ?_
        rintro _ w5 ⟨rfl, hw5⟩
        obtain rfl : w4 = w5 := hw5.symm
        go_wp2_with fail
        exact bodyPost_ret (v := .tuple #[.slice none 0 0, .int .i64 1]) (by simp [results, Try.results9, go_sem]) rfl ⟨Grow.trans' G0.out G4.out, .inr ⟨HF.out, rfl⟩⟩
      have hx4t : q4 = true := by simpa using hx4
      subst hx4t
      clear hx4
      have HU2 := hide (HUp.out rfl)
      have hu1 := wrap_u8 tk
      have hu2 := wrap_u8 td
      have hu3 := wrap_u8 (ta / 256)
      have hu4 := wrap_u8 ta
      have hu5 := wrap_u8 (tb / 256)
      have hu6 := wrap_u8 tb
      clear HBad HUp
      go_wp2_with fail
      refine (C1.out _).mono ?_
      rintro _ w5 ⟨rfl, hw5⟩
      obtain rfl : w4 = w5 := hw5.symm
      go_wp2_with fail
      refine (C2.out _).mono ?_
      rintro _ w5 ⟨rfl, hw5⟩
      obtain rfl : w4 = w5 := hw5.symm
      go_wp2_with fail
      refine (C3.out _).mono ?_
      rintro _ w5 ⟨rfl, hw5⟩
      obtain rfl : w4 = w5 := hw5.symm
      go_wp2_with fail
      refine (C4.out _).mono ?_
      rintro _ w5 ⟨rfl, hw5⟩
      obtain rfl : w4 = w5 := hw5.symm

      go_wp2_with (at_builtin; refine wpList_apd_by byT rfl _ _ rfl w0.heap.size s m c (D0 ++ (N.take k).flatMap byN) (byN ⟨tk, ta, tb, td⟩) rfl (O4.out.later (Grow.alloc' _ _)) (some ⟨w4.heap.size, 0, none⟩) 6 6 rfl (IsBy.lit w4 _ (byN ⟨tk, ta, tb, td⟩) _ (by simp [flatU, byN]) 6 rfl) (by have := HM.out; omega) (by have := G4.out.size; simp; omega) ?_)
      intro s2 c2 w6 hO6 hg6
      have O6 := hide hO6
      have G6 := hide (hg6.grow (Grow.trans' G4.out (Grow.alloc' _ _)) (Nat.le_refl _))
      clear hO6 hg6 n0 n1 n2 n3 g0' g1' hu1 hu2 hu3 hu4 hu5 hu6 C1 C2 C3 C4
      go_wp2_with fail
      go_roundw
      case rel => exact ⟨k + 1, s2, m + 6, c2, by omega, by go_num, rfl, G6.out, by rw [HFl.out]; exact O6.out, HU2.out⟩
      case measure => simp [intOf]; omega
    · have hi2 : ¬ (k : Int) < (gn : Int) := by omega
      have hkn : k = gn := by omega
      have hT : N.take k = N := List.take_of_length_le (by rw [HNl.out]; omega)
      rw [hT] at HO HA
      clear hkn hT hlt hg
      obtain ⟨D1, hD1⟩ : ∃ D, D = D0 ++ N.flatMap byN := ⟨_, rfl⟩
      rw [← hD1] at HO
      have HL1 : Hid (m = 3 + 6 * gn) := hide (by
        have := HO.out.1
        rw [hD1, List.length_append, len_byN, HNl.out, HD0.out] at this
        simp at this
        omega)
      have HD1 := hide hD1
      clear hD1 HM
      go_wp2_with (at_builtin; refine wpList_apd_by byT rfl _ _ rfl w0.heap.size s m c D1 [byt gm] rfl (HO.out.later (Grow.alloc' _ _)) (some ⟨wi.heap.size, 0, none⟩) 1 1 rfl (IsBy.lit wi _ [byt gm] _ (by simp [flatU]) 1 rfl) (by have := HL1.out; omega) (by have := HG.out.size; simp; omega) ?_)
      intro s3 c3 w3 hO3 hg3
      have O3 := hide hO3
      have G3 := hide (hg3.grow (Grow.trans' HG.out (Grow.alloc' _ _)) (Nat.le_refl _))
      obtain ⟨D2, hD2⟩ : ∃ D, D = D1 ++ [byt gm] := ⟨_, rfl⟩
      rw [← hD2] at O3
      have HD2 := hide hD2
      clear hO3 hg3 g0 g1 hv hD2 HO HG
      obtain ⟨g0, g1⟩ := KG.out.later G3.out
      dsimp only at g0 g1
      go_wp2_with fail
      clear g0 g1
      go_loopw [4, 7] (fun o i wr => ∃ (k : Nat) (s : Option Addr) (m c : Nat), k ≤ gm ∧ i = .int .i64 (k : Int) ∧ o = .slice s m c ∧ Grow w0 wr ∧ OwnU 5 wr w0.heap.size s m c (D2 ++ (E.take k).flatMap byE) ∧ (E.take k).all edB = true) (fun _ i _ => gm - (intOf i).toNat)
      case atStart => exact ⟨0, _, m + 1, c3, Nat.zero_le _, rfl, rfl, G3.out, by simpa using O3.out, by simp⟩
      case round =>
        obtain ⟨j, s4, m4, c4, hj, rfl, rfl, hg, hO, hallE⟩ := hrel
        generalize wr = wj at *
        have HG := hide hg
        have HO := hide hO
        have HAE := hide hallE
        have hgm := HEm.out
        obtain ⟨g0, g1⟩ := KG.out.later hg
        dsimp only at g0 g1
        have hml : m4 = 4 + 6 * gn + 3 * j := by
          have := hO.1
          rw [List.length_append, len_byE, List.length_take, HEl.out, HD2.out, List.length_append, HD1.out, List.length_append, len_byN, HNl.out, HD0.out] at this
          simp at this
          omega
        have HM := hide hml
        clear hO hallE hml
        by_cases hlt : j < gm
        · have hkd : j < E.length := by rw [HEl.out]; exact hlt
          have hne : ¬ E = [] := fun h => by rw [h] at hkd; simp at hkd
          obtain ⟨bE, oE, rfl, hr1⟩ := HE.out.2.2.resolve_left hne
          obtain ⟨p0, p1, p2⟩ := (hr1.later (Grow.trans' G0.out hg)).at j hkd
          have HBad := hide (fun (h : edB E[j] = false) => fit_noE (N := N) (all_not hkd h))
          have HUp := hide (fun (h : edB E[j] = true) => all_up hkd HAE.out h)
          have HFl := hide (flat_up E byE j hkd)
          obtain ⟨t, ht⟩ : ∃ t, t = E[j] := ⟨_, rfl⟩
          rw [← ht] at p0 p1 p2 HBad HUp HFl
          have hi1 : (0 : Int) ≤ (j : Int) := by omega
          have hi3 : (j : Int) < (gm : Int) := by omega
          clear hne hr1 hkd hg ht
          obtain ⟨tf, tt, tp⟩ := t
          dsimp only at p0 p1 p2
          obtain ⟨q1, hq1⟩ : ∃ q, smlB tf = q := ⟨_, rfl⟩
          obtain ⟨q2, hq2⟩ : ∃ q, smlB tt = q := ⟨_, rfl⟩
          obtain ⟨q3, hq3⟩ : ∃ q, smlB tp = q := ⟨_, rfl⟩
          have C1 := hide (fun w => rsml_at tf hq1 w)
          have C2 := hide (fun w => rsml_at tt hq2 w)
          have C3 := hide (fun w => rsml_at tp hq3 w)
          have hnd : edB ⟨tf, tt, tp⟩ = (q1 && q2 && q3) := by simp [edB, hq1, hq2, hq3]
          rw [hnd] at HBad HUp
          clear hq1 hq2 hq3 hnd
          go_wp2_with (refine wpList_putE rfl _ _ rfl wj.heap.size ⟨tf, tt, tp⟩ rfl rfl ⟨_, (MapKept.heap_alloc wj _).1, rfl⟩ wj (Grow.alloc' _ _) (Nat.le_refl _) ?_)
          intro w4 hg4 hb4
          have G4 := hide (Grow.trans' HG.out hg4)
          have O4 := hide (HO.out.later hg4)
          obtain ⟨n0, n1, n2⟩ := hb4
          dsimp only at n0 n1 n2
          obtain ⟨g0', g1'⟩ := KG.out.later G4.out
          dsimp only at g0' g1'
          obtain ⟨R, hR⟩ : ∃ R, R = wj.heap.size := ⟨_, rfl⟩
          rw [← hR] at n0 n1 n2 ⊢
          clear p0 p1 p2 g0 g1 hg4 hR HO HG
          by_cases hx1 : q1 = false
          · subst hx1
            have HX := HBad.out (by simp)
            have HF := hide HX
            clear HX HBad HUp
            go_wp2_with fail
            refine (C1.out _).mono ?_
            rintro _ w5 ⟨rfl, hw5⟩
            obtain rfl : w4 = w5 := hw5.symm
            go_wp2_with fail
            exact bodyPost_ret (v := .tuple #[.slice none 0 0, .int .i64 1]) (by simp [results, Try.results9, go_sem]) rfl ⟨Grow.trans' G0.out G4.out, .inr ⟨HF.out, rfl⟩⟩
          have hx1t : q1 = true := by simpa using hx1
          subst hx1t
          clear hx1
          by_cases hx2 : q2 = false
          · subst hx2
            have HX := HBad.out (by simp)
            have HF := hide HX
            clear HX HBad HUp
            go_wp2_with fail
            refine (C1.out _).mono ?_
            rintro _ w5 ⟨rfl, hw5⟩
            obtain rfl : w4 = w5 := hw5.symm
            go_wp2_with fail
            refine (C2.out _).mono ?_
            rintro _ w5 ⟨rfl, hw5⟩
            obtain rfl : w4 = w5 := hw5.symm
            go_wp2_with fail
            exact bodyPost_ret (v := .tuple #[.slice none 0 0, .int .i64 1]) (by simp [results, Try.results9, go_sem]) rfl ⟨Grow.trans' G0.out G4.out, .inr ⟨HF.out, rfl⟩⟩
          have hx2t : q2 = true := by simpa using hx2
          subst hx2t
          clear hx2
          by_cases hx3 : q3 = false
          · subst hx3
            have HX := HBad.out (by simp)
            have HF := hide HX
            clear HX HBad HUp
            go_wp2_with fail
            refine (C1.out _).mono ?_
            rintro _ w5 ⟨rfl, hw5⟩
            obtain rfl : w4 = w5 := hw5.symm
            go_wp2_with fail
            refine (C2.out _).mono ?_
            rintro _ w5 ⟨rfl, hw5⟩
            obtain rfl : w4 = w5 := hw5.symm
            go_wp2_with fail
            refine (C3.out _).mono ?_
            rintro _ w5 ⟨rfl, hw5⟩
            obtain rfl : w4 = w5 := hw5.symm
            go_wp2_with fail
            exact bodyPost_ret (v := .tuple #[.slice none 0 0, .int .i64 1]) (by simp [results, Try.results9, go_sem]) rfl ⟨Grow.trans' G0.out G4.out, .inr ⟨HF.out, rfl⟩⟩
          have hx3t : q3 = true := by simpa using hx3
          subst hx3t
          clear hx3
          have HU2 := hide (HUp.out rfl)
          have hu1 := wrap_u8 tf
          have hu2 := wrap_u8 tt
          have hu3 := wrap_u8 tp
          clear HBad HUp
          go_wp2_with fail
          refine (C1.out _).mono ?_
          rintro _ w5 ⟨rfl, hw5⟩
          obtain rfl : w4 = w5 := hw5.symm
          go_wp2_with fail
          refine (C2.out _).mono ?_
          rintro _ w5 ⟨rfl, hw5⟩
          obtain rfl : w4 = w5 := hw5.symm
          go_wp2_with fail
          refine (C3.out _).mono ?_
          rintro _ w5 ⟨rfl, hw5⟩
          obtain rfl : w4 = w5 := hw5.symm

          go_wp2_with (at_builtin; refine wpList_apd_by byT rfl _ _ rfl w0.heap.size s4 m4 c4 (D2 ++ (E.take j).flatMap byE) (byE ⟨tf, tt, tp⟩) rfl (O4.out.later (Grow.alloc' _ _)) (some ⟨w4.heap.size, 0, none⟩) 3 3 rfl (IsBy.lit w4 _ (byE ⟨tf, tt, tp⟩) _ (by simp [flatU, byE]) 3 rfl) (by have := HM.out; have := HNm.out; omega) (by have := G4.out.size; simp; omega) ?_)
          intro s2 c2 w6 hO6 hg6
          have O6 := hide hO6
          have G6 := hide (hg6.grow (Grow.trans' G4.out (Grow.alloc' _ _)) (Nat.le_refl _))
          clear hO6 hg6 n0 n1 n2 g0' g1' hu1 hu2 hu3 C1 C2 C3
          go_wp2_with fail
          go_roundw
          case rel => exact ⟨j + 1, s2, m4 + 3, c2, by omega, by go_num, rfl, G6.out, by rw [HFl.out]; exact O6.out, HU2.out⟩
          case measure => simp [intOf]; omega
        · have hi3 : ¬ (j : Int) < (gm : Int) := by omega
          have hT : E.take j = E := List.take_of_length_le (by rw [HEl.out]; omega)
          rw [hT] at HO HAE
          have HF : Hid (fitG N E = true) := hide (fitG_iff.2 ⟨by rw [HNl.out]; exact HNm.out, by rw [HEl.out]; exact HEm.out, HA.out, HAE.out⟩)
          have hp : putG N E = D2 ++ E.flatMap byE := by
            rw [HD2.out, HD1.out, HD0.out]
            simp [putG, HNl.out, HEl.out]
          have HI : Hid (IsBy wj s4 m4 c4 (putG N E)) := hide (by rw [hp]; exact HO.out.is)
          clear hT hlt hg hp
          go_wp2_with fail
          exact bodyPost_ret (v := .tuple #[.slice s4 m4 c4, .int .i64 0]) (by simp [results, Try.results9, go_sem]) rfl ⟨Grow.trans' G0.out HG.out, .inl ⟨HF.out, s4, m4, c4, rfl, HI.out⟩⟩
theorem rput_any (gs : Option Addr) (gn gc : Nat) (gt : Option Addr) (gm gq : Nat) (N : List Nd) (E : List Ed) (w : World) (hN : IsNds w gs gn gc N) (hE : IsEds w gt gm gq E) : Calls Try.prog 9 #[.agg #[.slice gs gn gc, .slice gt gm gq]] w fun e w' => NilErr N E w e w' := by
  by_cases h1 : 255 < gn
  · exact rput_big1 gs gn gc gt gm gq N E w h1 hN.1 hE.1
  by_cases h2 : 255 < gm
  · exact rput_big2 gs gn gc gt gm gq N E w h1 h2 hN.1 hE.1
  · exact rput_few gs gn gc gt gm gq N E w (by omega) (by omega) hN hE
end Go.Proofs.Ytjebipagehhkjaa
