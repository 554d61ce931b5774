/-
  ValidMore: for every graph (its first 14 nodes and 26 edges) that is accepted, every number of a node and every number of an edge: with a Capture more at an output of depth 0, if there is room, it is accepted too; without the edge, and with it twice, if there is room, an input has not just one edge; the call returns true and leaves its arguments as they were. No conditions.
-/
import Derived.Test.YtdgmfjaldicmgaaVAp
import Derived.Deep.Cut
import Derived.Deep.CutRange
namespace Go.Proofs.Ytdgmfjaldicmgaa
set_option maxRecDepth 100000
open Go.ChangeShapes Go.WideShapes Go.ChangeAt Go.RowKit Go.Deep Go.Sort
set_option linter.unusedVariables false
set_option linter.unusedSimpArgs false

/-- May there be a Capture more? -/
def roomB (N : List Nd) (E : List Ed) (node : Int) : Bool := decide (0 ≤ node) && decide (node < N.length) && hasP (nth N node.toNat).k && decide ((nth N node.toNat).d = 0) && decide (N.length < 12) && decide (E.length < 24)
set_option maxHeartbeats 40000000 in
theorem more_raw (gs : Option Addr) (gn gc : Nat) (gt : Option Addr) (gm gq : Nat) (N0 : List Nd) (E0 : List Ed) (node edge : Int) (w : World) (hN : IsNds w gs gn gc N0) (hE : IsEds w gt gm gq E0) :
    Calls Try.prog 6 #[.agg #[.slice gs gn gc, .slice gt gm gq], .int .i64 node, .int .i64 edge] w fun r w' => r = .returned (.bool true) ∧ Grow w w' := by
  have HN0 := hide (hN.cut 14)
  have HE0 := hide (hE.cut 26)
  have CF := hide (fun w => few_raw gs gn gc gt gm gq w hN.2.1 hE.2.1)
  have hn2' := cutN_le 14 gn
  have hm2' := cutN_le 26 gm
  obtain ⟨n2, hn2⟩ : ∃ n2, cutN 14 gn = n2 := ⟨_, rfl⟩
  obtain ⟨m2, hm2⟩ : ∃ m2, cutN 26 gm = m2 := ⟨_, rfl⟩
  obtain ⟨N, hNN⟩ : ∃ N, N0.take 14 = N := ⟨_, rfl⟩
  obtain ⟨E, hEE⟩ : ∃ E, E0.take 26 = E := ⟨_, rfl⟩
  rw [hn2] at HN0 CF hn2'
  rw [hm2] at HE0 CF hm2'
  rw [hNN] at HN0
  rw [hEE] at HE0
  clear hN hE hn2 hm2 hNN hEE
  have hn3 : n2 ≤ 14 := by omega
  have hm3 : m2 ≤ 26 := by omega
  have GG : Hid (Grow w (w.alloc (.cells #[.slice gs gn gc, .slice gt gm gq] 29))) := hide (Grow.alloc' _ _)
  have KG : Hid (BoxG (w.alloc (.cells #[.slice gs gn gc, .slice gt gm gq] 29)) w.heap.size ⟨gs, gn, gc, gt, gm, gq, [], []⟩) := hide (BoxG.new w ⟨gs, gn, gc, gt, gm, gq, [], []⟩)
  have KB : Hid (BlkG (w.alloc (.cells #[.slice gs gn gc, .slice gt gm gq] 29)) w.heap.size) := hide (BlkG.new w _ _)
  clear hn2' hm2'
  go_enter Try.func6, Try.ntmps6
  go_wp2_with fail
  generalize (w.alloc (.cells #[.slice gs gn gc, .slice gt gm gq] 29)) = w0 at *
  refine (shown_any _).mono ?_
  rintro _ w1 ⟨rfl, hb⟩
  have G1 := hide (Grow.trans' GG.out hb)
  have KB1 := hide (KB.out.later hb)
  obtain ⟨g0, g1⟩ := KG.out.later hb
  dsimp only at g0 g1
  clear hb KG KB GG
  go_wp2_with fail
  refine (CF.out _).mono ?_
  rintro _ w2 ⟨rfl, hb⟩
  have G2 := hide (Grow.trans' G1.out hb)
  have KB2 := hide (KB1.out.later hb)
  clear hb KB1 G1 g0 g1 CF
  go_wp2_with (refine wpList_putG rfl _ _ rfl w.heap.size ⟨gs, n2, gc, gt, m2, gq, [], []⟩ rfl rfl KB2.out w G2.out (Nat.le_refl _) ?_)
  intro w3 hg3 hb3 hoth hsame
  have G3 := hide hg3
  have HN := hide (HN0.out.later hg3)
  have HE := hide (HE0.out.later hg3)
  obtain ⟨g0, g1⟩ := hb3
  dsimp only at g0 g1
  clear hg3 hoth hsame KB2 G2 HN0 HE0
  generalize w.heap.size = P at *
  obtain ⟨e, he⟩ : ∃ e, errG N E = e := ⟨_, rfl⟩
  have C1 := hide (graph_raw gs n2 gc gt m2 gq N E w3 (by omega) (by omega) HN.out HE.out he)
  have KG3 : Hid (BoxG w3 P ⟨gs, n2, gc, gt, m2, gq, [], []⟩) := hide ⟨g0, g1⟩
  have HEr := hide he
  clear he
  go_wp2_with fail
  refine C1.out.mono ?_
  rintro _ w4 ⟨rfl, hb⟩
  have G4 := hide (Grow.trans' G3.out hb)
  have KG4 := hide (KG3.out.later hb)
  have HN4 := hide (HN.out.later hb)
  have HE4 := hide (HE.out.later hb)
  obtain ⟨h0, h1⟩ := KG3.out.later hb
  dsimp only at h0 h1
  clear hb g0 g1 C1 KG3
  by_cases he0 : e = 0
  rotate_left
  · have he1 : (e != 0) = true := by simpa using he0
    have he2 : (e == 0) = false := by simpa using he0
    go_wp2_with fail
    go_ret
    exact ⟨rfl, G4.out⟩
  subst he0
  have ACC := hide (errG_zero.1 HEr.out)
  have hNl := HN4.out.1
  have hEl := HE4.out.1
  have HNl := hide hNl
  have HEl := hide hEl
  have hnpos : 0 < n2 := by
    have := ACC.out.big.1
    omega
  have hneN : ¬ N = [] := fun h => by rw [h] at hNl; simp at hNl; omega
  obtain ⟨bN, oN, rfl, hrN⟩ := HN4.out.2.2.resolve_left hneN
  have HRN := hide hrN
  obtain ⟨q, hq⟩ : ∃ q, roomB N E node = q := ⟨_, rfl⟩
  have HQ := hide hq
  clear hNl hEl hneN hrN hq
  go_upto_region 5 with fail
  go_cut [56] from 18 to 56 (fun s56 wx => s56 = .bool q ∧ wx = w4)
  case first =>
    have fin : ∀ b : Bool, roomB N E node = b → Value.bool b = Value.bool q := fun b h => by rw [← h, HQ.out]
    have FIN := hide fin
    clear fin
    by_cases c1 : 0 ≤ node
    rotate_left
    · have F := hide (FIN.out false (by simp [roomB, c1]))
      go_wp2_with fail
      go_meet
      exact ⟨F.out, rfl⟩
    by_cases c2 : node < (n2 : Int)
    rotate_left
    · have F := hide (FIN.out false (by unfold roomB; rw [HNl.out]; simp [c2]))
      go_wp2_with fail
      go_meet
      exact ⟨F.out, rfl⟩
    obtain ⟨ni, rfl⟩ : ∃ ni : Nat, node = ni := ⟨node.toNat, by omega⟩
    have hiN : ni < N.length := by rw [HNl.out]; omega
    obtain ⟨p0, p1, p2, p3⟩ := HRN.out.at ni hiN
    rw [← nth_get N ni hiN] at p0 p1 p2 p3
    have hrm : roomB N E (ni : Int) = (hasP (nth N ni).k && decide ((nth N ni).d = 0) && decide (n2 < 12) && decide (m2 < 24)) := by
      unfold roomB
      rw [HNl.out, HEl.out, show ((ni : Nat) : Int).toNat = ni by omega]
      simp [c2]
    obtain ⟨x, hx⟩ : ∃ x, x = nth N ni := ⟨_, rfl⟩
    rw [← hx] at p0 p1 p2 p3 hrm
    obtain ⟨xk, xa, xb, xd⟩ := x
    dsimp only at p0 p1 p2 p3 hrm
    obtain ⟨r, hr⟩ : ∃ r, hasP xk = r := ⟨_, rfl⟩
    have C2 := hide (fun w => has_at xk hr w)
    rw [hr] at hrm
    have HRM := hide hrm
    clear hr hx hiN hrm p1 p2
    cases r
    · have F := hide (FIN.out false (by rw [HRM.out]; rfl))
      go_wp2_with fail
      refine (C2.out _).mono ?_
      rintro _ w5 ⟨rfl, hw5⟩
      obtain rfl : w4 = w5 := hw5.symm
      go_wp2_with fail
      go_meet
      exact ⟨F.out, rfl⟩
    by_cases c4 : xd = 0
    rotate_left
    · have F := hide (FIN.out false (by rw [HRM.out]; simp [c4]))
      have c4' : (xd == 0) = false := by simpa using c4
      go_wp2_with fail
      refine (C2.out _).mono ?_
      rintro _ w5 ⟨rfl, hw5⟩
      obtain rfl : w4 = w5 := hw5.symm
      go_wp2_with fail
      go_meet
      exact ⟨F.out, rfl⟩
    subst c4
    by_cases c5 : n2 < 12
    rotate_left
    · have F := hide (FIN.out false (by rw [HRM.out]; simp [c5]))
      have c5' : ¬ (n2 : Int) < 12 := by omega
      go_wp2_with fail
      refine (C2.out _).mono ?_
      rintro _ w5 ⟨rfl, hw5⟩
      obtain rfl : w4 = w5 := hw5.symm
      go_wp2_with fail
      go_meet
      exact ⟨F.out, rfl⟩
    have c5' : (n2 : Int) < 12 := by omega
    by_cases c6 : m2 < 24
    · have F := hide (FIN.out true (by rw [HRM.out]; simp [c5, c6]))
      have c6' : (m2 : Int) < 24 := by omega
      go_wp2_with fail
      refine (C2.out _).mono ?_
      rintro _ w5 ⟨rfl, hw5⟩
      obtain rfl : w4 = w5 := hw5.symm
      go_wp2_with fail
      go_meet
      exact ⟨F.out, rfl⟩
    · have F := hide (FIN.out false (by rw [HRM.out]; simp [c6]))
      have c6' : ¬ (m2 : Int) < 24 := by omega
      go_wp2_with fail
      refine (C2.out _).mono ?_
      rintro _ w5 ⟨rfl, hw5⟩
      obtain rfl : w4 = w5 := hw5.symm
      go_wp2_with fail
      go_meet
      exact ⟨(congrArg Value.bool (decide_eq_false (by omega))).trans F.out, rfl⟩
  case rest =>
  obtain ⟨rfl, hwc⟩ := hcut
  obtain rfl : w4 = wc := hwc.symm
  go_step
  go_cut [] from 8 to 78 (fun wx => Grow w4 wx)
  case first =>
    cases q
    · go_wp2_with fail
      go_meet
      exact Grow.rfl' _
    · have hroom := HQ.out
      unfold roomB at hroom
      simp only [Bool.and_eq_true, decide_eq_true_eq] at hroom
      obtain ⟨⟨⟨⟨⟨r1, r2⟩, r3⟩, r4⟩, r5⟩, r6⟩ := hroom
      obtain ⟨ni, rfl⟩ : ∃ ni : Nat, node = ni := ⟨node.toNat, by omega⟩
      have hER := ACC.out.more ni (by omega) r3 r4 r5 r6
      rw [HNl.out] at hER
      have HER := hide hER
      have hn12 : n2 < 12 := by have := HNl.out; omega
      clear hER r1 r2 r3 r4 r5 r6 h0 h1
      have HGG : ∀ wa wb, Grow w4 wa → Grow wa wb → Grow w4 wb := fun _ _ h q => Grow.trans' h q
      have HBG : ∀ wa wb, Grow wa wb → True → True := fun _ _ _ h => h
      have HG0 : ∀ w', Grow w4 w' → w'.heap = w4.heap → Grow w4 w' := fun _ h _ => h
      have HB0 : ∀ w', Grow w4 w' → w'.heap = w4.heap → True := fun _ _ _ => trivial
      go_wp2_with fail
      let FF : Nat → Value → World → Prop := fun i vF wF => match i with | 0 => LitN w4.heap.size vF wF | 1 => vF = .pointer (some ⟨P, 0, none⟩) | 2 => vF = .slice (some ⟨bN, oN, none⟩) n2 gc | 3 => AppN w4.heap.size n2 N vF wF | 4 => vF = .agg #[.int .i64 11, .int .i64 0, .int .i64 0, .int .i64 0] | 5 => AppN w4.heap.size 1 [capN] vF wF | 6 => AppN w4.heap.size (n2 + 1) (N ++ [capN]) vF wF | 7 => LitE w4.heap.size vF wF | 8 => vF = .pointer (some ⟨P, 1, none⟩) | 9 => vF = .slice gt m2 gq | 10 => AppE w4.heap.size m2 E vF wF | 11 => vF = .int .i64 (ni : Int) | 12 => vF = .pointer (some ⟨P, 0, none⟩) | 13 => vF = .slice (some ⟨bN, oN, none⟩) n2 gc | 14 => vF = .int .i64 (n2 : Int) | 15 => vF = .agg #[.int .i64 (ni : Int), .int .i64 (n2 : Int), .int .i64 0] | 16 => AppE w4.heap.size 1 [⟨(ni : Int), (n2 : Int), 0⟩] vF wF | 17 => AppE w4.heap.size (m2 + 1) (E ++ [⟨(ni : Int), (n2 : Int), 0⟩]) vF wF | 18 => GrNE w4.heap.size (n2 + 1) (m2 + 1) (N ++ [capN]) (E ++ [⟨(ni : Int), (n2 : Int), 0⟩]) vF wF | 19 => NewG w4.heap.size vF wF | _ => True
      let GG : World → Prop := fun w' => Grow w4 w'
      let BB : World → Prop := fun w' => True
      have hstab : ∀ k v w1 w2, Grow w1 w2 → FF k v w1 → FF k v w2 := by
        intro k v w1 w2 hg h
        match k with
        | 0 => exact LitN.later hg h
        | 1 => exact h
        | 2 => exact h
        | 3 => exact AppN.later hg h
        | 4 => exact h
        | 5 => exact AppN.later hg h
        | 6 => exact AppN.later hg h
        | 7 => exact LitE.later hg h
        | 8 => exact h
        | 9 => exact h
        | 10 => exact AppE.later hg h
        | 11 => exact h
        | 12 => exact h
        | 13 => exact h
        | 14 => exact h
        | 15 => exact h
        | 16 => exact AppE.later hg h
        | 17 => exact AppE.later hg h
        | 18 => exact GrNE.later hg h
        | 19 => exact NewG.later hg h
        | k + 20 => exact trivial
      have hGg : ∀ w1 w2, GG w1 → Grow w1 w2 → GG w2 := HGG
      have hBg : ∀ w1 w2, Grow w1 w2 → BB w1 → BB w2 := HBG
      refine wp_region_endG FF GG BB (fun i => match i with | 0 => some 3 | 3 => some 6 | 5 => some 6 | 7 => some 10 | 10 => some 17 | 16 => some 17 | _ => none) 999 20 _ rfl rfl rfl (by kernel_rfl) (by kernel_rfl) HG0 HB0 ?_ ?_
      · refine ⟨?_, ?_, ?_, ?_, ?_, ?_, ?_, ?_, ?_, ?_, ?_, ?_, ?_, ?_, ?_, ?_, ?_, ?_, ?_, ?_, trivial⟩
        · refine stepG_run hGg hBg hstab rfl ?_
          intro a' w' hg hs hd hb
          have ec : ∀ v, a'.eval (.const v) = v := fun _ => rfl
          have ef : ∀ g, a'.eval (.func g) = .func (.func g) #[] #[] := fun _ => rfl
          clear hd hs
          refine wpv (v := .slice (some ⟨w'.heap.size, 0, none⟩) 0 0) (w' := w'.alloc (.cells #[] 23)) ?_ ⟨_, rfl, Grow.alloc' _ _, ⟨_, rfl, OwnN.lit0 w' _ (show Grow w4 w' from hg).size⟩⟩
          (generalize a'.eval = ev at ec ef ⊢; simp [execOp, go_sem, *])
        · refine stepG_run hGg hBg hstab rfl ?_
          intro a' w' hg hs hd hb
          have e3 : a'.eval (.tmp 3) = .pointer (some ⟨P, 0, none⟩) := hs.rest 3 rfl
          have ec : ∀ v, a'.eval (.const v) = v := fun _ => rfl
          have ef : ∀ g, a'.eval (.func g) = .func (.func g) #[] #[] := fun _ => rfl
          clear hd hs
          refine wpv (v := .pointer (some ⟨P, 0, none⟩)) ?_ ⟨_, rfl, Grow.rfl' _, rfl⟩
          (generalize a'.eval = ev at ec ef e3 ⊢; simp [execOp, go_sem, *])
        · refine stepG_run hGg hBg hstab rfl ?_
          intro a' w' hg hs hd hb
          have e58 : a'.eval (.tmp 58) = .pointer (some ⟨P, 0, none⟩) := hd ⟨1, Ground.data⟩ (by simp) rfl rfl
          have ec : ∀ v, a'.eval (.const v) = v := fun _ => rfl
          have ef : ∀ g, a'.eval (.func g) = .func (.func g) #[] #[] := fun _ => rfl
          obtain ⟨k0, k1⟩ := KG4.out.later hg; dsimp only at k0 k1
          clear hd hs
          refine wpv (v := .slice (some ⟨bN, oN, none⟩) n2 gc) ?_ ⟨_, rfl, Grow.rfl' _, rfl⟩
          (generalize a'.eval = ev at ec ef e58 ⊢; simp [execOp, go_sem, *])
        · refine stepG_run hGg hBg hstab rfl ?_
          intro a' w' hg hs hd hb
          obtain ⟨g57, e57, h57⟩ : LitN w4.heap.size (a'.eval (.tmp 57)) w' := hd ⟨0, Ground.data⟩ (by simp) rfl rfl
          have e59 : a'.eval (.tmp 59) = .slice (some ⟨bN, oN, none⟩) n2 gc := hd ⟨2, Ground.data⟩ (by simp) rfl rfl
          have ec : ∀ v, a'.eval (.const v) = v := fun _ => rfl
          have ef : ∀ g, a'.eval (.func g) = .func (.func g) #[] #[] := fun _ => rfl
          clear hd hs
          obtain ⟨s2, c2, w2, hrun, hown, hgb⟩ := run_ap0_nd w' 26 w4.heap.size g57 N h57 (some ⟨bN, oN, none⟩) n2 gc (HN4.out.later hg) (by omega) (show Grow w4 w' from hg).size
          refine wpv (v := .slice s2 _ c2) (w' := w2) ?_ ⟨_, rfl, hgb, ⟨s2, c2, rfl, hown, trivial⟩⟩
          unfold execOp; simp only [resolve, invoke, builtin, Sem.run_bind, Sem.run_pure, Result.andThen_ok, List.map_toArray, List.map_cons, List.map_nil, e57, e59, hrun]
        · refine stepG_run hGg hBg hstab rfl ?_
          intro a' w' hg hs hd hb
          have ec : ∀ v, a'.eval (.const v) = v := fun _ => rfl
          have ef : ∀ g, a'.eval (.func g) = .func (.func g) #[] #[] := fun _ => rfl
          clear hd hs
          refine wpv (v := .agg #[.int .i64 11, .int .i64 0, .int .i64 0, .int .i64 0]) ?_ ⟨_, rfl, Grow.rfl' _, rfl⟩
          (generalize a'.eval = ev at ec ef ⊢; simp [execOp, go_sem, *])
        · refine stepG_run hGg hBg hstab rfl ?_
          intro a' w' hg hs hd hb
          have e61 : a'.eval (.tmp 61) = .agg #[.int .i64 11, .int .i64 0, .int .i64 0, .int .i64 0] := hd ⟨4, Ground.data⟩ (by simp) rfl rfl
          have ec : ∀ v, a'.eval (.const v) = v := fun _ => rfl
          have ef : ∀ g, a'.eval (.func g) = .func (.func g) #[] #[] := fun _ => rfl
          clear hd hs
          refine wpv (v := .slice (some ⟨w'.heap.size, 0, none⟩) 1 1) (w' := w'.alloc (.cells #[.int .i64 11, .int .i64 0, .int .i64 0, .int .i64 0] 23)) ?_ ⟨_, rfl, Grow.alloc' _ _, ⟨_, _, rfl, OwnN.lit1 w' _ (show Grow w4 w' from hg).size capN, trivial⟩⟩
          (generalize a'.eval = ev at ec ef e61 ⊢; simp [execOp, go_sem, *])
        · refine stepG_take rfl ?_
          intro a' w' hg hs hd hb
          obtain ⟨sa60, ca60, e60, h60, t60⟩ : AppN w4.heap.size n2 N (a'.eval (.tmp 60)) w' := hd ⟨3, Ground.data⟩ (by simp) rfl rfl
          obtain ⟨sb62, cb62, e62, h62, t62⟩ : AppN w4.heap.size 1 [capN] (a'.eval (.tmp 62)) w' := hd ⟨5, Ground.data⟩ (by simp) rfl rfl
          have ec : ∀ v, a'.eval (.const v) = v := fun _ => rfl
          have ef : ∀ g, a'.eval (.func g) = .func (.func g) #[] #[] := fun _ => rfl
          clear hd hs
          obtain ⟨s2, c2, w2, hrun, hown, hgr, hlie⟩ := run_apN hg 26 sa60 n2 ca60 N [capN] h60 sb62 1 cb62 h62.is (by omega)
          refine wpv (v := .slice s2 _ c2) (w' := w2) ?_ ⟨_, rfl, hgr.1, ⟨s2, c2, rfl, hown, hlie⟩, ?_, fun _ _ => trivial⟩
          rotate_left
          · intro j u hj h
            match j with
            | 0 => first | (cases hj; done) | exact LitN.turn hgr.2 (by decide) h
            | 1 => exact h
            | 2 => exact h
            | 3 => first | (cases hj; done) | exact AppN.turn hgr.2 (by decide) h
            | 4 => exact h
            | 5 => first | (cases hj; done) | exact AppN.turn hgr.2 (by decide) h
            | 6 => first | (cases hj; done) | exact AppN.turn hgr.2 (by decide) h
            | 7 => first | (cases hj; done) | exact LitE.turn hgr.2 (by decide) h
            | 8 => exact h
            | 9 => exact h
            | 10 => first | (cases hj; done) | exact AppE.turn hgr.2 (by decide) h
            | 11 => exact h
            | 12 => exact h
            | 13 => exact h
            | 14 => exact h
            | 15 => exact h
            | 16 => first | (cases hj; done) | exact AppE.turn hgr.2 (by decide) h
            | 17 => first | (cases hj; done) | exact AppE.turn hgr.2 (by decide) h
            | 18 => first | (cases hj; done) | exact GrNE.turn hgr.2 (by decide) h
            | 19 => first | (cases hj; done) | exact NewG.turn hgr.2 (by decide) h
            | j + 20 => exact trivial
          · unfold execOp; simp only [resolve, invoke, builtin, Sem.run_bind, Sem.run_pure, Result.andThen_ok, List.map_toArray, List.map_cons, List.map_nil, e60, e62, hrun]
        · refine stepG_run hGg hBg hstab rfl ?_
          intro a' w' hg hs hd hb
          have ec : ∀ v, a'.eval (.const v) = v := fun _ => rfl
          have ef : ∀ g, a'.eval (.func g) = .func (.func g) #[] #[] := fun _ => rfl
          clear hd hs
          refine wpv (v := .slice (some ⟨w'.heap.size, 0, none⟩) 0 0) (w' := w'.alloc (.cells #[] 50)) ?_ ⟨_, rfl, Grow.alloc' _ _, ⟨_, rfl, OwnE.lit0 w' _ (show Grow w4 w' from hg).size⟩⟩
          (generalize a'.eval = ev at ec ef ⊢; simp [execOp, go_sem, *])
        · refine stepG_run hGg hBg hstab rfl ?_
          intro a' w' hg hs hd hb
          have e3 : a'.eval (.tmp 3) = .pointer (some ⟨P, 0, none⟩) := hs.rest 3 rfl
          have ec : ∀ v, a'.eval (.const v) = v := fun _ => rfl
          have ef : ∀ g, a'.eval (.func g) = .func (.func g) #[] #[] := fun _ => rfl
          clear hd hs
          refine wpv (v := .pointer (some ⟨P, 1, none⟩)) ?_ ⟨_, rfl, Grow.rfl' _, rfl⟩
          (generalize a'.eval = ev at ec ef e3 ⊢; simp [execOp, go_sem, *])
        · refine stepG_run hGg hBg hstab rfl ?_
          intro a' w' hg hs hd hb
          have e65 : a'.eval (.tmp 65) = .pointer (some ⟨P, 1, none⟩) := hd ⟨8, Ground.data⟩ (by simp) rfl rfl
          have ec : ∀ v, a'.eval (.const v) = v := fun _ => rfl
          have ef : ∀ g, a'.eval (.func g) = .func (.func g) #[] #[] := fun _ => rfl
          obtain ⟨k0, k1⟩ := KG4.out.later hg; dsimp only at k0 k1
          clear hd hs
          refine wpv (v := .slice gt m2 gq) ?_ ⟨_, rfl, Grow.rfl' _, rfl⟩
          (generalize a'.eval = ev at ec ef e65 ⊢; simp [execOp, go_sem, *])
        · refine stepG_run hGg hBg hstab rfl ?_
          intro a' w' hg hs hd hb
          obtain ⟨g64, e64, h64⟩ : LitE w4.heap.size (a'.eval (.tmp 64)) w' := hd ⟨7, Ground.data⟩ (by simp) rfl rfl
          have e66 : a'.eval (.tmp 66) = .slice gt m2 gq := hd ⟨9, Ground.data⟩ (by simp) rfl rfl
          have ec : ∀ v, a'.eval (.const v) = v := fun _ => rfl
          have ef : ∀ g, a'.eval (.func g) = .func (.func g) #[] #[] := fun _ => rfl
          clear hd hs
          obtain ⟨s2, c2, w2, hrun, hown, hgb⟩ := run_ap0_ed w' 27 w4.heap.size g64 E h64 gt m2 gq (HE4.out.later hg) (by omega) (show Grow w4 w' from hg).size
          refine wpv (v := .slice s2 _ c2) (w' := w2) ?_ ⟨_, rfl, hgb, ⟨s2, c2, rfl, hown, trivial⟩⟩
          unfold execOp; simp only [resolve, invoke, builtin, Sem.run_bind, Sem.run_pure, Result.andThen_ok, List.map_toArray, List.map_cons, List.map_nil, e64, e66, hrun]
        · refine stepG_run hGg hBg hstab rfl ?_
          intro a' w' hg hs hd hb
          have e1 : a'.eval (.tmp 1) = .int .i64 (ni : Int) := hs.rest 1 rfl
          have ec : ∀ v, a'.eval (.const v) = v := fun _ => rfl
          have ef : ∀ g, a'.eval (.func g) = .func (.func g) #[] #[] := fun _ => rfl
          clear hd hs
          refine wpv (v := .int .i64 (ni : Int)) ?_ ⟨_, rfl, Grow.rfl' _, rfl⟩
          (generalize a'.eval = ev at ec ef e1 ⊢; simp [execOp, go_sem, *])
        · refine stepG_run hGg hBg hstab rfl ?_
          intro a' w' hg hs hd hb
          have e3 : a'.eval (.tmp 3) = .pointer (some ⟨P, 0, none⟩) := hs.rest 3 rfl
          have ec : ∀ v, a'.eval (.const v) = v := fun _ => rfl
          have ef : ∀ g, a'.eval (.func g) = .func (.func g) #[] #[] := fun _ => rfl
          clear hd hs
          refine wpv (v := .pointer (some ⟨P, 0, none⟩)) ?_ ⟨_, rfl, Grow.rfl' _, rfl⟩
          (generalize a'.eval = ev at ec ef e3 ⊢; simp [execOp, go_sem, *])
        · refine stepG_run hGg hBg hstab rfl ?_
          intro a' w' hg hs hd hb
          have e69 : a'.eval (.tmp 69) = .pointer (some ⟨P, 0, none⟩) := hd ⟨12, Ground.data⟩ (by simp) rfl rfl
          have ec : ∀ v, a'.eval (.const v) = v := fun _ => rfl
          have ef : ∀ g, a'.eval (.func g) = .func (.func g) #[] #[] := fun _ => rfl
          obtain ⟨k0, k1⟩ := KG4.out.later hg; dsimp only at k0 k1
          clear hd hs
          refine wpv (v := .slice (some ⟨bN, oN, none⟩) n2 gc) ?_ ⟨_, rfl, Grow.rfl' _, rfl⟩
          (generalize a'.eval = ev at ec ef e69 ⊢; simp [execOp, go_sem, *])
        · refine stepG_run hGg hBg hstab rfl ?_
          intro a' w' hg hs hd hb
          have e70 : a'.eval (.tmp 70) = .slice (some ⟨bN, oN, none⟩) n2 gc := hd ⟨13, Ground.data⟩ (by simp) rfl rfl
          have ec : ∀ v, a'.eval (.const v) = v := fun _ => rfl
          have ef : ∀ g, a'.eval (.func g) = .func (.func g) #[] #[] := fun _ => rfl
          clear hd hs
          refine wpv (v := .int .i64 (n2 : Int)) ?_ ⟨_, rfl, Grow.rfl' _, rfl⟩
          (generalize a'.eval = ev at ec ef e70 ⊢; simp [execOp, go_sem, *])
        · refine stepG_run hGg hBg hstab rfl ?_
          intro a' w' hg hs hd hb
          have e68 : a'.eval (.tmp 68) = .int .i64 (ni : Int) := hd ⟨11, Ground.data⟩ (by simp) rfl rfl
          have e71 : a'.eval (.tmp 71) = .int .i64 (n2 : Int) := hd ⟨14, Ground.data⟩ (by simp) rfl rfl
          have ec : ∀ v, a'.eval (.const v) = v := fun _ => rfl
          have ef : ∀ g, a'.eval (.func g) = .func (.func g) #[] #[] := fun _ => rfl
          clear hd hs
          refine wpv (v := .agg #[.int .i64 (ni : Int), .int .i64 (n2 : Int), .int .i64 0]) ?_ ⟨_, rfl, Grow.rfl' _, rfl⟩
          (generalize a'.eval = ev at ec ef e68 e71 ⊢; simp [execOp, go_sem, *])
        · refine stepG_run hGg hBg hstab rfl ?_
          intro a' w' hg hs hd hb
          have e72 : a'.eval (.tmp 72) = .agg #[.int .i64 (ni : Int), .int .i64 (n2 : Int), .int .i64 0] := hd ⟨15, Ground.data⟩ (by simp) rfl rfl
          have ec : ∀ v, a'.eval (.const v) = v := fun _ => rfl
          have ef : ∀ g, a'.eval (.func g) = .func (.func g) #[] #[] := fun _ => rfl
          clear hd hs
          refine wpv (v := .slice (some ⟨w'.heap.size, 0, none⟩) 1 1) (w' := w'.alloc (.cells #[.int .i64 (ni : Int), .int .i64 (n2 : Int), .int .i64 0] 50)) ?_ ⟨_, rfl, Grow.alloc' _ _, ⟨_, _, rfl, OwnE.lit1 w' _ (show Grow w4 w' from hg).size ⟨(ni : Int), (n2 : Int), 0⟩, trivial⟩⟩
          (generalize a'.eval = ev at ec ef e72 ⊢; simp [execOp, go_sem, *])
        · refine stepG_take rfl ?_
          intro a' w' hg hs hd hb
          obtain ⟨sa67, ca67, e67, h67, t67⟩ : AppE w4.heap.size m2 E (a'.eval (.tmp 67)) w' := hd ⟨10, Ground.data⟩ (by simp) rfl rfl
          obtain ⟨sb73, cb73, e73, h73, t73⟩ : AppE w4.heap.size 1 [⟨(ni : Int), (n2 : Int), 0⟩] (a'.eval (.tmp 73)) w' := hd ⟨16, Ground.data⟩ (by simp) rfl rfl
          have ec : ∀ v, a'.eval (.const v) = v := fun _ => rfl
          have ef : ∀ g, a'.eval (.func g) = .func (.func g) #[] #[] := fun _ => rfl
          clear hd hs
          obtain ⟨s2, c2, w2, hrun, hown, hgr, hlie⟩ := run_apE hg 27 sa67 m2 ca67 E [⟨(ni : Int), (n2 : Int), 0⟩] h67 sb73 1 cb73 h73.is (by omega)
          refine wpv (v := .slice s2 _ c2) (w' := w2) ?_ ⟨_, rfl, hgr.1, ⟨s2, c2, rfl, hown, hlie⟩, ?_, fun _ _ => trivial⟩
          rotate_left
          · intro j u hj h
            match j with
            | 0 => first | (cases hj; done) | exact LitN.turn hgr.2 (by decide) h
            | 1 => exact h
            | 2 => exact h
            | 3 => first | (cases hj; done) | exact AppN.turn hgr.2 (by decide) h
            | 4 => exact h
            | 5 => first | (cases hj; done) | exact AppN.turn hgr.2 (by decide) h
            | 6 => first | (cases hj; done) | exact AppN.turn hgr.2 (by decide) h
            | 7 => first | (cases hj; done) | exact LitE.turn hgr.2 (by decide) h
            | 8 => exact h
            | 9 => exact h
            | 10 => first | (cases hj; done) | exact AppE.turn hgr.2 (by decide) h
            | 11 => exact h
            | 12 => exact h
            | 13 => exact h
            | 14 => exact h
            | 15 => exact h
            | 16 => first | (cases hj; done) | exact AppE.turn hgr.2 (by decide) h
            | 17 => first | (cases hj; done) | exact AppE.turn hgr.2 (by decide) h
            | 18 => first | (cases hj; done) | exact GrNE.turn hgr.2 (by decide) h
            | 19 => first | (cases hj; done) | exact NewG.turn hgr.2 (by decide) h
            | j + 20 => exact trivial
          · unfold execOp; simp only [resolve, invoke, builtin, Sem.run_bind, Sem.run_pure, Result.andThen_ok, List.map_toArray, List.map_cons, List.map_nil, e67, e73, hrun]
        · refine stepG_run hGg hBg hstab rfl ?_
          intro a' w' hg hs hd hb
          obtain ⟨sc63, cc63, e63, h63, t63⟩ : AppN w4.heap.size (n2 + 1) (N ++ [capN]) (a'.eval (.tmp 63)) w' := hd ⟨6, Ground.data⟩ (by simp) rfl rfl
          obtain ⟨sc74, cc74, e74, h74, t74⟩ : AppE w4.heap.size (m2 + 1) (E ++ [⟨(ni : Int), (n2 : Int), 0⟩]) (a'.eval (.tmp 74)) w' := hd ⟨17, Ground.data⟩ (by simp) rfl rfl
          have ec : ∀ v, a'.eval (.const v) = v := fun _ => rfl
          have ef : ∀ g, a'.eval (.func g) = .func (.func g) #[] #[] := fun _ => rfl
          clear hd hs
          skip
          refine wpv (v := .agg #[.slice sc63 (n2 + 1) cc63, .slice sc74 (m2 + 1) cc74]) ?_ ⟨_, rfl, Grow.rfl' _, ⟨_, _, _, _, rfl, h63, h74⟩⟩
          (generalize a'.eval = ev at ec ef e63 e74 ⊢; simp [execOp, go_sem, *])
        · refine stepG_run hGg hBg hstab rfl ?_
          intro a' w' hg hs hd hb
          have ec : ∀ v, a'.eval (.const v) = v := fun _ => rfl
          have ef : ∀ g, a'.eval (.func g) = .func (.func g) #[] #[] := fun _ => rfl
          clear hd hs
          refine wpv (v := .pointer (some ⟨w'.heap.size, 0, none⟩)) (w' := w'.alloc (.cells #[.slice none 0 0, .slice none 0 0] 29)) ?_ ⟨_, rfl, Grow.alloc' _ _, ⟨_, rfl, BlkG.new w' _ _, (show Grow w4 w' from hg).size⟩⟩
          (generalize a'.eval = ev at ec ef ⊢; simp [execOp, go_sem, *])
      · intro a' w' hg hs hd
        obtain ⟨b8, e8, hk8, hb8⟩ : NewG w4.heap.size (a'.eval (.tmp 8)) w' := hd 19 (by omega) rfl
        obtain ⟨s75, c75, t75, q75, e75, hn75, he75⟩ : GrNE w4.heap.size (n2 + 1) (m2 + 1) (N ++ [capN]) (E ++ [⟨(ni : Int), (n2 : Int), 0⟩]) (a'.eval (.tmp 75)) w' := hd 18 (by omega) rfl
        have ec : ∀ v, a'.eval (.const v) = v := fun _ => rfl
        have ef : ∀ g, a'.eval (.func g) = .func (.func g) #[] #[] := fun _ => rfl
        refine wp_store_gr _ _ rfl (g := ⟨s75, n2 + 1, c75, t75, m2 + 1, q75, [], []⟩) e8 e75 hk8 w4 hg hb8 ?_
        intro w5 hg5 hbx5 hbk5 hoth5
        have z8 : a'.tmps.getD 8 undef = .pointer (some ⟨b8, 0, none⟩) := e8
        have C5 := hide (graph_raw s75 (n2 + 1) c75 t75 (m2 + 1) q75 (N ++ [capN]) (E ++ [⟨(ni : Int), (n2 : Int), 0⟩]) w5 (by omega) (by omega) (hn75.keep fun a ha => hoth5 _ (hn75.neG hk8 a ha)).is (he75.keep fun a ha => hoth5 _ (he75.neG hk8 a ha)).is HER.out)
        have G5 := hide hg5
        obtain ⟨x0, x1⟩ := hbx5
        dsimp only at x0 x1
        clear e8 e75 hk8 hb8 hn75 he75 ec ef hg HGG HBG HG0 HB0 hGg hBg hstab hg5 hbk5 hoth5
        rw [frame_eq hs [false, false, false, false, false, false, false, false, true, false, false, false, false, false, false, false, false, false, false, false, false, false, false, false, false, false, false, false, false, false, false, false, false, false, false, false, false, false, false, false, false, false, false, false, false, false, false, false, false, false, false, false, false, false, false, false, false, true, true, true, true, true, true, true, true, true, true, true, true, true, true, true, true, true, true, true, false, false, false, false, false, false, false, false, false, false, false, false, false, false, false, false, false, false, false, false, false, false, false, false, false, false, false, false, false, false, false, false, false, false, false, false, false, false, false, false, false, false, false, false, false, false, false, false, false, false, false, false, false, false, false, false, false, false, false] (by kernel_rfl)]; simp only [mergeL, z8]; clear hs hd z8; generalize a'.tmps = TT at *; try go_frame
        go_wp2_with fail
        refine C5.out.mono ?_
        rintro _ w6 ⟨rfl, hb⟩
        have G6 := hide (Grow.trans' G5.out hb)
        clear hb x0 x1 C5
        go_wp2_with fail
        go_meet
        exact G6.out
  case rest =>
  have KGc := hide (KG4.out.later hcut)
  have HNc := hide (HN4.out.later hcut)
  have HEc := hide (HE4.out.later hcut)
  have Gc := hide (Grow.trans' G4.out hcut)
  obtain ⟨k0, k1⟩ := KGc.out
  dsimp only at k0 k1
  clear hcut h0 h1 KG4 HN4 HE4 G4 HRN HQ
  by_cases d1 : edge < 0
  · go_wp2_with fail
    go_ret
    exact ⟨rfl, Gc.out⟩
  by_cases d2 : (m2 : Int) ≤ edge
  · have d1' : (edge < 0) = False := by simp; omega
    go_wp2_with fail
    go_ret
    exact ⟨rfl, Gc.out⟩
  obtain ⟨ei, rfl⟩ : ∃ ei : Nat, edge = ei := ⟨edge.toNat, by omega⟩
  have heE : ei < E.length := by rw [HEl.out]; omega
  have hneE : ¬ E = [] := fun h => by rw [h] at heE; simp at heE
  obtain ⟨bE, oE, rfl, hrE⟩ := HEc.out.2.2.resolve_left hneE
  have HRE := hide hrE
  obtain ⟨ex, hex⟩ : ∃ ex, ex = E[ei] := ⟨_, rfl⟩
  have hL13 := ACC.out.less ei heE
  have hT13 := fun h => ACC.out.twice ei heE h
  rw [← hex] at hT13
  obtain ⟨p0, p1, p2⟩ := hrE.at ei heE
  rw [← hex] at p0 p1 p2
  obtain ⟨xf, xt, xp⟩ := ex
  dsimp only at p0 p1 p2
  have P0 := hide p0
  have P1 := hide p1
  have P2 := hide p2
  obtain ⟨e1, he1⟩ : ∃ e1, e1 = ei + 1 := ⟨_, rfl⟩
  rw [← he1] at hL13
  have HL13 := hide hL13
  have HT13 : Hid (m2 < 24 → errG N (E ++ [⟨xf, xt, xp⟩]) = 13) := hide (fun h => hT13 (by rw [HEl.out]; exact h))
  have hem : ei < m2 := by have := HEl.out; omega
  have heq : m2 ≤ gq := HEc.out.2.1
  have hi1 : (0 : Int) ≤ (ei : Int) := by omega
  have hi2 : (ei : Int) < (m2 : Int) := by omega
  have hi3 : ¬ (m2 : Int) ≤ (ei : Int) := by omega
  have hw1 : IntKind.i64.wrap ((ei : Int) + 1) = (e1 : Int) := by rw [IntWalk.i64_in _ ⟨by omega, by omega⟩]; omega
  have r1 : ∀ w, (Instr.slice 27 (.slice (some ⟨bE, oE, none⟩) m2 gq) none (some (.int .i64 (ei : Int))) none).run Try.prog w = .ok (.slice (some ⟨bE, oE, none⟩) ei gq) w := fun w => run_headE _ m2 gq ei w (by omega)
  have r2 : ∀ w, (Instr.slice 27 (.slice (some ⟨bE, oE, none⟩) m2 gq) (some (.int .i64 (e1 : Int))) none none).run Try.prog w = .ok (.slice (fromA (some ⟨bE, oE, none⟩) gq e1) (m2 - e1) (gq - e1)) w := fun w => run_tailE _ m2 gq e1 w (by omega)
  obtain ⟨sF, hsF⟩ : ∃ sF, sF = fromA (some ⟨bE, oE, none⟩) gq e1 := ⟨_, rfl⟩
  have HFR : Hid (IsEds wc sF (m2 - e1) (gq - e1) (E.drop e1)) := hide (by rw [hsF]; exact HEc.out.from' e1 (by omega))
  rw [← hsF] at r2
  have he1m : e1 ≤ m2 := by omega
  have hsum : ei + (m2 - e1) ≤ 26 := by omega
  clear hneE hrE hex hL13 hT13 p0 p1 p2 he1 d1 d2 hsF
  have HGG : ∀ wa wb, Grow wc wa → Grow wa wb → Grow wc wb := fun _ _ h q => Grow.trans' h q
  have HBG : ∀ wa wb, Grow wa wb → True → True := fun _ _ _ h => h
  have HG0 : ∀ w', Grow wc w' → w'.heap = wc.heap → Grow wc w' := fun _ h _ => h
  have HB0 : ∀ w', Grow wc w' → w'.heap = wc.heap → True := fun _ _ _ => trivial
  go_wp2_with fail
  let FF : Nat → Value → World → Prop := fun i vF wF => match i with | 0 => vF = .pointer (some ⟨P, 0, none⟩) | 1 => vF = .slice (some ⟨bN, oN, none⟩) n2 gc | 2 => LitE wc.heap.size vF wF | 3 => vF = .pointer (some ⟨P, 1, none⟩) | 4 => vF = .slice (some ⟨bE, oE, none⟩) m2 gq | 5 => vF = .int .i64 (ei : Int) | 6 => vF = .slice (some ⟨bE, oE, none⟩) ei gq | 7 => AppE wc.heap.size ei (E.take ei) vF wF | 8 => vF = .pointer (some ⟨P, 1, none⟩) | 9 => vF = .slice (some ⟨bE, oE, none⟩) m2 gq | 10 => vF = .int .i64 (ei : Int) | 11 => vF = .int .i64 (e1 : Int) | 12 => vF = .slice sF (m2 - e1) (gq - e1) | 13 => AppE wc.heap.size (ei + (m2 - e1)) (E.take ei ++ E.drop e1) vF wF | 14 => GrIE wc.heap.size (some ⟨bN, oN, none⟩) n2 gc (ei + (m2 - e1)) (E.take ei ++ E.drop e1) vF wF | 15 => NewG wc.heap.size vF wF | _ => True
  let GG : World → Prop := fun w' => Grow wc w'
  let BB : World → Prop := fun w' => True
  have hstab : ∀ k v w1 w2, Grow w1 w2 → FF k v w1 → FF k v w2 := by
    intro k v w1 w2 hg h
    match k with
    | 0 => exact h
    | 1 => exact h
    | 2 => exact LitE.later hg h
    | 3 => exact h
    | 4 => exact h
    | 5 => exact h
    | 6 => exact h
    | 7 => exact AppE.later hg h
    | 8 => exact h
    | 9 => exact h
    | 10 => exact h
    | 11 => exact h
    | 12 => exact h
    | 13 => exact AppE.later hg h
    | 14 => exact GrIE.later hg h
    | 15 => exact NewG.later hg h
    | k + 16 => exact trivial
  have hGg : ∀ w1 w2, GG w1 → Grow w1 w2 → GG w2 := HGG
  have hBg : ∀ w1 w2, Grow w1 w2 → BB w1 → BB w2 := HBG
  refine wp_region_endG FF GG BB (fun i => match i with | 2 => some 7 | 7 => some 13 | _ => none) 999 16 _ rfl rfl rfl (by kernel_rfl) (by kernel_rfl) HG0 HB0 ?_ ?_
  · refine ⟨?_, ?_, ?_, ?_, ?_, ?_, ?_, ?_, ?_, ?_, ?_, ?_, ?_, ?_, ?_, ?_, trivial⟩
    · refine stepG_run hGg hBg hstab rfl ?_
      intro a' w' hg hs hd hb
      have e3 : a'.eval (.tmp 3) = .pointer (some ⟨P, 0, none⟩) := hs.rest 3 rfl
      have ec : ∀ v, a'.eval (.const v) = v := fun _ => rfl
      have ef : ∀ g, a'.eval (.func g) = .func (.func g) #[] #[] := fun _ => rfl
      clear hd hs
      refine wpv (v := .pointer (some ⟨P, 0, none⟩)) ?_ ⟨_, rfl, Grow.rfl' _, rfl⟩
      (generalize a'.eval = ev at ec ef e3 ⊢; simp [execOp, go_sem, *])
    · refine stepG_run hGg hBg hstab rfl ?_
      intro a' w' hg hs hd hb
      have e89 : a'.eval (.tmp 89) = .pointer (some ⟨P, 0, none⟩) := hd ⟨0, Ground.data⟩ (by simp) rfl rfl
      have ec : ∀ v, a'.eval (.const v) = v := fun _ => rfl
      have ef : ∀ g, a'.eval (.func g) = .func (.func g) #[] #[] := fun _ => rfl
      obtain ⟨k0, k1⟩ := KGc.out.later hg; dsimp only at k0 k1
      clear hd hs
      refine wpv (v := .slice (some ⟨bN, oN, none⟩) n2 gc) ?_ ⟨_, rfl, Grow.rfl' _, rfl⟩
      (generalize a'.eval = ev at ec ef e89 ⊢; simp [execOp, go_sem, *])
    · refine stepG_run hGg hBg hstab rfl ?_
      intro a' w' hg hs hd hb
      have ec : ∀ v, a'.eval (.const v) = v := fun _ => rfl
      have ef : ∀ g, a'.eval (.func g) = .func (.func g) #[] #[] := fun _ => rfl
      clear hd hs
      refine wpv (v := .slice (some ⟨w'.heap.size, 0, none⟩) 0 0) (w' := w'.alloc (.cells #[] 50)) ?_ ⟨_, rfl, Grow.alloc' _ _, ⟨_, rfl, OwnE.lit0 w' _ (show Grow wc w' from hg).size⟩⟩
      (generalize a'.eval = ev at ec ef ⊢; simp [execOp, go_sem, *])
    · refine stepG_run hGg hBg hstab rfl ?_
      intro a' w' hg hs hd hb
      have e3 : a'.eval (.tmp 3) = .pointer (some ⟨P, 0, none⟩) := hs.rest 3 rfl
      have ec : ∀ v, a'.eval (.const v) = v := fun _ => rfl
      have ef : ∀ g, a'.eval (.func g) = .func (.func g) #[] #[] := fun _ => rfl
      clear hd hs
      refine wpv (v := .pointer (some ⟨P, 1, none⟩)) ?_ ⟨_, rfl, Grow.rfl' _, rfl⟩
      (generalize a'.eval = ev at ec ef e3 ⊢; simp [execOp, go_sem, *])
    · refine stepG_run hGg hBg hstab rfl ?_
      intro a' w' hg hs hd hb
      have e92 : a'.eval (.tmp 92) = .pointer (some ⟨P, 1, none⟩) := hd ⟨3, Ground.data⟩ (by simp) rfl rfl
      have ec : ∀ v, a'.eval (.const v) = v := fun _ => rfl
      have ef : ∀ g, a'.eval (.func g) = .func (.func g) #[] #[] := fun _ => rfl
      obtain ⟨k0, k1⟩ := KGc.out.later hg; dsimp only at k0 k1
      clear hd hs
      refine wpv (v := .slice (some ⟨bE, oE, none⟩) m2 gq) ?_ ⟨_, rfl, Grow.rfl' _, rfl⟩
      (generalize a'.eval = ev at ec ef e92 ⊢; simp [execOp, go_sem, *])
    · refine stepG_run hGg hBg hstab rfl ?_
      intro a' w' hg hs hd hb
      have e2 : a'.eval (.tmp 2) = .int .i64 (ei : Int) := hs.rest 2 rfl
      have ec : ∀ v, a'.eval (.const v) = v := fun _ => rfl
      have ef : ∀ g, a'.eval (.func g) = .func (.func g) #[] #[] := fun _ => rfl
      clear hd hs
      refine wpv (v := .int .i64 (ei : Int)) ?_ ⟨_, rfl, Grow.rfl' _, rfl⟩
      (generalize a'.eval = ev at ec ef e2 ⊢; simp [execOp, go_sem, *])
    · refine stepG_run hGg hBg hstab rfl ?_
      intro a' w' hg hs hd hb
      have e93 : a'.eval (.tmp 93) = .slice (some ⟨bE, oE, none⟩) m2 gq := hd ⟨4, Ground.data⟩ (by simp) rfl rfl
      have e94 : a'.eval (.tmp 94) = .int .i64 (ei : Int) := hd ⟨5, Ground.data⟩ (by simp) rfl rfl
      have ec : ∀ v, a'.eval (.const v) = v := fun _ => rfl
      have ef : ∀ g, a'.eval (.func g) = .func (.func g) #[] #[] := fun _ => rfl
      clear hd hs
      refine wpv (v := .slice (some ⟨bE, oE, none⟩) ei gq) ?_ ⟨_, rfl, Grow.rfl' _, rfl⟩
      (generalize a'.eval = ev at ec ef e93 e94 ⊢; simp [execOp, go_sem, *])
    · refine stepG_run hGg hBg hstab rfl ?_
      intro a' w' hg hs hd hb
      obtain ⟨g91, e91, h91⟩ : LitE wc.heap.size (a'.eval (.tmp 91)) w' := hd ⟨2, Ground.data⟩ (by simp) rfl rfl
      have e95 : a'.eval (.tmp 95) = .slice (some ⟨bE, oE, none⟩) ei gq := hd ⟨6, Ground.data⟩ (by simp) rfl rfl
      have ec : ∀ v, a'.eval (.const v) = v := fun _ => rfl
      have ef : ∀ g, a'.eval (.func g) = .func (.func g) #[] #[] := fun _ => rfl
      clear hd hs
      obtain ⟨s2, c2, w2, hrun, hown, hgb⟩ := run_ap0_ed w' 27 wc.heap.size g91 (E.take ei) h91 (some ⟨bE, oE, none⟩) ei gq ((HEc.out.later hg).take' ei (by omega)) (by omega) (show Grow wc w' from hg).size
      refine wpv (v := .slice s2 _ c2) (w' := w2) ?_ ⟨_, rfl, hgb, ⟨s2, c2, rfl, hown, trivial⟩⟩
      unfold execOp; simp only [resolve, invoke, builtin, Sem.run_bind, Sem.run_pure, Result.andThen_ok, List.map_toArray, List.map_cons, List.map_nil, e91, e95, hrun]
    · refine stepG_run hGg hBg hstab rfl ?_
      intro a' w' hg hs hd hb
      have e3 : a'.eval (.tmp 3) = .pointer (some ⟨P, 0, none⟩) := hs.rest 3 rfl
      have ec : ∀ v, a'.eval (.const v) = v := fun _ => rfl
      have ef : ∀ g, a'.eval (.func g) = .func (.func g) #[] #[] := fun _ => rfl
      clear hd hs
      refine wpv (v := .pointer (some ⟨P, 1, none⟩)) ?_ ⟨_, rfl, Grow.rfl' _, rfl⟩
      (generalize a'.eval = ev at ec ef e3 ⊢; simp [execOp, go_sem, *])
    · refine stepG_run hGg hBg hstab rfl ?_
      intro a' w' hg hs hd hb
      have e97 : a'.eval (.tmp 97) = .pointer (some ⟨P, 1, none⟩) := hd ⟨8, Ground.data⟩ (by simp) rfl rfl
      have ec : ∀ v, a'.eval (.const v) = v := fun _ => rfl
      have ef : ∀ g, a'.eval (.func g) = .func (.func g) #[] #[] := fun _ => rfl
      obtain ⟨k0, k1⟩ := KGc.out.later hg; dsimp only at k0 k1
      clear hd hs
      refine wpv (v := .slice (some ⟨bE, oE, none⟩) m2 gq) ?_ ⟨_, rfl, Grow.rfl' _, rfl⟩
      (generalize a'.eval = ev at ec ef e97 ⊢; simp [execOp, go_sem, *])
    · refine stepG_run hGg hBg hstab rfl ?_
      intro a' w' hg hs hd hb
      have e2 : a'.eval (.tmp 2) = .int .i64 (ei : Int) := hs.rest 2 rfl
      have ec : ∀ v, a'.eval (.const v) = v := fun _ => rfl
      have ef : ∀ g, a'.eval (.func g) = .func (.func g) #[] #[] := fun _ => rfl
      clear hd hs
      refine wpv (v := .int .i64 (ei : Int)) ?_ ⟨_, rfl, Grow.rfl' _, rfl⟩
      (generalize a'.eval = ev at ec ef e2 ⊢; simp [execOp, go_sem, *])
    · refine stepG_run hGg hBg hstab rfl ?_
      intro a' w' hg hs hd hb
      have e99 : a'.eval (.tmp 99) = .int .i64 (ei : Int) := hd ⟨10, Ground.data⟩ (by simp) rfl rfl
      have ec : ∀ v, a'.eval (.const v) = v := fun _ => rfl
      have ef : ∀ g, a'.eval (.func g) = .func (.func g) #[] #[] := fun _ => rfl
      clear hd hs
      refine wpv (v := .int .i64 (e1 : Int)) ?_ ⟨_, rfl, Grow.rfl' _, rfl⟩
      (generalize a'.eval = ev at ec ef e99 ⊢; simp [execOp, go_sem, *])
    · refine stepG_run hGg hBg hstab rfl ?_
      intro a' w' hg hs hd hb
      have e98 : a'.eval (.tmp 98) = .slice (some ⟨bE, oE, none⟩) m2 gq := hd ⟨9, Ground.data⟩ (by simp) rfl rfl
      have e100 : a'.eval (.tmp 100) = .int .i64 (e1 : Int) := hd ⟨11, Ground.data⟩ (by simp) rfl rfl
      have ec : ∀ v, a'.eval (.const v) = v := fun _ => rfl
      have ef : ∀ g, a'.eval (.func g) = .func (.func g) #[] #[] := fun _ => rfl
      clear hd hs
      refine wpv (v := .slice sF (m2 - e1) (gq - e1)) ?_ ⟨_, rfl, Grow.rfl' _, rfl⟩
      (generalize a'.eval = ev at ec ef e98 e100 ⊢; simp [execOp, go_sem, *])
    · refine stepG_take rfl ?_
      intro a' w' hg hs hd hb
      obtain ⟨sa96, ca96, e96, h96, t96⟩ : AppE wc.heap.size ei (E.take ei) (a'.eval (.tmp 96)) w' := hd ⟨7, Ground.data⟩ (by simp) rfl rfl
      have e101 : a'.eval (.tmp 101) = .slice sF (m2 - e1) (gq - e1) := hd ⟨12, Ground.data⟩ (by simp) rfl rfl
      have ec : ∀ v, a'.eval (.const v) = v := fun _ => rfl
      have ef : ∀ g, a'.eval (.func g) = .func (.func g) #[] #[] := fun _ => rfl
      clear hd hs
      obtain ⟨s2, c2, w2, hrun, hown, hgr, hlie⟩ := run_apE hg 27 sa96 ei ca96 (E.take ei) (E.drop e1) h96 sF (m2 - e1) (gq - e1) (HFR.out.later hg) (by omega)
      refine wpv (v := .slice s2 _ c2) (w' := w2) ?_ ⟨_, rfl, hgr.1, ⟨s2, c2, rfl, hown, hlie⟩, ?_, fun _ _ => trivial⟩
      rotate_left
      · intro j u hj h
        match j with
        | 0 => exact h
        | 1 => exact h
        | 2 => first | (cases hj; done) | exact LitE.turn hgr.2 (by decide) h
        | 3 => exact h
        | 4 => exact h
        | 5 => exact h
        | 6 => exact h
        | 7 => first | (cases hj; done) | exact AppE.turn hgr.2 (by decide) h
        | 8 => exact h
        | 9 => exact h
        | 10 => exact h
        | 11 => exact h
        | 12 => exact h
        | 13 => first | (cases hj; done) | exact AppE.turn hgr.2 (by decide) h
        | 14 => first | (cases hj; done) | exact GrIE.turn hgr.2 (by decide) h
        | 15 => first | (cases hj; done) | exact NewG.turn hgr.2 (by decide) h
        | j + 16 => exact trivial
      · unfold execOp; simp only [resolve, invoke, builtin, Sem.run_bind, Sem.run_pure, Result.andThen_ok, List.map_toArray, List.map_cons, List.map_nil, e96, e101, hrun]
    · refine stepG_run hGg hBg hstab rfl ?_
      intro a' w' hg hs hd hb
      have e90 : a'.eval (.tmp 90) = .slice (some ⟨bN, oN, none⟩) n2 gc := hd ⟨1, Ground.data⟩ (by simp) rfl rfl
      obtain ⟨sc102, cc102, e102, h102, t102⟩ : AppE wc.heap.size (ei + (m2 - e1)) (E.take ei ++ E.drop e1) (a'.eval (.tmp 102)) w' := hd ⟨13, Ground.data⟩ (by simp) rfl rfl
      have ec : ∀ v, a'.eval (.const v) = v := fun _ => rfl
      have ef : ∀ g, a'.eval (.func g) = .func (.func g) #[] #[] := fun _ => rfl
      clear hd hs
      skip
      refine wpv (v := .agg #[.slice (some ⟨bN, oN, none⟩) n2 gc, .slice sc102 (ei + (m2 - e1)) cc102]) ?_ ⟨_, rfl, Grow.rfl' _, ⟨_, _, rfl, h102⟩⟩
      (generalize a'.eval = ev at ec ef e90 e102 ⊢; simp [execOp, go_sem, *])
    · refine stepG_run hGg hBg hstab rfl ?_
      intro a' w' hg hs hd hb
      have ec : ∀ v, a'.eval (.const v) = v := fun _ => rfl
      have ef : ∀ g, a'.eval (.func g) = .func (.func g) #[] #[] := fun _ => rfl
      clear hd hs
      refine wpv (v := .pointer (some ⟨w'.heap.size, 0, none⟩)) (w' := w'.alloc (.cells #[.slice none 0 0, .slice none 0 0] 29)) ?_ ⟨_, rfl, Grow.alloc' _ _, ⟨_, rfl, BlkG.new w' _ _, (show Grow wc w' from hg).size⟩⟩
      (generalize a'.eval = ev at ec ef ⊢; simp [execOp, go_sem, *])
  · intro a' w' hg hs hd
    obtain ⟨b9, e9, hk9, hb9⟩ : NewG wc.heap.size (a'.eval (.tmp 9)) w' := hd 15 (by omega) rfl
    obtain ⟨t103, q103, e103, he103⟩ : GrIE wc.heap.size (some ⟨bN, oN, none⟩) n2 gc (ei + (m2 - e1)) (E.take ei ++ E.drop e1) (a'.eval (.tmp 103)) w' := hd 14 (by omega) rfl
    have ec : ∀ v, a'.eval (.const v) = v := fun _ => rfl
    have ef : ∀ g, a'.eval (.func g) = .func (.func g) #[] #[] := fun _ => rfl
    refine wp_store_gr _ _ rfl (g := ⟨some ⟨bN, oN, none⟩, n2, gc, t103, ei + (m2 - e1), q103, [], []⟩) e9 e103 hk9 wc hg hb9 ?_
    intro w5 hg5 hbx5 hbk5 hoth5
    have z9 : a'.tmps.getD 9 undef = .pointer (some ⟨b9, 0, none⟩) := e9
    have C5 := hide (fun w' (h : Grow w5 w') => graph_raw (some ⟨bN, oN, none⟩) n2 gc t103 (ei + (m2 - e1)) q103 N (E.take ei ++ E.drop e1) w' (by omega) (by omega) (HNc.out.later (Grow.trans' hg5 h)) ((he103.keep fun a ha => hoth5 _ (he103.neG hk9 a ha)).later h).is HL13.out)
    have G5 := hide hg5
    have BX9 := hide hbx5
    have HB9 : Hid (b9 < w5.heap.size) := hide (hbk5.lt)
    have KG5 := hide (KGc.out.later hg5)
    have HN5 := hide (HNc.out.later hg5)
    have HE5 := hide (HEc.out.later hg5)
    have p0 := cell_later hg5 P0.out
    have p1 := cell_later hg5 P1.out
    have p2 := cell_later hg5 P2.out
    have Q0 := hide p0
    have Q1 := hide p1
    have Q2 := hide p2
    clear e9 e103 hk9 hb9 he103 ec ef hg HGG HBG HG0 HB0 hGg hBg hstab hg5 hbx5 hbk5 hoth5 p0 p1 p2 r1 r2 k0 k1
    rw [frame_eq hs [false, false, false, false, false, false, false, false, false, true, false, false, false, false, false, false, false, false, false, false, false, false, false, false, false, false, false, false, false, false, false, false, false, false, false, false, false, false, false, false, false, false, false, false, false, false, false, false, false, false, false, false, false, false, false, false, false, false, false, false, false, false, false, false, false, false, false, false, false, false, false, false, false, false, false, false, false, false, false, false, false, false, false, false, false, false, false, false, false, true, true, true, true, true, true, true, true, true, true, true, true, true, true, true, false, false, false, false, false, false, false, false, false, false, false, false, false, false, false, false, false, false, false, false, false, false, false, false, false, false, false, false, false, false, false] (by kernel_rfl)]; simp only [mergeL, z9]; clear hs hd z9; generalize a'.tmps = TT at *; try go_frame
    have HGG : ∀ wa wb, Grow w5 wa → Grow wa wb → Grow w5 wb := fun _ _ h q => Grow.trans' h q
    have HBG : ∀ wa wb, Grow wa wb → True → True := fun _ _ _ h => h
    have HG0 : ∀ w', Grow w5 w' → w'.heap = w5.heap → Grow w5 w' := fun _ h _ => h
    have HB0 : ∀ w', Grow w5 w' → w'.heap = w5.heap → True := fun _ _ _ => trivial
    go_wp2_with fail
    let FF : Nat → Value → World → Prop := fun i vF wF => match i with | 0 => vF = .pointer (some ⟨P, 0, none⟩) | 1 => vF = .slice (some ⟨bN, oN, none⟩) n2 gc | 2 => LitE w5.heap.size vF wF | 3 => vF = .pointer (some ⟨P, 1, none⟩) | 4 => vF = .slice (some ⟨bE, oE, none⟩) m2 gq | 5 => AppE w5.heap.size m2 E vF wF | 6 => vF = .pointer (some ⟨P, 1, none⟩) | 7 => vF = .slice (some ⟨bE, oE, none⟩) m2 gq | 8 => vF = .int .i64 (ei : Int) | 9 => vF = .pointer (some ⟨bE, oE + ei * 3, none⟩) | 10 => vF = .agg #[.int .i64 xf, .int .i64 xt, .int .i64 xp] | 11 => AppE w5.heap.size 1 [⟨xf, xt, xp⟩] vF wF | 12 => AppE w5.heap.size (m2 + 1) (E ++ [⟨xf, xt, xp⟩]) vF wF | 13 => GrIE w5.heap.size (some ⟨bN, oN, none⟩) n2 gc (m2 + 1) (E ++ [⟨xf, xt, xp⟩]) vF wF | 14 => NewG w5.heap.size vF wF | _ => True
    let GG : World → Prop := fun w' => Grow w5 w'
    let BB : World → Prop := fun w' => True
    have hstab : ∀ k v w1 w2, Grow w1 w2 → FF k v w1 → FF k v w2 := by
      intro k v w1 w2 hg h
      match k with
      | 0 => exact h
      | 1 => exact h
      | 2 => exact LitE.later hg h
      | 3 => exact h
      | 4 => exact h
      | 5 => exact AppE.later hg h
      | 6 => exact h
      | 7 => exact h
      | 8 => exact h
      | 9 => exact h
      | 10 => exact h
      | 11 => exact AppE.later hg h
      | 12 => exact AppE.later hg h
      | 13 => exact GrIE.later hg h
      | 14 => exact NewG.later hg h
      | k + 15 => exact trivial
    have hGg : ∀ w1 w2, GG w1 → Grow w1 w2 → GG w2 := HGG
    have hBg : ∀ w1 w2, Grow w1 w2 → BB w1 → BB w2 := HBG
    refine wp_region_endG FF GG BB (fun i => match i with | 2 => some 5 | 5 => some 12 | 11 => some 12 | _ => none) 999 15 _ rfl rfl rfl (by kernel_rfl) (by kernel_rfl) HG0 HB0 ?_ ?_
    · refine ⟨?_, ?_, ?_, ?_, ?_, ?_, ?_, ?_, ?_, ?_, ?_, ?_, ?_, ?_, ?_, trivial⟩
      · refine stepG_run hGg hBg hstab rfl ?_
        intro a' w' hg hs hd hb
        have e3 : a'.eval (.tmp 3) = .pointer (some ⟨P, 0, none⟩) := hs.rest 3 rfl
        have ec : ∀ v, a'.eval (.const v) = v := fun _ => rfl
        have ef : ∀ g, a'.eval (.func g) = .func (.func g) #[] #[] := fun _ => rfl
        clear hd hs
        refine wpv (v := .pointer (some ⟨P, 0, none⟩)) ?_ ⟨_, rfl, Grow.rfl' _, rfl⟩
        (generalize a'.eval = ev at ec ef e3 ⊢; simp [execOp, go_sem, *])
      · refine stepG_run hGg hBg hstab rfl ?_
        intro a' w' hg hs hd hb
        have e104 : a'.eval (.tmp 104) = .pointer (some ⟨P, 0, none⟩) := hd ⟨0, Ground.data⟩ (by simp) rfl rfl
        have ec : ∀ v, a'.eval (.const v) = v := fun _ => rfl
        have ef : ∀ g, a'.eval (.func g) = .func (.func g) #[] #[] := fun _ => rfl
        obtain ⟨k0, k1⟩ := KG5.out.later hg; dsimp only at k0 k1
        clear hd hs
        refine wpv (v := .slice (some ⟨bN, oN, none⟩) n2 gc) ?_ ⟨_, rfl, Grow.rfl' _, rfl⟩
        (generalize a'.eval = ev at ec ef e104 ⊢; simp [execOp, go_sem, *])
      · refine stepG_run hGg hBg hstab rfl ?_
        intro a' w' hg hs hd hb
        have ec : ∀ v, a'.eval (.const v) = v := fun _ => rfl
        have ef : ∀ g, a'.eval (.func g) = .func (.func g) #[] #[] := fun _ => rfl
        clear hd hs
        refine wpv (v := .slice (some ⟨w'.heap.size, 0, none⟩) 0 0) (w' := w'.alloc (.cells #[] 50)) ?_ ⟨_, rfl, Grow.alloc' _ _, ⟨_, rfl, OwnE.lit0 w' _ (show Grow w5 w' from hg).size⟩⟩
        (generalize a'.eval = ev at ec ef ⊢; simp [execOp, go_sem, *])
      · refine stepG_run hGg hBg hstab rfl ?_
        intro a' w' hg hs hd hb
        have e3 : a'.eval (.tmp 3) = .pointer (some ⟨P, 0, none⟩) := hs.rest 3 rfl
        have ec : ∀ v, a'.eval (.const v) = v := fun _ => rfl
        have ef : ∀ g, a'.eval (.func g) = .func (.func g) #[] #[] := fun _ => rfl
        clear hd hs
        refine wpv (v := .pointer (some ⟨P, 1, none⟩)) ?_ ⟨_, rfl, Grow.rfl' _, rfl⟩
        (generalize a'.eval = ev at ec ef e3 ⊢; simp [execOp, go_sem, *])
      · refine stepG_run hGg hBg hstab rfl ?_
        intro a' w' hg hs hd hb
        have e107 : a'.eval (.tmp 107) = .pointer (some ⟨P, 1, none⟩) := hd ⟨3, Ground.data⟩ (by simp) rfl rfl
        have ec : ∀ v, a'.eval (.const v) = v := fun _ => rfl
        have ef : ∀ g, a'.eval (.func g) = .func (.func g) #[] #[] := fun _ => rfl
        obtain ⟨k0, k1⟩ := KG5.out.later hg; dsimp only at k0 k1
        clear hd hs
        refine wpv (v := .slice (some ⟨bE, oE, none⟩) m2 gq) ?_ ⟨_, rfl, Grow.rfl' _, rfl⟩
        (generalize a'.eval = ev at ec ef e107 ⊢; simp [execOp, go_sem, *])
      · refine stepG_run hGg hBg hstab rfl ?_
        intro a' w' hg hs hd hb
        obtain ⟨g106, e106, h106⟩ : LitE w5.heap.size (a'.eval (.tmp 106)) w' := hd ⟨2, Ground.data⟩ (by simp) rfl rfl
        have e108 : a'.eval (.tmp 108) = .slice (some ⟨bE, oE, none⟩) m2 gq := hd ⟨4, Ground.data⟩ (by simp) rfl rfl
        have ec : ∀ v, a'.eval (.const v) = v := fun _ => rfl
        have ef : ∀ g, a'.eval (.func g) = .func (.func g) #[] #[] := fun _ => rfl
        clear hd hs
        obtain ⟨s2, c2, w2, hrun, hown, hgb⟩ := run_ap0_ed w' 27 w5.heap.size g106 E h106 (some ⟨bE, oE, none⟩) m2 gq (HE5.out.later hg) (by omega) (show Grow w5 w' from hg).size
        refine wpv (v := .slice s2 _ c2) (w' := w2) ?_ ⟨_, rfl, hgb, ⟨s2, c2, rfl, hown, trivial⟩⟩
        unfold execOp; simp only [resolve, invoke, builtin, Sem.run_bind, Sem.run_pure, Result.andThen_ok, List.map_toArray, List.map_cons, List.map_nil, e106, e108, hrun]
      · refine stepG_run hGg hBg hstab rfl ?_
        intro a' w' hg hs hd hb
        have e3 : a'.eval (.tmp 3) = .pointer (some ⟨P, 0, none⟩) := hs.rest 3 rfl
        have ec : ∀ v, a'.eval (.const v) = v := fun _ => rfl
        have ef : ∀ g, a'.eval (.func g) = .func (.func g) #[] #[] := fun _ => rfl
        clear hd hs
        refine wpv (v := .pointer (some ⟨P, 1, none⟩)) ?_ ⟨_, rfl, Grow.rfl' _, rfl⟩
        (generalize a'.eval = ev at ec ef e3 ⊢; simp [execOp, go_sem, *])
      · refine stepG_run hGg hBg hstab rfl ?_
        intro a' w' hg hs hd hb
        have e110 : a'.eval (.tmp 110) = .pointer (some ⟨P, 1, none⟩) := hd ⟨6, Ground.data⟩ (by simp) rfl rfl
        have ec : ∀ v, a'.eval (.const v) = v := fun _ => rfl
        have ef : ∀ g, a'.eval (.func g) = .func (.func g) #[] #[] := fun _ => rfl
        obtain ⟨k0, k1⟩ := KG5.out.later hg; dsimp only at k0 k1
        clear hd hs
        refine wpv (v := .slice (some ⟨bE, oE, none⟩) m2 gq) ?_ ⟨_, rfl, Grow.rfl' _, rfl⟩
        (generalize a'.eval = ev at ec ef e110 ⊢; simp [execOp, go_sem, *])
      · refine stepG_run hGg hBg hstab rfl ?_
        intro a' w' hg hs hd hb
        have e2 : a'.eval (.tmp 2) = .int .i64 (ei : Int) := hs.rest 2 rfl
        have ec : ∀ v, a'.eval (.const v) = v := fun _ => rfl
        have ef : ∀ g, a'.eval (.func g) = .func (.func g) #[] #[] := fun _ => rfl
        clear hd hs
        refine wpv (v := .int .i64 (ei : Int)) ?_ ⟨_, rfl, Grow.rfl' _, rfl⟩
        (generalize a'.eval = ev at ec ef e2 ⊢; simp [execOp, go_sem, *])
      · refine stepG_run hGg hBg hstab rfl ?_
        intro a' w' hg hs hd hb
        have e111 : a'.eval (.tmp 111) = .slice (some ⟨bE, oE, none⟩) m2 gq := hd ⟨7, Ground.data⟩ (by simp) rfl rfl
        have e112 : a'.eval (.tmp 112) = .int .i64 (ei : Int) := hd ⟨8, Ground.data⟩ (by simp) rfl rfl
        have ec : ∀ v, a'.eval (.const v) = v := fun _ => rfl
        have ef : ∀ g, a'.eval (.func g) = .func (.func g) #[] #[] := fun _ => rfl
        clear hd hs
        refine wpv (v := .pointer (some ⟨bE, oE + ei * 3, none⟩)) ?_ ⟨_, rfl, Grow.rfl' _, rfl⟩
        (generalize a'.eval = ev at ec ef e111 e112 ⊢; simp [execOp, go_sem, *])
      · refine stepG_run hGg hBg hstab rfl ?_
        intro a' w' hg hs hd hb
        have e113 : a'.eval (.tmp 113) = .pointer (some ⟨bE, oE + ei * 3, none⟩) := hd ⟨9, Ground.data⟩ (by simp) rfl rfl
        have ec : ∀ v, a'.eval (.const v) = v := fun _ => rfl
        have ef : ∀ g, a'.eval (.func g) = .func (.func g) #[] #[] := fun _ => rfl
        have p0 := cell_later hg Q0.out; have p1 := cell_later hg Q1.out; have p2 := cell_later hg Q2.out
        clear hd hs
        refine wpv (v := .agg #[.int .i64 xf, .int .i64 xt, .int .i64 xp]) ?_ ⟨_, rfl, Grow.rfl' _, rfl⟩
        (generalize a'.eval = ev at ec ef e113 ⊢; simp [execOp, go_sem, *])
      · refine stepG_run hGg hBg hstab rfl ?_
        intro a' w' hg hs hd hb
        have e114 : a'.eval (.tmp 114) = .agg #[.int .i64 xf, .int .i64 xt, .int .i64 xp] := hd ⟨10, Ground.data⟩ (by simp) rfl rfl
        have ec : ∀ v, a'.eval (.const v) = v := fun _ => rfl
        have ef : ∀ g, a'.eval (.func g) = .func (.func g) #[] #[] := fun _ => rfl
        clear hd hs
        refine wpv (v := .slice (some ⟨w'.heap.size, 0, none⟩) 1 1) (w' := w'.alloc (.cells #[.int .i64 xf, .int .i64 xt, .int .i64 xp] 50)) ?_ ⟨_, rfl, Grow.alloc' _ _, ⟨_, _, rfl, OwnE.lit1 w' _ (show Grow w5 w' from hg).size ⟨xf, xt, xp⟩, trivial⟩⟩
        (generalize a'.eval = ev at ec ef e114 ⊢; simp [execOp, go_sem, *])
      · refine stepG_take rfl ?_
        intro a' w' hg hs hd hb
        obtain ⟨sa109, ca109, e109, h109, t109⟩ : AppE w5.heap.size m2 E (a'.eval (.tmp 109)) w' := hd ⟨5, Ground.data⟩ (by simp) rfl rfl
        obtain ⟨sb115, cb115, e115, h115, t115⟩ : AppE w5.heap.size 1 [⟨xf, xt, xp⟩] (a'.eval (.tmp 115)) w' := hd ⟨11, Ground.data⟩ (by simp) rfl rfl
        have ec : ∀ v, a'.eval (.const v) = v := fun _ => rfl
        have ef : ∀ g, a'.eval (.func g) = .func (.func g) #[] #[] := fun _ => rfl
        clear hd hs
        obtain ⟨s2, c2, w2, hrun, hown, hgr, hlie⟩ := run_apE hg 27 sa109 m2 ca109 E [⟨xf, xt, xp⟩] h109 sb115 1 cb115 h115.is (by omega)
        refine wpv (v := .slice s2 _ c2) (w' := w2) ?_ ⟨_, rfl, hgr.1, ⟨s2, c2, rfl, hown, hlie⟩, ?_, fun _ _ => trivial⟩
        rotate_left
        · intro j u hj h
          match j with
          | 0 => exact h
          | 1 => exact h
          | 2 => first | (cases hj; done) | exact LitE.turn hgr.2 (by decide) h
          | 3 => exact h
          | 4 => exact h
          | 5 => first | (cases hj; done) | exact AppE.turn hgr.2 (by decide) h
          | 6 => exact h
          | 7 => exact h
          | 8 => exact h
          | 9 => exact h
          | 10 => exact h
          | 11 => first | (cases hj; done) | exact AppE.turn hgr.2 (by decide) h
          | 12 => first | (cases hj; done) | exact AppE.turn hgr.2 (by decide) h
          | 13 => first | (cases hj; done) | exact GrIE.turn hgr.2 (by decide) h
          | 14 => first | (cases hj; done) | exact NewG.turn hgr.2 (by decide) h
          | j + 15 => exact trivial
        · unfold execOp; simp only [resolve, invoke, builtin, Sem.run_bind, Sem.run_pure, Result.andThen_ok, List.map_toArray, List.map_cons, List.map_nil, e109, e115, hrun]
      · refine stepG_run hGg hBg hstab rfl ?_
        intro a' w' hg hs hd hb
        have e105 : a'.eval (.tmp 105) = .slice (some ⟨bN, oN, none⟩) n2 gc := hd ⟨1, Ground.data⟩ (by simp) rfl rfl
        obtain ⟨sc116, cc116, e116, h116, t116⟩ : AppE w5.heap.size (m2 + 1) (E ++ [⟨xf, xt, xp⟩]) (a'.eval (.tmp 116)) w' := hd ⟨12, Ground.data⟩ (by simp) rfl rfl
        have ec : ∀ v, a'.eval (.const v) = v := fun _ => rfl
        have ef : ∀ g, a'.eval (.func g) = .func (.func g) #[] #[] := fun _ => rfl
        clear hd hs
        skip
        refine wpv (v := .agg #[.slice (some ⟨bN, oN, none⟩) n2 gc, .slice sc116 (m2 + 1) cc116]) ?_ ⟨_, rfl, Grow.rfl' _, ⟨_, _, rfl, h116⟩⟩
        (generalize a'.eval = ev at ec ef e105 e116 ⊢; simp [execOp, go_sem, *])
      · refine stepG_run hGg hBg hstab rfl ?_
        intro a' w' hg hs hd hb
        have ec : ∀ v, a'.eval (.const v) = v := fun _ => rfl
        have ef : ∀ g, a'.eval (.func g) = .func (.func g) #[] #[] := fun _ => rfl
        clear hd hs
        refine wpv (v := .pointer (some ⟨w'.heap.size, 0, none⟩)) (w' := w'.alloc (.cells #[.slice none 0 0, .slice none 0 0] 29)) ?_ ⟨_, rfl, Grow.alloc' _ _, ⟨_, rfl, BlkG.new w' _ _, (show Grow w5 w' from hg).size⟩⟩
        (generalize a'.eval = ev at ec ef ⊢; simp [execOp, go_sem, *])
    · intro a' w' hg hs hd
      obtain ⟨b10, e10, hk10, hb10⟩ : NewG w5.heap.size (a'.eval (.tmp 10)) w' := hd 14 (by omega) rfl
      obtain ⟨t117, q117, e117, he117⟩ : GrIE w5.heap.size (some ⟨bN, oN, none⟩) n2 gc (m2 + 1) (E ++ [⟨xf, xt, xp⟩]) (a'.eval (.tmp 117)) w' := hd 13 (by omega) rfl
      have ec : ∀ v, a'.eval (.const v) = v := fun _ => rfl
      have ef : ∀ g, a'.eval (.func g) = .func (.func g) #[] #[] := fun _ => rfl
      refine wp_store_gr _ _ rfl (g := ⟨some ⟨bN, oN, none⟩, n2, gc, t117, m2 + 1, q117, [], []⟩) e10 e117 hk10 w5 hg hb10 ?_
      intro w6 hg6 hbx6 hbk6 hoth6
      have z10 : a'.tmps.getD 10 undef = .pointer (some ⟨b10, 0, none⟩) := e10
      have C6 := hide (fun w' (h : Grow w6 w') (hh : m2 < 24) => graph_raw (some ⟨bN, oN, none⟩) n2 gc t117 (m2 + 1) q117 N (E ++ [⟨xf, xt, xp⟩]) w' (by omega) (by omega) (HN5.out.later (Grow.trans' hg6 h)) ((he117.keep fun a ha => hoth6 _ (he117.neG hk10 a ha)).later h).is (HT13.out hh))
      have G6 := hide (Grow.trans' Gc.out (Grow.trans' G5.out hg6))
      have BX10 := hide hbx6
      have BX96 := hide (BX9.out.later hg6)
      have KG6 := hide (KG5.out.later hg6)
      have C56 := hide (C5.out w6 hg6)
      obtain ⟨x0, x1⟩ := BX96.out
      dsimp only at x0 x1
      clear e10 e117 hk10 hb10 he117 ec ef hg HGG HBG HG0 HB0 hGg hBg hstab hg6 hbx6 hbk6 hoth6
      rw [frame_eq hs [false, false, false, false, false, false, false, false, false, false, true, false, false, false, false, false, false, false, false, false, false, false, false, false, false, false, false, false, false, false, false, false, false, false, false, false, false, false, false, false, false, false, false, false, false, false, false, false, false, false, false, false, false, false, false, false, false, false, false, false, false, false, false, false, false, false, false, false, false, false, false, false, false, false, false, false, false, false, false, false, false, false, false, false, false, false, false, false, false, false, false, false, false, false, false, false, false, false, false, false, false, false, false, false, true, true, true, true, true, true, true, true, true, true, true, true, true, true, false, false, false, false, false, false, false, false, false, false, false, false, false, false, false, false, false] (by kernel_rfl)]; simp only [mergeL, z10]; clear hs hd z10; generalize a'.tmps = TT at *; try go_frame
      go_wp2_with fail
      refine C56.out.mono ?_
      rintro _ w7 ⟨rfl, hb⟩
      have G7 := hide (Grow.trans' G6.out hb)
      obtain ⟨y0, y1⟩ := BX10.out.later hb
      obtain ⟨k0, k1⟩ := KG6.out.later hb
      dsimp only at y0 y1 k0 k1
      by_cases d24 : m2 < 24
      · have d24' : ¬ (24 : Int) ≤ (m2 : Int) := by omega
        have C7 := hide (C6.out w7 hb d24)
        clear hb x0 x1 C6 C5 C56
        go_wp2_with fail
        refine C7.out.mono ?_
        rintro _ w8 ⟨rfl, hb⟩
        have G8 := hide (Grow.trans' G7.out hb)
        clear hb y0 y1 k0 k1
        go_wp2_with fail
        go_ret
        exact ⟨rfl, G8.out⟩
      · have d24' : (24 : Int) ≤ (m2 : Int) := by omega
        clear hb x0 x1 C6 C5 C56
        go_wp2_with fail
        go_ret
        exact ⟨rfl, G7.out⟩
theorem ValidMore_any (g : GA) (node edge : Int) (w : World) (hg : IsG w g) :
    Calls Try.prog 6 #[.agg #[.slice g.s g.n g.c, .slice g.t g.m g.q], .int .i64 node, .int .i64 edge] w fun r w' => r = .returned (.bool true) ∧ Grow w w' :=
  more_raw g.s g.n g.c g.t g.m g.q g.N g.E node edge w hg.nodes hg.edges

set_option maxRecDepth 100000 in
theorem ValidMore_lifted (os : Os) (started : os.Started) (H : Type) (enc : TypeId × Value → H) :
    ReturnsInHanded {} Try.checked os 6 .any (Rows.validMoreSpec.pre6 enc Try.prog Try.f6 Rows.validMoreRow.domain false) (Rows.validMoreSpec.post enc Try.prog Try.f6 false true false false) := by
  refine returnsInHanded_of_change (C := Try.checked) own started (by kernel_rfl) Try.func6
    (ChangeSpec.witness6 (enc := enc) (C := Try.checked) false ⟨#[], #[.agg #[.slice none 0 0, .slice none 0 0], .int .i64 0, .int .i64 0], []⟩ 8 (by kernel_rfl) (by kernel_rfl) (by kernel_rfl) (by kernel_rfl)) ?_
  intro W base args ds gs before hval0 hW hcnd _
  have hval : ∀ (j : Nat) t v, Try.f6.params[j]? = some t → args[j]? = some v → Value.okWide Try.prog W .any base t v := hval0
  have hW' := hW
  obtain ⟨p, q, hA0, hV, rfl, hfz, hnd⟩ := hW
  have hA : DataW.TrodAll enc Try.prog W 0 (fun _ => true) true Try.f6.params.toList args.toList ds p := hA0
  rw [Try.params6] at hA hval
  obtain ⟨v0, vs0, d0, ds0, p0, q0, hargs, rfl, rfl, h0, r0⟩ := trodAll_cons hA
  obtain ⟨v1, vs1, d1, ds1, p1, q1, rfl, rfl, rfl, h1, r1⟩ := trodAll_cons r0
  obtain ⟨v2, vs2, d2, ds2, p2, q2, rfl, rfl, rfl, h2, r2⟩ := trodAll_cons r1
  obtain ⟨rfl, rfl, rfl⟩ := trodAll_nil r2
  obtain rfl : args = #[v0, v1, v2] := by cases args; simp_all
  obtain ⟨rfl, rfl⟩ := trodVars_none hV
  have k0 := h0
  have lt0 : ∀ x ∈ p0, x.block < W.heap.size := by obtain ⟨m, hm⟩ := k0; exact DataW.trod_lt m _ _ _ hm
  obtain ⟨t0, rfl, w0⟩ := open_gr (hval 0 29 v0 rfl rfl) h0
  obtain ⟨a1, rfl, rfl, rfl, w1⟩ := open_int Try.underlying3 (hval 1 3 v1 rfl rfl) h1
  obtain ⟨a2, rfl, rfl, rfl, w2⟩ := open_int Try.underlying3 (hval 2 3 v2 rfl rfl) h2
  clear hA0 hval0
  refine (ValidMore_any t0 a1 a2 W w0).mono fun e W' ⟨he, bel⟩ => ?_
  subst he
  exact ⟨_, rfl, _, _, _, [], _, [], hW', trodAll_mk1 (shut_bool Try.underlying4 _), (trodAll_cons_mk (Below.trod laidOut (by kernel_rfl) (of_decide_eq_true (by kernel_rfl)) k0 bel lt0) (trodAll_cons_mk (shut_int Try.underlying3 w1) (trodAll_cons_mk (shut_int Try.underlying3 w2) trodAll_mk0))), rfl, bel.frame _, fun h => by cases h⟩

/-- The given statement. -/
theorem ValidMore_holds : Rows.ValidMoreSaid :=
  OpenClaim.holds_of_wide 6 Try.f6 rfl rfl rfl rfl rfl rfl rfl ⟨rfl, rfl, rfl, rfl, rfl⟩ rfl rfl rfl rfl rfl (by kernel_rfl) Try.func6 (by kernel_rfl)
    (of_decide_eq_true (by kernel_rfl)) (by unfold Func.isWrapper; first | (rw [if_pos (by decide +kernel)]; kernel_rfl) | (rw [if_neg (by decide +kernel)]; exact ⟨rfl, rfl⟩))
    (fun os started H enc _ => ValidMore_lifted os started H enc)


end Go.Proofs.Ytdgmfjaldicmgaa
