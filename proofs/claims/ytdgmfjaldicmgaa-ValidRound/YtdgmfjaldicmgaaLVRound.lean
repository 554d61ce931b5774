/-
  ValidRound: for every graph (its first 14 nodes and 26 edges) that is accepted, every number of a node and every row of choices (30 at most): of a walk along edges each step is one that may be done, and a walk back to its beginning does something that is not at most nothing; the call returns true and leaves its arguments as they were. No conditions.
-/
import Derived.Test.YtdgmfjaldicmgaaVMk
import Derived.Test.YtdgmfjaldicmgaaVTl
import Derived.Test.YtdgmfjaldicmgaaHInn
import Derived.Deep.RegionHeld3
namespace Go.Proofs.Ytdgmfjaldicmgaa
set_option maxRecDepth 100000
open Go.ChangeShapes Go.WideShapes Go.ChangeAt Go.RowKit Go.Deep Go.Sort
set_option linter.unusedVariables false
set_option linter.unusedSimpArgs false
attribute [local go_sem] growR growA growD

theorem cutP {P Q : Prop} (h : P) (k : P → Q) : Q := k h
theorem world_of {W X : World} (h : Grow W X) : ∃ Y, Y = X := ⟨X, rfl⟩
theorem growS {a w : World} (b o : Nat) (v : Value) (h : Below a.heap.size a w) (hp : a.heap.size ≤ b) : Below a.heap.size a (w.setCell ⟨b, o, none⟩ v) := h.setCell hp v
set_option maxHeartbeats 40000000 in
theorem vround_1 (gs : Option Addr) (gn gc : Nat) (gt : Option Addr) (gm gq : Nat) (N0 : List Nd) (E0 : List Ed) (frm : Int) (sl : Option Addr) (ll cl : Nat) (zl : Nat → Int) (w : World) (hN : IsNds w gs gn gc N0) (hE : IsEds w gt gm gq E0) (hL : IsInts w sl ll cl zl) (hsg : Int.tmod frm ((cutN 14 gn : Nat) : Int) < 0) :
    Calls Try.prog 5 #[.agg #[.slice gs gn gc, .slice gt gm gq], .int .i64 frm, .slice sl ll cl] w fun r w' => r = .returned (.bool true) ∧ Grow w w' := by
  have HN0 := hide (hN.cut 14)
  have HE0 := hide (hE.cut 26)
  have CF := hide (fun w => few_raw gs gn gc gt gm gq w hN.2.1 hE.2.1)
  have hn2' := cutN_le 14 gn
  have hm2' := cutN_le 26 gm
  obtain ⟨n2, hn2⟩ : ∃ n2, cutN 14 gn = n2 := ⟨_, rfl⟩
  obtain ⟨m2, hm2⟩ : ∃ m2, cutN 26 gm = m2 := ⟨_, rfl⟩
  obtain ⟨N, hNN⟩ : ∃ N, N0.take 14 = N := ⟨_, rfl⟩
  obtain ⟨E, hEE⟩ : ∃ E, E0.take 26 = E := ⟨_, rfl⟩
  rw [hn2] at HN0 CF hn2' hsg
  rw [hm2] at HE0 CF hm2'
  rw [hNN] at HN0
  rw [hEE] at HE0
  clear hN hE hn2 hm2 hNN hEE
  have hn3 : n2 ≤ 14 := by omega
  have hm3 : m2 ≤ 26 := by omega
  have GG : Hid (Grow w (w.alloc (.cells #[.slice gs gn gc, .slice gt gm gq] 29))) := hide (Grow.alloc' _ _)
  have KG : Hid (BoxG (w.alloc (.cells #[.slice gs gn gc, .slice gt gm gq] 29)) w.heap.size ⟨gs, gn, gc, gt, gm, gq, [], []⟩) := hide (BoxG.new w ⟨gs, gn, gc, gt, gm, gq, [], []⟩)
  have KB : Hid (BlkG (w.alloc (.cells #[.slice gs gn gc, .slice gt gm gq] 29)) w.heap.size) := hide (BlkG.new w _ _)
  clear hn2' hm2'
  go_enter Try.func5, Try.ntmps5
  go_wp2_with fail
  generalize (w.alloc (.cells #[.slice gs gn gc, .slice gt gm gq] 29)) = w0 at *
  refine (shown_any _).mono ?_
  rintro _ w1 ⟨rfl, hb⟩
  have G1 := hide (Grow.trans' GG.out hb)
  have KB1 := hide (KB.out.later hb)
  obtain ⟨g0, g1⟩ := KG.out.later hb
  dsimp only at g0 g1
  clear hb KG KB GG
  go_wp2_with fail
  refine (CF.out _).mono ?_
  rintro _ w2 ⟨rfl, hb⟩
  have G2 := hide (Grow.trans' G1.out hb)
  have KB2 := hide (KB1.out.later hb)
  clear hb KB1 G1 g0 g1 CF
  go_wp2_with (refine wpList_putG rfl _ _ rfl w.heap.size ⟨gs, n2, gc, gt, m2, gq, [], []⟩ rfl rfl KB2.out w G2.out (Nat.le_refl _) ?_)
  intro w3 hg3 hb3 hoth hsame
  have G3 := hide hg3
  have HN := hide (HN0.out.later hg3)
  have HE := hide (HE0.out.later hg3)
  obtain ⟨g0, g1⟩ := hb3
  dsimp only at g0 g1
  have HEW := HE0
  have HNW := HN0
  clear hg3 hoth hsame KB2 G2 HN0 HE0
  generalize w.heap.size = P at *
  obtain ⟨e, he⟩ : ∃ e, errG N E = e := ⟨_, rfl⟩
  have C1 := hide (graph_raw gs n2 gc gt m2 gq N E w3 (by omega) (by omega) HN.out HE.out he)
  have KG3 : Hid (BoxG w3 P ⟨gs, n2, gc, gt, m2, gq, [], []⟩) := hide ⟨g0, g1⟩
  have HEr := hide he
  have HSG := hide hsg
  have HLL := hide hL
  clear he hsg hL
  go_wp2_with fail
  refine C1.out.mono ?_
  rintro _ w4 ⟨rfl, hb⟩
  have G4 := hide (Grow.trans' G3.out hb)
  have G34 := hide hb
  have KG4 := hide (KG3.out.later hb)
  obtain ⟨h0, h1⟩ := KG3.out.later hb
  dsimp only at h0 h1
  clear hb g0 g1 C1 KG3
  by_cases he0 : e = 0
  rotate_left
  · have he1 : (e != 0) = true := by simpa using he0
    have he2 : (e == 0) = false := by simpa using he0
    go_wp2_with fail
    go_ret
    exact ⟨rfl, G4.out⟩
  subst he0
  have ACC := hide (errG_zero.1 HEr.out)
  have AC := hide ACC.out.acc
  have hnpos : 0 < n2 := by
    have := ACC.out.big.1
    rw [HN.out.1] at this
    omega
  have htl := tmod_lt (x := frm) hnpos
  have hsg := HSG.out
  obtain ⟨tm, htm⟩ : ∃ tm, Int.tmod frm (n2 : Int) = tm := ⟨_, rfl⟩
  rw [htm] at htl hsg
  obtain ⟨v, rfl⟩ : ∃ v : Nat, tm = -(v : Int) := ⟨(-tm).toNat, by omega⟩
  have hv0 : 0 < v := by omega
  have hwn : IntKind.i64.wrap (v : Int) = (v : Int) := IntWalk.i64_in _ ⟨by omega, by omega⟩
  have hvn : v < n2 := by omega
  have hvN : v < N.length := by rw [HN.out.1]; exact hvn
  have hneN : ¬ N = [] := fun h => by rw [h] at hvN; simp at hvN
  obtain ⟨bN, oN, rfl, hr2⟩ := HN.out.2.2.resolve_left hneN
  have HRN := hide hr2
  have HRW : Hid (RowN w bN oN N) := hide (by
    obtain ⟨b', o', he', hrw⟩ := HNW.out.2.2.resolve_left hneN
    have hbo : bN = b' ∧ oN = o' := by simpa using he'
    obtain ⟨rfl, rfl⟩ := hbo
    exact hrw)
  have HVN := hide hvN
  obtain ⟨p0, p1, p2, p3⟩ := (hr2.later (show Grow w3 w4 from G34.out)).at v hvN
  rw [← nth_get N v hvN] at p0 p1 p2 p3
  obtain ⟨dv, hdv⟩ : ∃ dv, dv = (nth N v).d := ⟨_, rfl⟩
  have HDV := hide hdv
  rw [← hdv] at p3
  have hfv := AC.out.fit v hvN
  have hdv3 : 0 ≤ dv ∧ dv ≤ 3 := by rw [hdv]; exact ⟨hfv.lo, hfv.hi⟩
  have CS := hide (fun w => refSame_any dv w)
  have h0n : ¬ (n2 : Int) = 0 := by omega
  have hv1 : (0 : Int) ≤ (v : Int) := by omega
  have hv2 : (v : Int) < (n2 : Int) := by omega
  clear hneN hr2 hvN hdv hfv htl hsg p0 p1 p2
  go_wp2_with fail
  refine (CS.out _).mono ?_
  rintro _ w5 ⟨rfl, hb⟩
  have G5 := hide (Grow.trans' G4.out hb)
  have KG5 := hide (KG4.out.later hb)
  have BA := hide (BlkS.new w5)
  have SV : Hid (sameS dv = ⟨dv, dv, dv, 0, 0, 0, 0⟩) := hide (sameS_fit hdv3).1
  clear hb h0 h1 p3 CS
  go_wp2_with (refine wpList_putS2 rfl _ _ rfl w5.heap.size (sameS dv) rfl rfl BA.out w5 (Grow.alloc' _ _) (Nat.le_refl _) ?_)
  intro w6 hg6 hb6 hk6 hoth6
  have G6 := hide (Grow.trans' G5.out hg6)
  have KG6 := hide (KG5.out.later hg6)
  have BS6 := hide hb6
  have BK6 := hide hk6
  obtain ⟨SB, hSB⟩ : ∃ SB, SB = w5.heap.size := ⟨_, rfl⟩
  have HSB : Hid (w.heap.size ≤ SB) := hide (by rw [hSB]; exact G5.out.size)
  have HPS : Hid (P ≠ SB) := hide (by
    have := KG5.out.lt
    rw [hSB]
    omega)
  rw [← hSB] at BS6 BK6
  rw [← hSB]
  clear hg6 hb6 hk6 hoth6 hSB BA KG5 G5 G4 KG4
  have HVN2 := HVN
  go_wp2_with fail
  go_loopw [9, 11] (fun v9 v11 wr => ∃ (i a : Nat) (s : Sm) (L : List Nat), i ≤ ll ∧ i ≤ 30 ∧ v9 = .int .i64 (a : Int) ∧ v11 = .int .i64 (i : Int) ∧ Grow w wr ∧ BoxG wr P ⟨some ⟨bN, oN, none⟩, n2, gc, gt, m2, gq, [], []⟩ ∧ BlkS wr SB ∧ BoxS wr SB s ∧ Wk N E v a s L ∧ L.length = i) (fun _ v11 _ => 30 - (intOf v11).toNat)
  case atStart => exact ⟨0, v, sameS dv, [], Nat.zero_le _, by omega, rfl, rfl, G6.out, KG6.out, BK6.out, BS6.out, by rw [HDV.out]; exact Wk.start, rfl⟩
  case round =>
    obtain ⟨i, a, s, L, hi, hi30, rfl, rfl, hg, hbg, hbk, hbs, hwk, hLi⟩ := hrel
    have GR := hide hg
    have BG := hide hbg
    have BK := hide hbk
    have BS := hide hbs
    have WK := hide hwk
    have HLi := hide hLi
    clear hbk hbs hwk hLi
    by_cases c1 : i < ll
    rotate_left
    · have c1' : ¬ (i : Int) < (ll : Int) := by omega
      clear hg hbg
      go_wp2_with fail
      go_ret
      exact ⟨rfl, GR.out⟩
    by_cases c2 : i < 30
    rotate_left
    · have c1' : (i : Int) < (ll : Int) := by omega
      have c2' : ¬ (i : Int) < 30 := by omega
      clear hg hbg
      go_wp2_with fail
      go_ret
      exact ⟨rfl, GR.out⟩
    have c1' : (i : Int) < (ll : Int) := by omega
    have c2' : (i : Int) < 30 := by omega
    have haN := (WK.out.good AC.out HVN.out).1
    have C1 := hide (next_raw (some ⟨bN, oN, none⟩) n2 gc gt m2 gq E a wr (by omega) (HEW.out.later hg))
    obtain ⟨g0, g1⟩ := hbg
    dsimp only at g0 g1
    obtain ⟨D, hD⟩ : ∃ D, D = nextP E a := ⟨_, rfl⟩
    have HD := hide hD
    rw [← hD] at C1
    have hD40 : D.length ≤ 40 := by
      have h1 := nextP_len E a
      rw [← hD, HE.out.1] at h1
      omega
    clear hD hg
    go_wp2_with fail
    refine C1.out.mono ?_
    rintro _ w6 ⟨s6, m6, c6, rfl, hb, hO⟩
    have G6' := hide (Grow.trans' GR.out hb)
    have BG6 := hide (BG.out.later hb)
    have BK6' := hide (BK.out.later hb)
    have BS6' := hide (BS.out.later hb)
    have OD := hide hO.is
    have hDm : D.length = m6 := hO.1
    have HDm := hide hDm
    have hm640 : m6 ≤ 40 := by omega
    clear hb hO g0 g1 C1 hDm hD40 GR BG BK BS
    by_cases hm0 : m6 = 0
    · subst hm0
      go_wp2_with fail
      go_ret
      exact ⟨rfl, G6'.out⟩
    obtain ⟨bl, ol, hsl, hcl⟩ := HLL.out.2.resolve_left (by omega)
    subst hsl
    have l0 := cell_later G6'.out (hcl i c1)
    have hmp : 0 < m6 := by omega
    have hm1 : ¬ (m6 : Int) = 0 := by omega
    have htl := tmod_lt (x := zl i) hmp
    obtain ⟨tm, htm⟩ : ∃ tm, Int.tmod (zl i) (m6 : Int) = tm := ⟨_, rfl⟩
    rw [htm] at htl
    have hii : (0 : Int) ≤ (i : Int) := by omega
    have hkk : ∃ kk : Nat, kk < m6 ∧ ((0 < kk ∧ tm = -(kk : Int)) ∨ tm = (kk : Int)) := by
      by_cases h : tm < 0
      · exact ⟨(-tm).toNat, by omega, .inl ⟨by omega, by omega⟩⟩
      · exact ⟨tm.toNat, by omega, .inr (by omega)⟩
    obtain ⟨kk, hkm, hks⟩ := hkk
    have hkD : kk < D.length := by rw [HDm.out]; exact hkm
    have hneD : ¬ D = [] := fun h => by rw [h] at hkD; simp at hkD
    obtain ⟨bD, oD, rfl, hrD⟩ := OD.out.2.2.resolve_left hneD
    obtain ⟨d0, d1⟩ := hrD.at kk hkD
    obtain ⟨x, hx⟩ : ∃ x, x = D[kk] := ⟨_, rfl⟩
    rw [← hx] at d0 d1
    obtain ⟨e, heE, hef, hex⟩ := next_mem.1 (show x ∈ nextP E a by rw [← HD.out, hx]; exact List.getElem_mem _)
    have hin := AC.out.inN e heE
    obtain ⟨b, hbt⟩ : ∃ b : Nat, e.t = (b : Int) := ⟨e.t.toNat, by omega⟩
    have hxn : x.n = (b : Int) := by rw [hex, ← hbt]
    have hbN : b < N.length := by omega
    rw [hxn] at d0
    have HEE : Hid (e ∈ E ∧ e.f = a ∧ e.t = (b : Int)) := hide ⟨heE, hef, hbt⟩
    obtain ⟨n0, n1, n3, n4⟩ := (HRW.out.later G6'.out).at b hbN
    rw [← nth_get N b hbN] at n0 n1 n3 n4
    obtain ⟨y, hy⟩ : ∃ y, y = nth N b := ⟨_, rfl⟩
    have HY := hide hy
    rw [← hy] at n0 n1 n3 n4
    obtain ⟨nk, na, nb, nd⟩ := y
    dsimp only at n0 n1 n3 n4
    have hk1 : (0 : Int) ≤ (kk : Int) := by omega
    have hk2 : (kk : Int) < (m6 : Int) := by omega
    have hb1 : (0 : Int) ≤ (b : Int) := by omega
    have hb2 : (b : Int) < (n2 : Int) := by rw [HN.out.1] at hbN; omega
    obtain ⟨q, hq⟩ : ∃ q, hasP nk = q := ⟨_, rfl⟩
    have C2 := hide (fun w => has_at nk hq w)
    have HQ := hide hq
    have HBN := hide hbN
    clear htl hneD hrD hx heE hef hex hin hbt hxn hbN hy hq d1 hcl hkD
    rcases hks with ⟨hkp, rfl⟩ | rfl
    · have hwk2 : IntKind.i64.wrap (kk : Int) = (kk : Int) := IntWalk.i64_in _ ⟨by omega, by omega⟩
      obtain ⟨g0, g1⟩ := BG6.out
      dsimp only at g0 g1
      go_wp2_with fail
      refine (C2.out _).mono ?_
      rintro _ w7 ⟨rfl, hw7⟩
      obtain rfl : w6 = w7 := hw7.symm
      cases q
      · go_wp2_with fail
        go_ret
        exact ⟨rfl, G6'.out⟩
      · have HB0 : nth N (b : Int).toNat = ⟨nk, na, nb, nd⟩ := by rw [show (b : Int).toNat = b by omega]; exact HY.out.symm
        have hmid := ACC.out.mid HEE.out.1 (by rw [HEE.out.2.2, HB0]; exact HQ.out)
        rw [HEE.out.2.2, HB0] at hmid
        have hmay := WK.out.may AC.out HVN.out (by rw [HLi.out]; omega) HEE.out.1 HEE.out.2.1 HEE.out.2.2 (by rw [← HY.out]; exact hmid.1) (by rw [← HY.out]; exact hmid.2)
        have hstep := Wk.step a s L _ b WK.out HEE.out.1 HEE.out.2.1 HEE.out.2.2 (by rw [← HY.out]; exact hmid.1) (by rw [← HY.out]; exact hmid.2)
        rw [← HY.out] at hmay hstep
        obtain ⟨ip, hip⟩ : ∃ ip, innP ⟨nk, na, nb, nd⟩ = ip := ⟨_, rfl⟩
        have CI := hide (fun w => inn_any nk na nb nd w)
        rw [hip] at hmay hstep CI
        obtain ⟨y1, y2, y3, y4⟩ := thenE_zero hmay.1
        have CT := hide (fun w => refThenY s ip y1 y2 y3 y4 w)
        obtain ⟨rs, hrs⟩ : ∃ rs, rawS s ip = rs := ⟨_, rfl⟩
        rw [hrs] at CT hstep y4
        have hgood := (hstep.good AC.out HVN.out).2
        obtain ⟨q2, hq2⟩ : ∃ q2, leS rs (sameS dv) = q2 := ⟨_, rfl⟩
        have CL := hide (fun w => refLe_same rs dv hdv3 y4 (by rw [hgood.f, HDV.out]) hgood.ep hq2 w)
        have HBK : Hid (b = v → q2 = false) := hide (fun h => by
          have h1 := hstep
          rw [h] at h1
          have h2 := h1.back AC.out HVN.out (by simp)
          rw [← hq2, HDV.out]
          exact h2)
        have WK2 := hide hstep
        have HG0 := hide (fun w' (h : Grow w6 w') => (BG6.out.later h).1)
        have HG1 := hide (fun w' (h : Grow w6 w') => (BG6.out.later h).2)
        dsimp only at HG0 HG1
        have HN0 := hide (fun w' (h : Grow w6 w') => cell_later h n0)
        have HN1 := hide (fun w' (h : Grow w6 w') => cell_later h n1)
        have HN2 := hide (fun w' (h : Grow w6 w') => cell_later h n3)
        have HN3 := hide (fun w' (h : Grow w6 w') => cell_later h n4)
        have KS := BS6'.out
        have G := G6'
        clear HB0 hmid hmay hstep hip y1 y2 y3 y4 hrs hgood hq2 HQ n0 n1 n3 n4 l0 d0 g0 g1 C2 OD
        have HS : Hid (BoxS w6 (SB) s) := hide KS
        clear KS
        have HH : ∀ w', Grow w6 w' → (fun w' => Grow w6 w' ∧ w'.cell? ⟨SB, 0, none⟩ = some (.int .i64 s.f) ∧ w'.cell? ⟨SB, 1, none⟩ = some (.int .i64 s.t) ∧ w'.cell? ⟨SB, 2, none⟩ = some (.int .i64 s.k) ∧ w'.cell? ⟨SB, 3, none⟩ = some (.int .i64 s.ep) ∧ w'.cell? ⟨SB, 4, none⟩ = some (.int .i64 s.x) ∧ w'.cell? ⟨SB, 5, none⟩ = some (.int .i64 s.y) ∧ w'.cell? ⟨SB, 6, none⟩ = some (.int .i64 s.z) ∧ w'.cell? ⟨P, 0, none⟩ = some (.slice (some ⟨bN, oN, none⟩) n2 gc) ∧ w'.cell? ⟨bN, oN + b * 4, none⟩ = some (.int .i64 nk) ∧ w'.cell? ⟨bN, oN + b * 4 + 1, none⟩ = some (.int .i64 na) ∧ w'.cell? ⟨bN, oN + b * 4 + 2, none⟩ = some (.int .i64 nb) ∧ w'.cell? ⟨bN, oN + b * 4 + 3, none⟩ = some (.int .i64 nd)) w' := fun w' hq => by
          obtain ⟨qS0, qS1, qS2, qS3, qS4, qS5, qS6⟩ := HS.out.later hq
          exact ⟨hq, qS0, qS1, qS2, qS3, qS4, qS5, qS6, HG0.out _ hq, HN0.out _ hq, HN1.out _ hq, HN2.out _ hq, HN3.out _ hq⟩
        have HK := hide HH
        clear HH
        go_wp2_with fail
        go_region_held3 (fun w' => Grow w6 w' ∧ w'.cell? ⟨SB, 0, none⟩ = some (.int .i64 s.f) ∧ w'.cell? ⟨SB, 1, none⟩ = some (.int .i64 s.t) ∧ w'.cell? ⟨SB, 2, none⟩ = some (.int .i64 s.k) ∧ w'.cell? ⟨SB, 3, none⟩ = some (.int .i64 s.ep) ∧ w'.cell? ⟨SB, 4, none⟩ = some (.int .i64 s.x) ∧ w'.cell? ⟨SB, 5, none⟩ = some (.int .i64 s.y) ∧ w'.cell? ⟨SB, 6, none⟩ = some (.int .i64 s.z) ∧ w'.cell? ⟨P, 0, none⟩ = some (.slice (some ⟨bN, oN, none⟩) n2 gc) ∧ w'.cell? ⟨bN, oN + b * 4, none⟩ = some (.int .i64 nk) ∧ w'.cell? ⟨bN, oN + b * 4 + 1, none⟩ = some (.int .i64 na) ∧ w'.cell? ⟨bN, oN + b * 4 + 2, none⟩ = some (.int .i64 nb) ∧ w'.cell? ⟨bN, oN + b * 4 + 3, none⟩ = some (.int .i64 nd)) (first | (refine HK.out _ ?_; simp (maxDischargeDepth := 30) only [growR, growA, growD]; done) | (with_reducible exact HK.out _ gu00) | (refine HK.out _ ?_; simp (maxDischargeDepth := 30) [growA, gu00]; done) | (with_reducible exact HK.out _ gu01) | (refine HK.out _ ?_; simp (maxDischargeDepth := 30) [growA, growS, zu00, gu01]; done)) (first | (go_at_call 19; refine (CI.out _).mono ?_; rintro e u00 ⟨rfl, hbu00⟩; have gu00 : Below w6.heap.size w6 u00 := Grow.trans' (‹Grow w6 _ ∧ _›).1 hbu00; have zu00 := gu00.size; have yu00 := hbu00.size; (try simp at yu00); (try (refine (fun v000 : w6.heap.size < u00.heap.size => ?_) ?_; rotate_left; focus omega)); obtain ⟨hcu00, hfu00⟩ := bcell hbu00) | (go_at_call 18; refine (CT.out _).mono ?_; rintro e u01 ⟨rfl, hbu01⟩; have gu01 : Below w6.heap.size w6 u01 := Grow.trans' (‹Grow w6 _ ∧ _›).1 hbu01; have zu01 := gu01.size; have yu01 := hbu01.size; (try simp at yu01); (try (refine (fun v010 : w6.heap.size < u01.heap.size => ?_) ?_; rotate_left; focus omega)); (try (refine (fun v011 : u00.heap.size < u01.heap.size => ?_) ?_; rotate_left; focus omega)); obtain ⟨hcu01, hfu01⟩ := bcell hbu01))
        all_goals
          obtain ⟨X0, hX⟩ := world_of (‹Grow w6 _ ∧ _›).1
          have HGW := (‹Grow w6 _ ∧ _›).1
          rw [← hX] at HGW ⊢
          first
            | (refine cutP (P := BoxS X0 u01.heap.size (rs)) ?_ ?_; (focus (rw [hX]; simp (maxDischargeDepth := 30) [BoxS, go_sem, *]; done)); intro KX; obtain ⟨bX, hbl⟩ : ∃ b, b = u01.heap.size := ⟨_, rfl⟩; rw [← hbl] at KX ⊢; clear hbl)
            | (refine cutP (P := BoxS X0 u00.heap.size (rs)) ?_ ?_; (focus (rw [hX]; simp (maxDischargeDepth := 30) [BoxS, go_sem, *]; done)); intro KX; obtain ⟨bX, hbl⟩ : ∃ b, b = u00.heap.size := ⟨_, rfl⟩; rw [← hbl] at KX ⊢; clear hbl)
            | (refine cutP (P := BoxS X0 w6.heap.size (rs)) ?_ ?_; (focus (rw [hX]; simp (maxDischargeDepth := 30) [BoxS, go_sem, *]; done)); intro KX; obtain ⟨bX, hbl⟩ : ∃ b, b = w6.heap.size := ⟨_, rfl⟩; rw [← hbl] at KX ⊢; clear hbl)
          have KS : BoxS X0 (SB) s := HS.out.later HGW
          have G : Hid (Grow w X0) := hide (Grow.trans' G.out HGW)
          have HGX := hide HGW
          clear hX HGW HK
          clear hcu00 hfu00 hbu00 gu00 zu00 yu00
          clear hcu01 hfu01 hbu01 gu01 zu01 yu01
          have BGX := hide (BG6.out.later HGX.out)
          have BKX := hide (BK6'.out.later HGX.out)
          obtain ⟨x0, x1, x2, x3, x4, x5, x6⟩ := KX
          clear KS BS6' BG6 BK6' G6'
          go_wp2_with (refine wpList_putS2 rfl _ _ rfl SB rs rfl rfl BKX.out w G.out HSB.out ?_)
          intro w8 hg8 hb8 hk8 hoth8
          have G8 := hide hg8
          have BS8 := hide hb8
          have BK8 := hide hk8
          have BG8 := hide (BGX.out.keep (hoth8 P HPS.out))
          obtain ⟨b0, b1, b2, b3, b4, b5, b6⟩ := hb8
          obtain ⟨g0, g1⟩ := BG8.out
          dsimp only at g0 g1
          obtain ⟨e0, e1, e2, e3⟩ := (HRW.out.later hg8).at v HVN.out
          rw [← nth_get N v HVN.out, ← HDV.out] at e3
          clear hg8 hk8 hoth8 x0 x1 x2 x3 x4 x5 x6 BGX BKX G e0 e1 e2
          go_wp2_with fail
          have t0 := cell_regrown b0
          have t1 := cell_regrown b1
          have t2 := cell_regrown b2
          have t3 := cell_regrown b3
          have t4 := cell_regrown b4
          have t5 := cell_regrown b5
          have t6 := cell_regrown b6
          have t7 := cell_regrown g0
          have t8 := cell_regrown e3
          have Q1 := hide (fun dd os => Calls.regrown_of (refSame_any dv (grow (redrawn w8 dd) os)))
          have Q2 := hide (fun dd os => Calls.regrown_of (CL.out (grow (redrawn w8 dd) os)))
          refine wp_region_quiet_below (by kernel_rfl) (by kernel_rfl) ?_
          repeat (go_big_quiet_step (first | (go_at_call 15; exact Q1.out _ _) | (go_at_call 20; exact Q2.out _ _)))
          refine wpQuiet_nil ?_
          intro _ hw'
          obtain ⟨⟨dq, osq⟩, hw''⟩ := hw'
          subst hw''
          have G9 := hide (Grow.trans' G8.out (below_regrown w8 dq osq))
          have BG9 := hide (BG8.out.later (below_regrown w8 dq osq))
          have BK9 := hide (BK8.out.later (below_regrown w8 dq osq))
          have BS9 := hide (BS8.out.later (below_regrown w8 dq osq))
          clear t0 t1 t2 t3 t4 t5 t6 t7 t8 b0 b1 b2 b3 b4 b5 b6 g0 g1 e3 Q1 Q2 G8 BG8 BK8 BS8
          generalize grow (redrawn w8 dq) osq = w9 at *
          by_cases hbv : b = v
          · have hq3 := HBK.out hbv
            have hbi : ((b : Int) == (v : Int)) = true := by rw [hbv]; simp
            subst hq3
            clear hbv
            go_wp2_with fail
            go_roundw
            case rel => exact ⟨i + 1, b, rs, b :: L, by omega, by omega, rfl, by go_num, G9.out, BG9.out, BK9.out, BS9.out, WK2.out, by rw [List.length_cons, HLi.out]⟩
            case measure => simp [intOf]; omega
          · have hbi : ((b : Int) == (v : Int)) = false := by simp; omega
            go_wp2_with fail
            go_roundw
            case rel => exact ⟨i + 1, b, rs, b :: L, by omega, by omega, rfl, by go_num, G9.out, BG9.out, BK9.out, BS9.out, WK2.out, by rw [List.length_cons, HLi.out]⟩
            case measure => simp [intOf]; omega
    · skip
      obtain ⟨g0, g1⟩ := BG6.out
      dsimp only at g0 g1
      go_wp2_with fail
      refine (C2.out _).mono ?_
      rintro _ w7 ⟨rfl, hw7⟩
      obtain rfl : w6 = w7 := hw7.symm
      cases q
      · go_wp2_with fail
        go_ret
        exact ⟨rfl, G6'.out⟩
      · have HB0 : nth N (b : Int).toNat = ⟨nk, na, nb, nd⟩ := by rw [show (b : Int).toNat = b by omega]; exact HY.out.symm
        have hmid := ACC.out.mid HEE.out.1 (by rw [HEE.out.2.2, HB0]; exact HQ.out)
        rw [HEE.out.2.2, HB0] at hmid
        have hmay := WK.out.may AC.out HVN.out (by rw [HLi.out]; omega) HEE.out.1 HEE.out.2.1 HEE.out.2.2 (by rw [← HY.out]; exact hmid.1) (by rw [← HY.out]; exact hmid.2)
        have hstep := Wk.step a s L _ b WK.out HEE.out.1 HEE.out.2.1 HEE.out.2.2 (by rw [← HY.out]; exact hmid.1) (by rw [← HY.out]; exact hmid.2)
        rw [← HY.out] at hmay hstep
        obtain ⟨ip, hip⟩ : ∃ ip, innP ⟨nk, na, nb, nd⟩ = ip := ⟨_, rfl⟩
        have CI := hide (fun w => inn_any nk na nb nd w)
        rw [hip] at hmay hstep CI
        obtain ⟨y1, y2, y3, y4⟩ := thenE_zero hmay.1
        have CT := hide (fun w => refThenY s ip y1 y2 y3 y4 w)
        obtain ⟨rs, hrs⟩ : ∃ rs, rawS s ip = rs := ⟨_, rfl⟩
        rw [hrs] at CT hstep y4
        have hgood := (hstep.good AC.out HVN.out).2
        obtain ⟨q2, hq2⟩ : ∃ q2, leS rs (sameS dv) = q2 := ⟨_, rfl⟩
        have CL := hide (fun w => refLe_same rs dv hdv3 y4 (by rw [hgood.f, HDV.out]) hgood.ep hq2 w)
        have HBK : Hid (b = v → q2 = false) := hide (fun h => by
          have h1 := hstep
          rw [h] at h1
          have h2 := h1.back AC.out HVN.out (by simp)
          rw [← hq2, HDV.out]
          exact h2)
        have WK2 := hide hstep
        have HG0 := hide (fun w' (h : Grow w6 w') => (BG6.out.later h).1)
        have HG1 := hide (fun w' (h : Grow w6 w') => (BG6.out.later h).2)
        dsimp only at HG0 HG1
        have HN0 := hide (fun w' (h : Grow w6 w') => cell_later h n0)
        have HN1 := hide (fun w' (h : Grow w6 w') => cell_later h n1)
        have HN2 := hide (fun w' (h : Grow w6 w') => cell_later h n3)
        have HN3 := hide (fun w' (h : Grow w6 w') => cell_later h n4)
        have KS := BS6'.out
        have G := G6'
        clear HB0 hmid hmay hstep hip y1 y2 y3 y4 hrs hgood hq2 HQ n0 n1 n3 n4 l0 d0 g0 g1 C2 OD
        have HS : Hid (BoxS w6 (SB) s) := hide KS
        clear KS
        have HH : ∀ w', Grow w6 w' → (fun w' => Grow w6 w' ∧ w'.cell? ⟨SB, 0, none⟩ = some (.int .i64 s.f) ∧ w'.cell? ⟨SB, 1, none⟩ = some (.int .i64 s.t) ∧ w'.cell? ⟨SB, 2, none⟩ = some (.int .i64 s.k) ∧ w'.cell? ⟨SB, 3, none⟩ = some (.int .i64 s.ep) ∧ w'.cell? ⟨SB, 4, none⟩ = some (.int .i64 s.x) ∧ w'.cell? ⟨SB, 5, none⟩ = some (.int .i64 s.y) ∧ w'.cell? ⟨SB, 6, none⟩ = some (.int .i64 s.z) ∧ w'.cell? ⟨P, 0, none⟩ = some (.slice (some ⟨bN, oN, none⟩) n2 gc) ∧ w'.cell? ⟨bN, oN + b * 4, none⟩ = some (.int .i64 nk) ∧ w'.cell? ⟨bN, oN + b * 4 + 1, none⟩ = some (.int .i64 na) ∧ w'.cell? ⟨bN, oN + b * 4 + 2, none⟩ = some (.int .i64 nb) ∧ w'.cell? ⟨bN, oN + b * 4 + 3, none⟩ = some (.int .i64 nd)) w' := fun w' hq => by
          obtain ⟨qS0, qS1, qS2, qS3, qS4, qS5, qS6⟩ := HS.out.later hq
          exact ⟨hq, qS0, qS1, qS2, qS3, qS4, qS5, qS6, HG0.out _ hq, HN0.out _ hq, HN1.out _ hq, HN2.out _ hq, HN3.out _ hq⟩
        have HK := hide HH
        clear HH
        go_wp2_with fail
        go_region_held3 (fun w' => Grow w6 w' ∧ w'.cell? ⟨SB, 0, none⟩ = some (.int .i64 s.f) ∧ w'.cell? ⟨SB, 1, none⟩ = some (.int .i64 s.t) ∧ w'.cell? ⟨SB, 2, none⟩ = some (.int .i64 s.k) ∧ w'.cell? ⟨SB, 3, none⟩ = some (.int .i64 s.ep) ∧ w'.cell? ⟨SB, 4, none⟩ = some (.int .i64 s.x) ∧ w'.cell? ⟨SB, 5, none⟩ = some (.int .i64 s.y) ∧ w'.cell? ⟨SB, 6, none⟩ = some (.int .i64 s.z) ∧ w'.cell? ⟨P, 0, none⟩ = some (.slice (some ⟨bN, oN, none⟩) n2 gc) ∧ w'.cell? ⟨bN, oN + b * 4, none⟩ = some (.int .i64 nk) ∧ w'.cell? ⟨bN, oN + b * 4 + 1, none⟩ = some (.int .i64 na) ∧ w'.cell? ⟨bN, oN + b * 4 + 2, none⟩ = some (.int .i64 nb) ∧ w'.cell? ⟨bN, oN + b * 4 + 3, none⟩ = some (.int .i64 nd)) (first | (refine HK.out _ ?_; simp (maxDischargeDepth := 30) only [growR, growA, growD]; done) | (with_reducible exact HK.out _ gu00) | (refine HK.out _ ?_; simp (maxDischargeDepth := 30) [growA, gu00]; done) | (with_reducible exact HK.out _ gu01) | (refine HK.out _ ?_; simp (maxDischargeDepth := 30) [growA, growS, zu00, gu01]; done)) (first | (go_at_call 19; refine (CI.out _).mono ?_; rintro e u00 ⟨rfl, hbu00⟩; have gu00 : Below w6.heap.size w6 u00 := Grow.trans' (‹Grow w6 _ ∧ _›).1 hbu00; have zu00 := gu00.size; have yu00 := hbu00.size; (try simp at yu00); (try (refine (fun v000 : w6.heap.size < u00.heap.size => ?_) ?_; rotate_left; focus omega)); obtain ⟨hcu00, hfu00⟩ := bcell hbu00) | (go_at_call 18; refine (CT.out _).mono ?_; rintro e u01 ⟨rfl, hbu01⟩; have gu01 : Below w6.heap.size w6 u01 := Grow.trans' (‹Grow w6 _ ∧ _›).1 hbu01; have zu01 := gu01.size; have yu01 := hbu01.size; (try simp at yu01); (try (refine (fun v010 : w6.heap.size < u01.heap.size => ?_) ?_; rotate_left; focus omega)); (try (refine (fun v011 : u00.heap.size < u01.heap.size => ?_) ?_; rotate_left; focus omega)); obtain ⟨hcu01, hfu01⟩ := bcell hbu01))
        all_goals
          obtain ⟨X0, hX⟩ := world_of (‹Grow w6 _ ∧ _›).1
          have HGW := (‹Grow w6 _ ∧ _›).1
          rw [← hX] at HGW ⊢
          first
            | (refine cutP (P := BoxS X0 u01.heap.size (rs)) ?_ ?_; (focus (rw [hX]; simp (maxDischargeDepth := 30) [BoxS, go_sem, *]; done)); intro KX; obtain ⟨bX, hbl⟩ : ∃ b, b = u01.heap.size := ⟨_, rfl⟩; rw [← hbl] at KX ⊢; clear hbl)
            | (refine cutP (P := BoxS X0 u00.heap.size (rs)) ?_ ?_; (focus (rw [hX]; simp (maxDischargeDepth := 30) [BoxS, go_sem, *]; done)); intro KX; obtain ⟨bX, hbl⟩ : ∃ b, b = u00.heap.size := ⟨_, rfl⟩; rw [← hbl] at KX ⊢; clear hbl)
            | (refine cutP (P := BoxS X0 w6.heap.size (rs)) ?_ ?_; (focus (rw [hX]; simp (maxDischargeDepth := 30) [BoxS, go_sem, *]; done)); intro KX; obtain ⟨bX, hbl⟩ : ∃ b, b = w6.heap.size := ⟨_, rfl⟩; rw [← hbl] at KX ⊢; clear hbl)
          have KS : BoxS X0 (SB) s := HS.out.later HGW
          have G : Hid (Grow w X0) := hide (Grow.trans' G.out HGW)
          have HGX := hide HGW
          clear hX HGW HK
          clear hcu00 hfu00 hbu00 gu00 zu00 yu00
          clear hcu01 hfu01 hbu01 gu01 zu01 yu01
          have BGX := hide (BG6.out.later HGX.out)
          have BKX := hide (BK6'.out.later HGX.out)
          obtain ⟨x0, x1, x2, x3, x4, x5, x6⟩ := KX
          clear KS BS6' BG6 BK6' G6'
          go_wp2_with (refine wpList_putS2 rfl _ _ rfl SB rs rfl rfl BKX.out w G.out HSB.out ?_)
          intro w8 hg8 hb8 hk8 hoth8
          have G8 := hide hg8
          have BS8 := hide hb8
          have BK8 := hide hk8
          have BG8 := hide (BGX.out.keep (hoth8 P HPS.out))
          obtain ⟨b0, b1, b2, b3, b4, b5, b6⟩ := hb8
          obtain ⟨g0, g1⟩ := BG8.out
          dsimp only at g0 g1
          obtain ⟨e0, e1, e2, e3⟩ := (HRW.out.later hg8).at v HVN.out
          rw [← nth_get N v HVN.out, ← HDV.out] at e3
          clear hg8 hk8 hoth8 x0 x1 x2 x3 x4 x5 x6 BGX BKX G e0 e1 e2
          go_wp2_with fail
          have t0 := cell_regrown b0
          have t1 := cell_regrown b1
          have t2 := cell_regrown b2
          have t3 := cell_regrown b3
          have t4 := cell_regrown b4
          have t5 := cell_regrown b5
          have t6 := cell_regrown b6
          have t7 := cell_regrown g0
          have t8 := cell_regrown e3
          have Q1 := hide (fun dd os => Calls.regrown_of (refSame_any dv (grow (redrawn w8 dd) os)))
          have Q2 := hide (fun dd os => Calls.regrown_of (CL.out (grow (redrawn w8 dd) os)))
          refine wp_region_quiet_below (by kernel_rfl) (by kernel_rfl) ?_
          repeat (go_big_quiet_step (first | (go_at_call 15; exact Q1.out _ _) | (go_at_call 20; exact Q2.out _ _)))
          refine wpQuiet_nil ?_
          intro _ hw'
          obtain ⟨⟨dq, osq⟩, hw''⟩ := hw'
          subst hw''
          have G9 := hide (Grow.trans' G8.out (below_regrown w8 dq osq))
          have BG9 := hide (BG8.out.later (below_regrown w8 dq osq))
          have BK9 := hide (BK8.out.later (below_regrown w8 dq osq))
          have BS9 := hide (BS8.out.later (below_regrown w8 dq osq))
          clear t0 t1 t2 t3 t4 t5 t6 t7 t8 b0 b1 b2 b3 b4 b5 b6 g0 g1 e3 Q1 Q2 G8 BG8 BK8 BS8
          generalize grow (redrawn w8 dq) osq = w9 at *
          by_cases hbv : b = v
          · have hq3 := HBK.out hbv
            have hbi : ((b : Int) == (v : Int)) = true := by rw [hbv]; simp
            subst hq3
            clear hbv
            go_wp2_with fail
            go_roundw
            case rel => exact ⟨i + 1, b, rs, b :: L, by omega, by omega, rfl, by go_num, G9.out, BG9.out, BK9.out, BS9.out, WK2.out, by rw [List.length_cons, HLi.out]⟩
            case measure => simp [intOf]; omega
          · have hbi : ((b : Int) == (v : Int)) = false := by simp; omega
            go_wp2_with fail
            go_roundw
            case rel => exact ⟨i + 1, b, rs, b :: L, by omega, by omega, rfl, by go_num, G9.out, BG9.out, BK9.out, BS9.out, WK2.out, by rw [List.length_cons, HLi.out]⟩
            case measure => simp [intOf]; omega

set_option maxHeartbeats 40000000 in
theorem vround_0 (gs : Option Addr) (gn gc : Nat) (gt : Option Addr) (gm gq : Nat) (N0 : List Nd) (E0 : List Ed) (frm : Int) (sl : Option Addr) (ll cl : Nat) (zl : Nat → Int) (w : World) (hN : IsNds w gs gn gc N0) (hE : IsEds w gt gm gq E0) (hL : IsInts w sl ll cl zl) (hsg : ¬ Int.tmod frm ((cutN 14 gn : Nat) : Int) < 0) :
    Calls Try.prog 5 #[.agg #[.slice gs gn gc, .slice gt gm gq], .int .i64 frm, .slice sl ll cl] w fun r w' => r = .returned (.bool true) ∧ Grow w w' := by
  have HN0 := hide (hN.cut 14)
  have HE0 := hide (hE.cut 26)
  have CF := hide (fun w => few_raw gs gn gc gt gm gq w hN.2.1 hE.2.1)
  have hn2' := cutN_le 14 gn
  have hm2' := cutN_le 26 gm
  obtain ⟨n2, hn2⟩ : ∃ n2, cutN 14 gn = n2 := ⟨_, rfl⟩
  obtain ⟨m2, hm2⟩ : ∃ m2, cutN 26 gm = m2 := ⟨_, rfl⟩
  obtain ⟨N, hNN⟩ : ∃ N, N0.take 14 = N := ⟨_, rfl⟩
  obtain ⟨E, hEE⟩ : ∃ E, E0.take 26 = E := ⟨_, rfl⟩
  rw [hn2] at HN0 CF hn2' hsg
  rw [hm2] at HE0 CF hm2'
  rw [hNN] at HN0
  rw [hEE] at HE0
  clear hN hE hn2 hm2 hNN hEE
  have hn3 : n2 ≤ 14 := by omega
  have hm3 : m2 ≤ 26 := by omega
  have GG : Hid (Grow w (w.alloc (.cells #[.slice gs gn gc, .slice gt gm gq] 29))) := hide (Grow.alloc' _ _)
  have KG : Hid (BoxG (w.alloc (.cells #[.slice gs gn gc, .slice gt gm gq] 29)) w.heap.size ⟨gs, gn, gc, gt, gm, gq, [], []⟩) := hide (BoxG.new w ⟨gs, gn, gc, gt, gm, gq, [], []⟩)
  have KB : Hid (BlkG (w.alloc (.cells #[.slice gs gn gc, .slice gt gm gq] 29)) w.heap.size) := hide (BlkG.new w _ _)
  clear hn2' hm2'
  go_enter Try.func5, Try.ntmps5
  go_wp2_with fail
  generalize (w.alloc (.cells #[.slice gs gn gc, .slice gt gm gq] 29)) = w0 at *
  refine (shown_any _).mono ?_
  rintro _ w1 ⟨rfl, hb⟩
  have G1 := hide (Grow.trans' GG.out hb)
  have KB1 := hide (KB.out.later hb)
  obtain ⟨g0, g1⟩ := KG.out.later hb
  dsimp only at g0 g1
  clear hb KG KB GG
  go_wp2_with fail
  refine (CF.out _).mono ?_
  rintro _ w2 ⟨rfl, hb⟩
  have G2 := hide (Grow.trans' G1.out hb)
  have KB2 := hide (KB1.out.later hb)
  clear hb KB1 G1 g0 g1 CF
  go_wp2_with (refine wpList_putG rfl _ _ rfl w.heap.size ⟨gs, n2, gc, gt, m2, gq, [], []⟩ rfl rfl KB2.out w G2.out (Nat.le_refl _) ?_)
  intro w3 hg3 hb3 hoth hsame
  have G3 := hide hg3
  have HN := hide (HN0.out.later hg3)
  have HE := hide (HE0.out.later hg3)
  obtain ⟨g0, g1⟩ := hb3
  dsimp only at g0 g1
  have HEW := HE0
  have HNW := HN0
  clear hg3 hoth hsame KB2 G2 HN0 HE0
  generalize w.heap.size = P at *
  obtain ⟨e, he⟩ : ∃ e, errG N E = e := ⟨_, rfl⟩
  have C1 := hide (graph_raw gs n2 gc gt m2 gq N E w3 (by omega) (by omega) HN.out HE.out he)
  have KG3 : Hid (BoxG w3 P ⟨gs, n2, gc, gt, m2, gq, [], []⟩) := hide ⟨g0, g1⟩
  have HEr := hide he
  have HSG := hide hsg
  have HLL := hide hL
  clear he hsg hL
  go_wp2_with fail
  refine C1.out.mono ?_
  rintro _ w4 ⟨rfl, hb⟩
  have G4 := hide (Grow.trans' G3.out hb)
  have G34 := hide hb
  have KG4 := hide (KG3.out.later hb)
  obtain ⟨h0, h1⟩ := KG3.out.later hb
  dsimp only at h0 h1
  clear hb g0 g1 C1 KG3
  by_cases he0 : e = 0
  rotate_left
  · have he1 : (e != 0) = true := by simpa using he0
    have he2 : (e == 0) = false := by simpa using he0
    go_wp2_with fail
    go_ret
    exact ⟨rfl, G4.out⟩
  subst he0
  have ACC := hide (errG_zero.1 HEr.out)
  have AC := hide ACC.out.acc
  have hnpos : 0 < n2 := by
    have := ACC.out.big.1
    rw [HN.out.1] at this
    omega
  have htl := tmod_lt (x := frm) hnpos
  have hsg := HSG.out
  obtain ⟨tm, htm⟩ : ∃ tm, Int.tmod frm (n2 : Int) = tm := ⟨_, rfl⟩
  rw [htm] at htl hsg
  obtain ⟨v, rfl⟩ : ∃ v : Nat, tm = (v : Int) := ⟨tm.toNat, by omega⟩
  have hvn : v < n2 := by omega
  have hvN : v < N.length := by rw [HN.out.1]; exact hvn
  have hneN : ¬ N = [] := fun h => by rw [h] at hvN; simp at hvN
  obtain ⟨bN, oN, rfl, hr2⟩ := HN.out.2.2.resolve_left hneN
  have HRN := hide hr2
  have HRW : Hid (RowN w bN oN N) := hide (by
    obtain ⟨b', o', he', hrw⟩ := HNW.out.2.2.resolve_left hneN
    have hbo : bN = b' ∧ oN = o' := by simpa using he'
    obtain ⟨rfl, rfl⟩ := hbo
    exact hrw)
  have HVN := hide hvN
  obtain ⟨p0, p1, p2, p3⟩ := (hr2.later (show Grow w3 w4 from G34.out)).at v hvN
  rw [← nth_get N v hvN] at p0 p1 p2 p3
  obtain ⟨dv, hdv⟩ : ∃ dv, dv = (nth N v).d := ⟨_, rfl⟩
  have HDV := hide hdv
  rw [← hdv] at p3
  have hfv := AC.out.fit v hvN
  have hdv3 : 0 ≤ dv ∧ dv ≤ 3 := by rw [hdv]; exact ⟨hfv.lo, hfv.hi⟩
  have CS := hide (fun w => refSame_any dv w)
  have h0n : ¬ (n2 : Int) = 0 := by omega
  have hv1 : (0 : Int) ≤ (v : Int) := by omega
  have hv2 : (v : Int) < (n2 : Int) := by omega
  clear hneN hr2 hvN hdv hfv htl hsg p0 p1 p2
  go_wp2_with fail
  refine (CS.out _).mono ?_
  rintro _ w5 ⟨rfl, hb⟩
  have G5 := hide (Grow.trans' G4.out hb)
  have KG5 := hide (KG4.out.later hb)
  have BA := hide (BlkS.new w5)
  have SV : Hid (sameS dv = ⟨dv, dv, dv, 0, 0, 0, 0⟩) := hide (sameS_fit hdv3).1
  clear hb h0 h1 p3 CS
  go_wp2_with (refine wpList_putS2 rfl _ _ rfl w5.heap.size (sameS dv) rfl rfl BA.out w5 (Grow.alloc' _ _) (Nat.le_refl _) ?_)
  intro w6 hg6 hb6 hk6 hoth6
  have G6 := hide (Grow.trans' G5.out hg6)
  have KG6 := hide (KG5.out.later hg6)
  have BS6 := hide hb6
  have BK6 := hide hk6
  obtain ⟨SB, hSB⟩ : ∃ SB, SB = w5.heap.size := ⟨_, rfl⟩
  have HSB : Hid (w.heap.size ≤ SB) := hide (by rw [hSB]; exact G5.out.size)
  have HPS : Hid (P ≠ SB) := hide (by
    have := KG5.out.lt
    rw [hSB]
    omega)
  rw [← hSB] at BS6 BK6
  rw [← hSB]
  clear hg6 hb6 hk6 hoth6 hSB BA KG5 G5 G4 KG4
  have HVN2 := HVN
  go_wp2_with fail
  go_loopw [9, 11] (fun v9 v11 wr => ∃ (i a : Nat) (s : Sm) (L : List Nat), i ≤ ll ∧ i ≤ 30 ∧ v9 = .int .i64 (a : Int) ∧ v11 = .int .i64 (i : Int) ∧ Grow w wr ∧ BoxG wr P ⟨some ⟨bN, oN, none⟩, n2, gc, gt, m2, gq, [], []⟩ ∧ BlkS wr SB ∧ BoxS wr SB s ∧ Wk N E v a s L ∧ L.length = i) (fun _ v11 _ => 30 - (intOf v11).toNat)
  case atStart => exact ⟨0, v, sameS dv, [], Nat.zero_le _, by omega, rfl, rfl, G6.out, KG6.out, BK6.out, BS6.out, by rw [HDV.out]; exact Wk.start, rfl⟩
  case round =>
    obtain ⟨i, a, s, L, hi, hi30, rfl, rfl, hg, hbg, hbk, hbs, hwk, hLi⟩ := hrel
    have GR := hide hg
    have BG := hide hbg
    have BK := hide hbk
    have BS := hide hbs
    have WK := hide hwk
    have HLi := hide hLi
    clear hbk hbs hwk hLi
    by_cases c1 : i < ll
    rotate_left
    · have c1' : ¬ (i : Int) < (ll : Int) := by omega
      clear hg hbg
      go_wp2_with fail
      go_ret
      exact ⟨rfl, GR.out⟩
    by_cases c2 : i < 30
    rotate_left
    · have c1' : (i : Int) < (ll : Int) := by omega
      have c2' : ¬ (i : Int) < 30 := by omega
      clear hg hbg
      go_wp2_with fail
      go_ret
      exact ⟨rfl, GR.out⟩
    have c1' : (i : Int) < (ll : Int) := by omega
    have c2' : (i : Int) < 30 := by omega
    have haN := (WK.out.good AC.out HVN.out).1
    have C1 := hide (next_raw (some ⟨bN, oN, none⟩) n2 gc gt m2 gq E a wr (by omega) (HEW.out.later hg))
    obtain ⟨g0, g1⟩ := hbg
    dsimp only at g0 g1
    obtain ⟨D, hD⟩ : ∃ D, D = nextP E a := ⟨_, rfl⟩
    have HD := hide hD
    rw [← hD] at C1
    have hD40 : D.length ≤ 40 := by
      have h1 := nextP_len E a
      rw [← hD, HE.out.1] at h1
      omega
    clear hD hg
    go_wp2_with fail
    refine C1.out.mono ?_
    rintro _ w6 ⟨s6, m6, c6, rfl, hb, hO⟩
    have G6' := hide (Grow.trans' GR.out hb)
    have BG6 := hide (BG.out.later hb)
    have BK6' := hide (BK.out.later hb)
    have BS6' := hide (BS.out.later hb)
    have OD := hide hO.is
    have hDm : D.length = m6 := hO.1
    have HDm := hide hDm
    have hm640 : m6 ≤ 40 := by omega
    clear hb hO g0 g1 C1 hDm hD40 GR BG BK BS
    by_cases hm0 : m6 = 0
    · subst hm0
      go_wp2_with fail
      go_ret
      exact ⟨rfl, G6'.out⟩
    obtain ⟨bl, ol, hsl, hcl⟩ := HLL.out.2.resolve_left (by omega)
    subst hsl
    have l0 := cell_later G6'.out (hcl i c1)
    have hmp : 0 < m6 := by omega
    have hm1 : ¬ (m6 : Int) = 0 := by omega
    have htl := tmod_lt (x := zl i) hmp
    obtain ⟨tm, htm⟩ : ∃ tm, Int.tmod (zl i) (m6 : Int) = tm := ⟨_, rfl⟩
    rw [htm] at htl
    have hii : (0 : Int) ≤ (i : Int) := by omega
    have hkk : ∃ kk : Nat, kk < m6 ∧ ((0 < kk ∧ tm = -(kk : Int)) ∨ tm = (kk : Int)) := by
      by_cases h : tm < 0
      · exact ⟨(-tm).toNat, by omega, .inl ⟨by omega, by omega⟩⟩
      · exact ⟨tm.toNat, by omega, .inr (by omega)⟩
    obtain ⟨kk, hkm, hks⟩ := hkk
    have hkD : kk < D.length := by rw [HDm.out]; exact hkm
    have hneD : ¬ D = [] := fun h => by rw [h] at hkD; simp at hkD
    obtain ⟨bD, oD, rfl, hrD⟩ := OD.out.2.2.resolve_left hneD
    obtain ⟨d0, d1⟩ := hrD.at kk hkD
    obtain ⟨x, hx⟩ : ∃ x, x = D[kk] := ⟨_, rfl⟩
    rw [← hx] at d0 d1
    obtain ⟨e, heE, hef, hex⟩ := next_mem.1 (show x ∈ nextP E a by rw [← HD.out, hx]; exact List.getElem_mem _)
    have hin := AC.out.inN e heE
    obtain ⟨b, hbt⟩ : ∃ b : Nat, e.t = (b : Int) := ⟨e.t.toNat, by omega⟩
    have hxn : x.n = (b : Int) := by rw [hex, ← hbt]
    have hbN : b < N.length := by omega
    rw [hxn] at d0
    have HEE : Hid (e ∈ E ∧ e.f = a ∧ e.t = (b : Int)) := hide ⟨heE, hef, hbt⟩
    obtain ⟨n0, n1, n3, n4⟩ := (HRW.out.later G6'.out).at b hbN
    rw [← nth_get N b hbN] at n0 n1 n3 n4
    obtain ⟨y, hy⟩ : ∃ y, y = nth N b := ⟨_, rfl⟩
    have HY := hide hy
    rw [← hy] at n0 n1 n3 n4
    obtain ⟨nk, na, nb, nd⟩ := y
    dsimp only at n0 n1 n3 n4
    have hk1 : (0 : Int) ≤ (kk : Int) := by omega
    have hk2 : (kk : Int) < (m6 : Int) := by omega
    have hb1 : (0 : Int) ≤ (b : Int) := by omega
    have hb2 : (b : Int) < (n2 : Int) := by rw [HN.out.1] at hbN; omega
    obtain ⟨q, hq⟩ : ∃ q, hasP nk = q := ⟨_, rfl⟩
    have C2 := hide (fun w => has_at nk hq w)
    have HQ := hide hq
    have HBN := hide hbN
    clear htl hneD hrD hx heE hef hex hin hbt hxn hbN hy hq d1 hcl hkD
    rcases hks with ⟨hkp, rfl⟩ | rfl
    · have hwk2 : IntKind.i64.wrap (kk : Int) = (kk : Int) := IntWalk.i64_in _ ⟨by omega, by omega⟩
      obtain ⟨g0, g1⟩ := BG6.out
      dsimp only at g0 g1
      go_wp2_with fail
      refine (C2.out _).mono ?_
      rintro _ w7 ⟨rfl, hw7⟩
      obtain rfl : w6 = w7 := hw7.symm
      cases q
      · go_wp2_with fail
        go_ret
        exact ⟨rfl, G6'.out⟩
      · have HB0 : nth N (b : Int).toNat = ⟨nk, na, nb, nd⟩ := by rw [show (b : Int).toNat = b by omega]; exact HY.out.symm
        have hmid := ACC.out.mid HEE.out.1 (by rw [HEE.out.2.2, HB0]; exact HQ.out)
        rw [HEE.out.2.2, HB0] at hmid
        have hmay := WK.out.may AC.out HVN.out (by rw [HLi.out]; omega) HEE.out.1 HEE.out.2.1 HEE.out.2.2 (by rw [← HY.out]; exact hmid.1) (by rw [← HY.out]; exact hmid.2)
        have hstep := Wk.step a s L _ b WK.out HEE.out.1 HEE.out.2.1 HEE.out.2.2 (by rw [← HY.out]; exact hmid.1) (by rw [← HY.out]; exact hmid.2)
        rw [← HY.out] at hmay hstep
        obtain ⟨ip, hip⟩ : ∃ ip, innP ⟨nk, na, nb, nd⟩ = ip := ⟨_, rfl⟩
        have CI := hide (fun w => inn_any nk na nb nd w)
        rw [hip] at hmay hstep CI
        obtain ⟨y1, y2, y3, y4⟩ := thenE_zero hmay.1
        have CT := hide (fun w => refThenY s ip y1 y2 y3 y4 w)
        obtain ⟨rs, hrs⟩ : ∃ rs, rawS s ip = rs := ⟨_, rfl⟩
        rw [hrs] at CT hstep y4
        have hgood := (hstep.good AC.out HVN.out).2
        obtain ⟨q2, hq2⟩ : ∃ q2, leS rs (sameS dv) = q2 := ⟨_, rfl⟩
        have CL := hide (fun w => refLe_same rs dv hdv3 y4 (by rw [hgood.f, HDV.out]) hgood.ep hq2 w)
        have HBK : Hid (b = v → q2 = false) := hide (fun h => by
          have h1 := hstep
          rw [h] at h1
          have h2 := h1.back AC.out HVN.out (by simp)
          rw [← hq2, HDV.out]
          exact h2)
        have WK2 := hide hstep
        have HG0 := hide (fun w' (h : Grow w6 w') => (BG6.out.later h).1)
        have HG1 := hide (fun w' (h : Grow w6 w') => (BG6.out.later h).2)
        dsimp only at HG0 HG1
        have HN0 := hide (fun w' (h : Grow w6 w') => cell_later h n0)
        have HN1 := hide (fun w' (h : Grow w6 w') => cell_later h n1)
        have HN2 := hide (fun w' (h : Grow w6 w') => cell_later h n3)
        have HN3 := hide (fun w' (h : Grow w6 w') => cell_later h n4)
        have KS := BS6'.out
        have G := G6'
        clear HB0 hmid hmay hstep hip y1 y2 y3 y4 hrs hgood hq2 HQ n0 n1 n3 n4 l0 d0 g0 g1 C2 OD
        have HS : Hid (BoxS w6 (SB) s) := hide KS
        clear KS
        have HH : ∀ w', Grow w6 w' → (fun w' => Grow w6 w' ∧ w'.cell? ⟨SB, 0, none⟩ = some (.int .i64 s.f) ∧ w'.cell? ⟨SB, 1, none⟩ = some (.int .i64 s.t) ∧ w'.cell? ⟨SB, 2, none⟩ = some (.int .i64 s.k) ∧ w'.cell? ⟨SB, 3, none⟩ = some (.int .i64 s.ep) ∧ w'.cell? ⟨SB, 4, none⟩ = some (.int .i64 s.x) ∧ w'.cell? ⟨SB, 5, none⟩ = some (.int .i64 s.y) ∧ w'.cell? ⟨SB, 6, none⟩ = some (.int .i64 s.z) ∧ w'.cell? ⟨P, 0, none⟩ = some (.slice (some ⟨bN, oN, none⟩) n2 gc) ∧ w'.cell? ⟨bN, oN + b * 4, none⟩ = some (.int .i64 nk) ∧ w'.cell? ⟨bN, oN + b * 4 + 1, none⟩ = some (.int .i64 na) ∧ w'.cell? ⟨bN, oN + b * 4 + 2, none⟩ = some (.int .i64 nb) ∧ w'.cell? ⟨bN, oN + b * 4 + 3, none⟩ = some (.int .i64 nd)) w' := fun w' hq => by
          obtain ⟨qS0, qS1, qS2, qS3, qS4, qS5, qS6⟩ := HS.out.later hq
          exact ⟨hq, qS0, qS1, qS2, qS3, qS4, qS5, qS6, HG0.out _ hq, HN0.out _ hq, HN1.out _ hq, HN2.out _ hq, HN3.out _ hq⟩
        have HK := hide HH
        clear HH
        go_wp2_with fail
        go_region_held3 (fun w' => Grow w6 w' ∧ w'.cell? ⟨SB, 0, none⟩ = some (.int .i64 s.f) ∧ w'.cell? ⟨SB, 1, none⟩ = some (.int .i64 s.t) ∧ w'.cell? ⟨SB, 2, none⟩ = some (.int .i64 s.k) ∧ w'.cell? ⟨SB, 3, none⟩ = some (.int .i64 s.ep) ∧ w'.cell? ⟨SB, 4, none⟩ = some (.int .i64 s.x) ∧ w'.cell? ⟨SB, 5, none⟩ = some (.int .i64 s.y) ∧ w'.cell? ⟨SB, 6, none⟩ = some (.int .i64 s.z) ∧ w'.cell? ⟨P, 0, none⟩ = some (.slice (some ⟨bN, oN, none⟩) n2 gc) ∧ w'.cell? ⟨bN, oN + b * 4, none⟩ = some (.int .i64 nk) ∧ w'.cell? ⟨bN, oN + b * 4 + 1, none⟩ = some (.int .i64 na) ∧ w'.cell? ⟨bN, oN + b * 4 + 2, none⟩ = some (.int .i64 nb) ∧ w'.cell? ⟨bN, oN + b * 4 + 3, none⟩ = some (.int .i64 nd)) (first | (refine HK.out _ ?_; simp (maxDischargeDepth := 30) only [growR, growA, growD]; done) | (with_reducible exact HK.out _ gu00) | (refine HK.out _ ?_; simp (maxDischargeDepth := 30) [growA, gu00]; done) | (with_reducible exact HK.out _ gu01) | (refine HK.out _ ?_; simp (maxDischargeDepth := 30) [growA, growS, zu00, gu01]; done)) (first | (go_at_call 19; refine (CI.out _).mono ?_; rintro e u00 ⟨rfl, hbu00⟩; have gu00 : Below w6.heap.size w6 u00 := Grow.trans' (‹Grow w6 _ ∧ _›).1 hbu00; have zu00 := gu00.size; have yu00 := hbu00.size; (try simp at yu00); (try (refine (fun v000 : w6.heap.size < u00.heap.size => ?_) ?_; rotate_left; focus omega)); obtain ⟨hcu00, hfu00⟩ := bcell hbu00) | (go_at_call 18; refine (CT.out _).mono ?_; rintro e u01 ⟨rfl, hbu01⟩; have gu01 : Below w6.heap.size w6 u01 := Grow.trans' (‹Grow w6 _ ∧ _›).1 hbu01; have zu01 := gu01.size; have yu01 := hbu01.size; (try simp at yu01); (try (refine (fun v010 : w6.heap.size < u01.heap.size => ?_) ?_; rotate_left; focus omega)); (try (refine (fun v011 : u00.heap.size < u01.heap.size => ?_) ?_; rotate_left; focus omega)); obtain ⟨hcu01, hfu01⟩ := bcell hbu01))
        all_goals
          obtain ⟨X0, hX⟩ := world_of (‹Grow w6 _ ∧ _›).1
          have HGW := (‹Grow w6 _ ∧ _›).1
          rw [← hX] at HGW ⊢
          first
            | (refine cutP (P := BoxS X0 u01.heap.size (rs)) ?_ ?_; (focus (rw [hX]; simp (maxDischargeDepth := 30) [BoxS, go_sem, *]; done)); intro KX; obtain ⟨bX, hbl⟩ : ∃ b, b = u01.heap.size := ⟨_, rfl⟩; rw [← hbl] at KX ⊢; clear hbl)
            | (refine cutP (P := BoxS X0 u00.heap.size (rs)) ?_ ?_; (focus (rw [hX]; simp (maxDischargeDepth := 30) [BoxS, go_sem, *]; done)); intro KX; obtain ⟨bX, hbl⟩ : ∃ b, b = u00.heap.size := ⟨_, rfl⟩; rw [← hbl] at KX ⊢; clear hbl)
            | (refine cutP (P := BoxS X0 w6.heap.size (rs)) ?_ ?_; (focus (rw [hX]; simp (maxDischargeDepth := 30) [BoxS, go_sem, *]; done)); intro KX; obtain ⟨bX, hbl⟩ : ∃ b, b = w6.heap.size := ⟨_, rfl⟩; rw [← hbl] at KX ⊢; clear hbl)
          have KS : BoxS X0 (SB) s := HS.out.later HGW
          have G : Hid (Grow w X0) := hide (Grow.trans' G.out HGW)
          have HGX := hide HGW
          clear hX HGW HK
          clear hcu00 hfu00 hbu00 gu00 zu00 yu00
          clear hcu01 hfu01 hbu01 gu01 zu01 yu01
          have BGX := hide (BG6.out.later HGX.out)
          have BKX := hide (BK6'.out.later HGX.out)
          obtain ⟨x0, x1, x2, x3, x4, x5, x6⟩ := KX
          clear KS BS6' BG6 BK6' G6'
          go_wp2_with (refine wpList_putS2 rfl _ _ rfl SB rs rfl rfl BKX.out w G.out HSB.out ?_)
          intro w8 hg8 hb8 hk8 hoth8
          have G8 := hide hg8
          have BS8 := hide hb8
          have BK8 := hide hk8
          have BG8 := hide (BGX.out.keep (hoth8 P HPS.out))
          obtain ⟨b0, b1, b2, b3, b4, b5, b6⟩ := hb8
          obtain ⟨g0, g1⟩ := BG8.out
          dsimp only at g0 g1
          obtain ⟨e0, e1, e2, e3⟩ := (HRW.out.later hg8).at v HVN.out
          rw [← nth_get N v HVN.out, ← HDV.out] at e3
          clear hg8 hk8 hoth8 x0 x1 x2 x3 x4 x5 x6 BGX BKX G e0 e1 e2
          go_wp2_with fail
          have t0 := cell_regrown b0
          have t1 := cell_regrown b1
          have t2 := cell_regrown b2
          have t3 := cell_regrown b3
          have t4 := cell_regrown b4
          have t5 := cell_regrown b5
          have t6 := cell_regrown b6
          have t7 := cell_regrown g0
          have t8 := cell_regrown e3
          have Q1 := hide (fun dd os => Calls.regrown_of (refSame_any dv (grow (redrawn w8 dd) os)))
          have Q2 := hide (fun dd os => Calls.regrown_of (CL.out (grow (redrawn w8 dd) os)))
          refine wp_region_quiet_below (by kernel_rfl) (by kernel_rfl) ?_
          repeat (go_big_quiet_step (first | (go_at_call 15; exact Q1.out _ _) | (go_at_call 20; exact Q2.out _ _)))
          refine wpQuiet_nil ?_
          intro _ hw'
          obtain ⟨⟨dq, osq⟩, hw''⟩ := hw'
          subst hw''
          have G9 := hide (Grow.trans' G8.out (below_regrown w8 dq osq))
          have BG9 := hide (BG8.out.later (below_regrown w8 dq osq))
          have BK9 := hide (BK8.out.later (below_regrown w8 dq osq))
          have BS9 := hide (BS8.out.later (below_regrown w8 dq osq))
          clear t0 t1 t2 t3 t4 t5 t6 t7 t8 b0 b1 b2 b3 b4 b5 b6 g0 g1 e3 Q1 Q2 G8 BG8 BK8 BS8
          generalize grow (redrawn w8 dq) osq = w9 at *
          by_cases hbv : b = v
          · have hq3 := HBK.out hbv
            have hbi : ((b : Int) == (v : Int)) = true := by rw [hbv]; simp
            subst hq3
            clear hbv
            go_wp2_with fail
            go_roundw
            case rel => exact ⟨i + 1, b, rs, b :: L, by omega, by omega, rfl, by go_num, G9.out, BG9.out, BK9.out, BS9.out, WK2.out, by rw [List.length_cons, HLi.out]⟩
            case measure => simp [intOf]; omega
          · have hbi : ((b : Int) == (v : Int)) = false := by simp; omega
            go_wp2_with fail
            go_roundw
            case rel => exact ⟨i + 1, b, rs, b :: L, by omega, by omega, rfl, by go_num, G9.out, BG9.out, BK9.out, BS9.out, WK2.out, by rw [List.length_cons, HLi.out]⟩
            case measure => simp [intOf]; omega
    · skip
      obtain ⟨g0, g1⟩ := BG6.out
      dsimp only at g0 g1
      go_wp2_with fail
      refine (C2.out _).mono ?_
      rintro _ w7 ⟨rfl, hw7⟩
      obtain rfl : w6 = w7 := hw7.symm
      cases q
      · go_wp2_with fail
        go_ret
        exact ⟨rfl, G6'.out⟩
      · have HB0 : nth N (b : Int).toNat = ⟨nk, na, nb, nd⟩ := by rw [show (b : Int).toNat = b by omega]; exact HY.out.symm
        have hmid := ACC.out.mid HEE.out.1 (by rw [HEE.out.2.2, HB0]; exact HQ.out)
        rw [HEE.out.2.2, HB0] at hmid
        have hmay := WK.out.may AC.out HVN.out (by rw [HLi.out]; omega) HEE.out.1 HEE.out.2.1 HEE.out.2.2 (by rw [← HY.out]; exact hmid.1) (by rw [← HY.out]; exact hmid.2)
        have hstep := Wk.step a s L _ b WK.out HEE.out.1 HEE.out.2.1 HEE.out.2.2 (by rw [← HY.out]; exact hmid.1) (by rw [← HY.out]; exact hmid.2)
        rw [← HY.out] at hmay hstep
        obtain ⟨ip, hip⟩ : ∃ ip, innP ⟨nk, na, nb, nd⟩ = ip := ⟨_, rfl⟩
        have CI := hide (fun w => inn_any nk na nb nd w)
        rw [hip] at hmay hstep CI
        obtain ⟨y1, y2, y3, y4⟩ := thenE_zero hmay.1
        have CT := hide (fun w => refThenY s ip y1 y2 y3 y4 w)
        obtain ⟨rs, hrs⟩ : ∃ rs, rawS s ip = rs := ⟨_, rfl⟩
        rw [hrs] at CT hstep y4
        have hgood := (hstep.good AC.out HVN.out).2
        obtain ⟨q2, hq2⟩ : ∃ q2, leS rs (sameS dv) = q2 := ⟨_, rfl⟩
        have CL := hide (fun w => refLe_same rs dv hdv3 y4 (by rw [hgood.f, HDV.out]) hgood.ep hq2 w)
        have HBK : Hid (b = v → q2 = false) := hide (fun h => by
          have h1 := hstep
          rw [h] at h1
          have h2 := h1.back AC.out HVN.out (by simp)
          rw [← hq2, HDV.out]
          exact h2)
        have WK2 := hide hstep
        have HG0 := hide (fun w' (h : Grow w6 w') => (BG6.out.later h).1)
        have HG1 := hide (fun w' (h : Grow w6 w') => (BG6.out.later h).2)
        dsimp only at HG0 HG1
        have HN0 := hide (fun w' (h : Grow w6 w') => cell_later h n0)
        have HN1 := hide (fun w' (h : Grow w6 w') => cell_later h n1)
        have HN2 := hide (fun w' (h : Grow w6 w') => cell_later h n3)
        have HN3 := hide (fun w' (h : Grow w6 w') => cell_later h n4)
        have KS := BS6'.out
        have G := G6'
        clear HB0 hmid hmay hstep hip y1 y2 y3 y4 hrs hgood hq2 HQ n0 n1 n3 n4 l0 d0 g0 g1 C2 OD
        have HS : Hid (BoxS w6 (SB) s) := hide KS
        clear KS
        have HH : ∀ w', Grow w6 w' → (fun w' => Grow w6 w' ∧ w'.cell? ⟨SB, 0, none⟩ = some (.int .i64 s.f) ∧ w'.cell? ⟨SB, 1, none⟩ = some (.int .i64 s.t) ∧ w'.cell? ⟨SB, 2, none⟩ = some (.int .i64 s.k) ∧ w'.cell? ⟨SB, 3, none⟩ = some (.int .i64 s.ep) ∧ w'.cell? ⟨SB, 4, none⟩ = some (.int .i64 s.x) ∧ w'.cell? ⟨SB, 5, none⟩ = some (.int .i64 s.y) ∧ w'.cell? ⟨SB, 6, none⟩ = some (.int .i64 s.z) ∧ w'.cell? ⟨P, 0, none⟩ = some (.slice (some ⟨bN, oN, none⟩) n2 gc) ∧ w'.cell? ⟨bN, oN + b * 4, none⟩ = some (.int .i64 nk) ∧ w'.cell? ⟨bN, oN + b * 4 + 1, none⟩ = some (.int .i64 na) ∧ w'.cell? ⟨bN, oN + b * 4 + 2, none⟩ = some (.int .i64 nb) ∧ w'.cell? ⟨bN, oN + b * 4 + 3, none⟩ = some (.int .i64 nd)) w' := fun w' hq => by
          obtain ⟨qS0, qS1, qS2, qS3, qS4, qS5, qS6⟩ := HS.out.later hq
          exact ⟨hq, qS0, qS1, qS2, qS3, qS4, qS5, qS6, HG0.out _ hq, HN0.out _ hq, HN1.out _ hq, HN2.out _ hq, HN3.out _ hq⟩
        have HK := hide HH
        clear HH
        go_wp2_with fail
        go_region_held3 (fun w' => Grow w6 w' ∧ w'.cell? ⟨SB, 0, none⟩ = some (.int .i64 s.f) ∧ w'.cell? ⟨SB, 1, none⟩ = some (.int .i64 s.t) ∧ w'.cell? ⟨SB, 2, none⟩ = some (.int .i64 s.k) ∧ w'.cell? ⟨SB, 3, none⟩ = some (.int .i64 s.ep) ∧ w'.cell? ⟨SB, 4, none⟩ = some (.int .i64 s.x) ∧ w'.cell? ⟨SB, 5, none⟩ = some (.int .i64 s.y) ∧ w'.cell? ⟨SB, 6, none⟩ = some (.int .i64 s.z) ∧ w'.cell? ⟨P, 0, none⟩ = some (.slice (some ⟨bN, oN, none⟩) n2 gc) ∧ w'.cell? ⟨bN, oN + b * 4, none⟩ = some (.int .i64 nk) ∧ w'.cell? ⟨bN, oN + b * 4 + 1, none⟩ = some (.int .i64 na) ∧ w'.cell? ⟨bN, oN + b * 4 + 2, none⟩ = some (.int .i64 nb) ∧ w'.cell? ⟨bN, oN + b * 4 + 3, none⟩ = some (.int .i64 nd)) (first | (refine HK.out _ ?_; simp (maxDischargeDepth := 30) only [growR, growA, growD]; done) | (with_reducible exact HK.out _ gu00) | (refine HK.out _ ?_; simp (maxDischargeDepth := 30) [growA, gu00]; done) | (with_reducible exact HK.out _ gu01) | (refine HK.out _ ?_; simp (maxDischargeDepth := 30) [growA, growS, zu00, gu01]; done)) (first | (go_at_call 19; refine (CI.out _).mono ?_; rintro e u00 ⟨rfl, hbu00⟩; have gu00 : Below w6.heap.size w6 u00 := Grow.trans' (‹Grow w6 _ ∧ _›).1 hbu00; have zu00 := gu00.size; have yu00 := hbu00.size; (try simp at yu00); (try (refine (fun v000 : w6.heap.size < u00.heap.size => ?_) ?_; rotate_left; focus omega)); obtain ⟨hcu00, hfu00⟩ := bcell hbu00) | (go_at_call 18; refine (CT.out _).mono ?_; rintro e u01 ⟨rfl, hbu01⟩; have gu01 : Below w6.heap.size w6 u01 := Grow.trans' (‹Grow w6 _ ∧ _›).1 hbu01; have zu01 := gu01.size; have yu01 := hbu01.size; (try simp at yu01); (try (refine (fun v010 : w6.heap.size < u01.heap.size => ?_) ?_; rotate_left; focus omega)); (try (refine (fun v011 : u00.heap.size < u01.heap.size => ?_) ?_; rotate_left; focus omega)); obtain ⟨hcu01, hfu01⟩ := bcell hbu01))
        all_goals
          obtain ⟨X0, hX⟩ := world_of (‹Grow w6 _ ∧ _›).1
          have HGW := (‹Grow w6 _ ∧ _›).1
          rw [← hX] at HGW ⊢
          first
            | (refine cutP (P := BoxS X0 u01.heap.size (rs)) ?_ ?_; (focus (rw [hX]; simp (maxDischargeDepth := 30) [BoxS, go_sem, *]; done)); intro KX; obtain ⟨bX, hbl⟩ : ∃ b, b = u01.heap.size := ⟨_, rfl⟩; rw [← hbl] at KX ⊢; clear hbl)
            | (refine cutP (P := BoxS X0 u00.heap.size (rs)) ?_ ?_; (focus (rw [hX]; simp (maxDischargeDepth := 30) [BoxS, go_sem, *]; done)); intro KX; obtain ⟨bX, hbl⟩ : ∃ b, b = u00.heap.size := ⟨_, rfl⟩; rw [← hbl] at KX ⊢; clear hbl)
            | (refine cutP (P := BoxS X0 w6.heap.size (rs)) ?_ ?_; (focus (rw [hX]; simp (maxDischargeDepth := 30) [BoxS, go_sem, *]; done)); intro KX; obtain ⟨bX, hbl⟩ : ∃ b, b = w6.heap.size := ⟨_, rfl⟩; rw [← hbl] at KX ⊢; clear hbl)
          have KS : BoxS X0 (SB) s := HS.out.later HGW
          have G : Hid (Grow w X0) := hide (Grow.trans' G.out HGW)
          have HGX := hide HGW
          clear hX HGW HK
          clear hcu00 hfu00 hbu00 gu00 zu00 yu00
          clear hcu01 hfu01 hbu01 gu01 zu01 yu01
          have BGX := hide (BG6.out.later HGX.out)
          have BKX := hide (BK6'.out.later HGX.out)
          obtain ⟨x0, x1, x2, x3, x4, x5, x6⟩ := KX
          clear KS BS6' BG6 BK6' G6'
          go_wp2_with (refine wpList_putS2 rfl _ _ rfl SB rs rfl rfl BKX.out w G.out HSB.out ?_)
          intro w8 hg8 hb8 hk8 hoth8
          have G8 := hide hg8
          have BS8 := hide hb8
          have BK8 := hide hk8
          have BG8 := hide (BGX.out.keep (hoth8 P HPS.out))
          obtain ⟨b0, b1, b2, b3, b4, b5, b6⟩ := hb8
          obtain ⟨g0, g1⟩ := BG8.out
          dsimp only at g0 g1
          obtain ⟨e0, e1, e2, e3⟩ := (HRW.out.later hg8).at v HVN.out
          rw [← nth_get N v HVN.out, ← HDV.out] at e3
          clear hg8 hk8 hoth8 x0 x1 x2 x3 x4 x5 x6 BGX BKX G e0 e1 e2
          go_wp2_with fail
          have t0 := cell_regrown b0
          have t1 := cell_regrown b1
          have t2 := cell_regrown b2
          have t3 := cell_regrown b3
          have t4 := cell_regrown b4
          have t5 := cell_regrown b5
          have t6 := cell_regrown b6
          have t7 := cell_regrown g0
          have t8 := cell_regrown e3
          have Q1 := hide (fun dd os => Calls.regrown_of (refSame_any dv (grow (redrawn w8 dd) os)))
          have Q2 := hide (fun dd os => Calls.regrown_of (CL.out (grow (redrawn w8 dd) os)))
          refine wp_region_quiet_below (by kernel_rfl) (by kernel_rfl) ?_
          repeat (go_big_quiet_step (first | (go_at_call 15; exact Q1.out _ _) | (go_at_call 20; exact Q2.out _ _)))
          refine wpQuiet_nil ?_
          intro _ hw'
          obtain ⟨⟨dq, osq⟩, hw''⟩ := hw'
          subst hw''
          have G9 := hide (Grow.trans' G8.out (below_regrown w8 dq osq))
          have BG9 := hide (BG8.out.later (below_regrown w8 dq osq))
          have BK9 := hide (BK8.out.later (below_regrown w8 dq osq))
          have BS9 := hide (BS8.out.later (below_regrown w8 dq osq))
          clear t0 t1 t2 t3 t4 t5 t6 t7 t8 b0 b1 b2 b3 b4 b5 b6 g0 g1 e3 Q1 Q2 G8 BG8 BK8 BS8
          generalize grow (redrawn w8 dq) osq = w9 at *
          by_cases hbv : b = v
          · have hq3 := HBK.out hbv
            have hbi : ((b : Int) == (v : Int)) = true := by rw [hbv]; simp
            subst hq3
            clear hbv
            go_wp2_with fail
            go_roundw
            case rel => exact ⟨i + 1, b, rs, b :: L, by omega, by omega, rfl, by go_num, G9.out, BG9.out, BK9.out, BS9.out, WK2.out, by rw [List.length_cons, HLi.out]⟩
            case measure => simp [intOf]; omega
          · have hbi : ((b : Int) == (v : Int)) = false := by simp; omega
            go_wp2_with fail
            go_roundw
            case rel => exact ⟨i + 1, b, rs, b :: L, by omega, by omega, rfl, by go_num, G9.out, BG9.out, BK9.out, BS9.out, WK2.out, by rw [List.length_cons, HLi.out]⟩
            case measure => simp [intOf]; omega

theorem ValidRound_any (g : GA) (frm : Int) (sl : Option Addr) (ll cl : Nat) (zl : Nat → Int) (w : World) (hg : IsG w g) (hl : IsInts w sl ll cl zl) :
    Calls Try.prog 5 #[.agg #[.slice g.s g.n g.c, .slice g.t g.m g.q], .int .i64 frm, .slice sl ll cl] w fun r w' => r = .returned (.bool true) ∧ Grow w w' := by
  by_cases h : Int.tmod frm ((cutN 14 g.n : Nat) : Int) < 0
  · exact vround_1 g.s g.n g.c g.t g.m g.q g.N g.E frm sl ll cl zl w hg.nodes hg.edges hl h
  · exact vround_0 g.s g.n g.c g.t g.m g.q g.N g.E frm sl ll cl zl w hg.nodes hg.edges hl h

set_option maxRecDepth 100000 in
theorem ValidRound_lifted (os : Os) (started : os.Started) (H : Type) (enc : TypeId × Value → H) :
    ReturnsInHanded {} Try.checked os 5 .any (Rows.validRoundSpec.pre6 enc Try.prog Try.f5 Rows.validRoundRow.domain false) (Rows.validRoundSpec.post enc Try.prog Try.f5 false true false false) := by
  refine returnsInHanded_of_change (C := Try.checked) own started (by kernel_rfl) Try.func5
    (ChangeSpec.witness6 (enc := enc) (C := Try.checked) false ⟨#[], #[.agg #[.slice none 0 0, .slice none 0 0], .int .i64 0, .slice none 0 0], []⟩ 8 (by kernel_rfl) (by kernel_rfl) (by kernel_rfl) (by kernel_rfl)) ?_
  intro W base args ds gs before hval0 hW hcnd _
  have hval : ∀ (j : Nat) t v, Try.f5.params[j]? = some t → args[j]? = some v → Value.okWide Try.prog W .any base t v := hval0
  have hW' := hW
  obtain ⟨p, q, hA0, hV, rfl, hfz, hnd⟩ := hW
  have hA : DataW.TrodAll enc Try.prog W 0 (fun _ => true) true Try.f5.params.toList args.toList ds p := hA0
  rw [Try.params5] at hA hval
  obtain ⟨v0, vs0, d0, ds0, p0, q0, hargs, rfl, rfl, h0, r0⟩ := trodAll_cons hA
  obtain ⟨v1, vs1, d1, ds1, p1, q1, rfl, rfl, rfl, h1, r1⟩ := trodAll_cons r0
  obtain ⟨v2, vs2, d2, ds2, p2, q2, rfl, rfl, rfl, h2, r2⟩ := trodAll_cons r1
  obtain ⟨rfl, rfl, rfl⟩ := trodAll_nil r2
  obtain rfl : args = #[v0, v1, v2] := by cases args; simp_all
  obtain ⟨rfl, rfl⟩ := trodVars_none hV
  have k0 := h0
  have lt0 : ∀ x ∈ p0, x.block < W.heap.size := by obtain ⟨m, hm⟩ := k0; exact DataW.trod_lt m _ _ _ hm
  obtain ⟨t0, rfl, w0⟩ := open_gr (hval 0 29 v0 rfl rfl) h0
  obtain ⟨a1, rfl, rfl, rfl, w1⟩ := open_int Try.underlying3 (hval 1 3 v1 rfl rfl) h1
  have k2 := h2
  have lt2 : ∀ x ∈ p2, x.block < W.heap.size := by obtain ⟨m, hm⟩ := k2; exact DataW.trod_lt m _ _ _ hm
  obtain ⟨s2, len2, cap2, rfl⟩ := okWide_slice Try.underlying34 (hval 2 34 v2 rfl rfl)
  obtain ⟨z2, w2⟩ := rows_ints h2
  clear hA0 hval0
  refine (ValidRound_any t0 a1 s2 len2 cap2 z2 W w0 w2).mono fun e W' ⟨he, bel⟩ => ?_
  subst he
  exact ⟨_, rfl, _, _, _, [], _, [], hW', trodAll_mk1 (shut_bool Try.underlying4 _), (trodAll_cons_mk (Below.trod laidOut (by kernel_rfl) (of_decide_eq_true (by kernel_rfl)) k0 bel lt0) (trodAll_cons_mk (shut_int Try.underlying3 w1) (trodAll_cons_mk (Below.trod laidOut (by kernel_rfl) (of_decide_eq_true (by kernel_rfl)) k2 bel lt2) trodAll_mk0))), rfl, bel.frame _, fun h => by cases h⟩

/-- The given statement. -/
theorem ValidRound_holds : Rows.ValidRoundSaid :=
  OpenClaim.holds_of_wide 5 Try.f5 rfl rfl rfl rfl rfl rfl rfl ⟨rfl, rfl, rfl, rfl, rfl⟩ rfl rfl rfl rfl rfl (by kernel_rfl) Try.func5 (by kernel_rfl)
    (of_decide_eq_true (by kernel_rfl)) (by unfold Func.isWrapper; first | (rw [if_pos (by decide +kernel)]; kernel_rfl) | (rw [if_neg (by decide +kernel)]; exact ⟨rfl, rfl⟩))
    (fun os started H enc _ => ValidRound_lifted os started H enc)


end Go.Proofs.Ytdgmfjaldicmgaa
