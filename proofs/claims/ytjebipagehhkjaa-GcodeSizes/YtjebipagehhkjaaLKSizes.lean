/-
  GcodeSizes: for every two graphs (their first 260 nodes and 260 edges): if both are laid down, the first one has 4 bytes, 6 a node and 3 an edge, and the bytes of both are the same just if the graphs are; the call returns true and leaves its arguments as they were. No conditions.
-/
import Derived.Test.YtjebipagehhkjaaKHd
import Derived.Test.YtjebipagehhkjaaKSg
namespace Go.Proofs.Ytjebipagehhkjaa
set_option maxRecDepth 100000
open Go.ChangeShapes Go.WideShapes Go.ChangeAt Go.RowKit Go.Deep Go.Sort
set_option linter.unusedVariables false
set_option linter.unusedSimpArgs false

theorem BoxG.other {w w' : World} {b : Nat} {g : GA} (hx : ∀ x : Addr, x.block ≠ b → w'.cell? x = w.cell? x) {k : Nat} (hk : k ≠ b) (h : BoxG w k g) : BoxG w' k g :=
  ⟨(hx ⟨k, 0, none⟩ hk).trans h.1, (hx ⟨k, 1, none⟩ hk).trans h.2⟩
set_option maxHeartbeats 8000000 in
theorem sizes_raw (gs : Option Addr) (gn gc : Nat) (gt : Option Addr) (gm gq : Nat) (N0 : List Nd) (E0 : List Ed) (hs : Option Addr) (hn hc : Nat) (ht : Option Addr) (hm hq : Nat) (M0 : List Nd) (F0 : List Ed) (w : World) (hN : IsNds w gs gn gc N0) (hE : IsEds w gt gm gq E0) (hM : IsNds w hs hn hc M0) (hF : IsEds w ht hm hq F0) :
    Calls Try.prog 5 #[.agg #[.slice gs gn gc, .slice gt gm gq], .agg #[.slice hs hn hc, .slice ht hm hq]] w fun r w' => r = .returned (.bool true) ∧ Grow w w' := by
  have HN0 := hide (hN.cut 260)
  have HE0 := hide (hE.cut 260)
  have HM0 := hide (hM.cut 260)
  have HF0 := hide (hF.cut 260)
  have CF := hide (fun w => few_raw gs gn gc gt gm gq w hN.2.1 hE.2.1)
  have CF2 := hide (fun w => few_raw hs hn hc ht hm hq w hM.2.1 hF.2.1)
  have b1 := (cutN_le 260 gn).1
  have b2 := (cutN_le 260 gm).1
  have b3 := (cutN_le 260 hn).1
  have b4 := (cutN_le 260 hm).1
  obtain ⟨n2, hn2⟩ : ∃ n2, cutN 260 gn = n2 := ⟨_, rfl⟩
  obtain ⟨m2, hm2⟩ : ∃ m2, cutN 260 gm = m2 := ⟨_, rfl⟩
  obtain ⟨j2, hj2⟩ : ∃ n2, cutN 260 hn = n2 := ⟨_, rfl⟩
  obtain ⟨k2, hk2⟩ : ∃ m2, cutN 260 hm = m2 := ⟨_, rfl⟩
  obtain ⟨N, hNN⟩ : ∃ N, N0.take 260 = N := ⟨_, rfl⟩
  obtain ⟨E, hEE⟩ : ∃ E, E0.take 260 = E := ⟨_, rfl⟩
  obtain ⟨M, hMM⟩ : ∃ N, M0.take 260 = N := ⟨_, rfl⟩
  obtain ⟨F, hFF⟩ : ∃ E, F0.take 260 = E := ⟨_, rfl⟩
  rw [hn2] at HN0 CF b1
  rw [hm2] at HE0 CF b2
  rw [hj2] at HM0 CF2 b3
  rw [hk2] at HF0 CF2 b4
  rw [hNN] at HN0
  rw [hEE] at HE0
  rw [hMM] at HM0
  rw [hFF] at HF0
  have B1 := hide b1
  have B2 := hide b2
  have B3 := hide b3
  have B4 := hide b4
  clear hN hE hM hF hn2 hm2 hj2 hk2 hNN hEE hMM hFF b1 b2 b3 b4
  have hz : (w.alloc (.cells #[.slice gs gn gc, .slice gt gm gq] 25)).heap.size = w.heap.size + 1 := by simp
  have GG : Hid (Grow w ((w.alloc (.cells #[.slice gs gn gc, .slice gt gm gq] 25)).alloc (.cells #[.slice hs hn hc, .slice ht hm hq] 25))) := hide (Grow.trans' (Grow.alloc' _ _) (Grow.alloc' _ _))
  have KG : Hid (BoxG ((w.alloc (.cells #[.slice gs gn gc, .slice gt gm gq] 25)).alloc (.cells #[.slice hs hn hc, .slice ht hm hq] 25)) w.heap.size ⟨gs, gn, gc, gt, gm, gq, [], []⟩) := hide ((BoxG.new w ⟨gs, gn, gc, gt, gm, gq, [], []⟩).later (Grow.alloc' _ _))
  have KB : Hid (BlkG ((w.alloc (.cells #[.slice gs gn gc, .slice gt gm gq] 25)).alloc (.cells #[.slice hs hn hc, .slice ht hm hq] 25)) w.heap.size) := hide ((BlkG.new w _ _).later (Grow.alloc' _ _))
  have KH : Hid (BoxG ((w.alloc (.cells #[.slice gs gn gc, .slice gt gm gq] 25)).alloc (.cells #[.slice hs hn hc, .slice ht hm hq] 25)) (w.heap.size + 1) ⟨hs, hn, hc, ht, hm, hq, [], []⟩) := hide (by have := BoxG.new (w.alloc (.cells #[.slice gs gn gc, .slice gt gm gq] 25)) ⟨hs, hn, hc, ht, hm, hq, [], []⟩; rw [hz] at this; exact this)
  have KC : Hid (BlkG ((w.alloc (.cells #[.slice gs gn gc, .slice gt gm gq] 25)).alloc (.cells #[.slice hs hn hc, .slice ht hm hq] 25)) (w.heap.size + 1)) := hide (by have := BlkG.new (w.alloc (.cells #[.slice gs gn gc, .slice gt gm gq] 25)) (.slice hs hn hc) (.slice ht hm hq); rw [hz] at this; exact this)
  clear hz
  go_enter Try.func5, Try.ntmps5
  go_wp2_with fail
  generalize ((w.alloc (.cells #[.slice gs gn gc, .slice gt gm gq] 25)).alloc (.cells #[.slice hs hn hc, .slice ht hm hq] 25)) = w0 at *
  refine (shown_any _).mono ?_
  rintro _ w1 ⟨rfl, hb⟩
  have G1 := hide (Grow.trans' GG.out hb)
  have KB1 := hide (KB.out.later hb)
  have KH1 := hide (KH.out.later hb)
  have KC1 := hide (KC.out.later hb)
  obtain ⟨g0, g1⟩ := KG.out.later hb
  dsimp only at g0 g1
  clear hb KG KB KH KC GG
  go_wp2_with fail
  refine (CF.out _).mono ?_
  rintro _ w2 ⟨rfl, hb⟩
  have G2 := hide (Grow.trans' G1.out hb)
  have KB2 := hide (KB1.out.later hb)
  have KH2 := hide (KH1.out.later hb)
  have KC2 := hide (KC1.out.later hb)
  clear hb KB1 KH1 KC1 G1 g0 g1 CF
  go_wp2_with (refine wpList_putG2 rfl _ _ rfl w.heap.size ⟨gs, n2, gc, gt, m2, gq, [], []⟩ rfl rfl KB2.out w G2.out (Nat.le_refl _) ?_)
  intro w3 hg3 hb3 hbb hoth _
  have G3 := hide hg3
  have KG3 := hide hb3
  have KH3 : Hid (BoxG w3 (w.heap.size + 1) ⟨hs, hn, hc, ht, hm, hq, [], []⟩) := hide (KH2.out.keep (hoth _ (by omega)))
  have KC3 : Hid (BlkG w3 (w.heap.size + 1)) := hide (KC2.out.keep (hoth _ (by omega)))
  obtain ⟨h0, h1⟩ := KH3.out
  dsimp only at h0 h1
  clear hg3 hoth hbb hb3 KB2 G2 KH2 KC2
  go_wp2_with fail
  refine (CF2.out _).mono ?_
  rintro _ w4 ⟨rfl, hb⟩
  have G4 := hide (Grow.trans' G3.out hb)
  have KG4 := hide (KG3.out.later hb)
  have KC4 := hide (KC3.out.later hb)
  clear hb KG3 KC3 KH3 G3 h0 h1 CF2
  go_wp2_with (refine wpList_putG2 rfl _ _ rfl (w.heap.size + 1) ⟨hs, j2, hc, ht, k2, hq, [], []⟩ rfl rfl KC4.out w G4.out (Nat.le_succ _) ?_)
  intro w5 hg5 hb5 hbb hoth _
  have G5 := hide hg5
  have KH5 := hide hb5
  have KG5 : Hid (BoxG w5 w.heap.size ⟨gs, n2, gc, gt, m2, gq, [], []⟩) := hide (KG4.out.keep (hoth _ (by omega)))
  have HN := hide (HN0.out.later hg5)
  have HE := hide (HE0.out.later hg5)
  have HM := hide (HM0.out.later hg5)
  have HF := hide (HF0.out.later hg5)
  obtain ⟨g0, g1⟩ := KG5.out
  obtain ⟨h0, h1⟩ := KH5.out
  dsimp only at g0 g1 h0 h1
  clear hg5 hoth hbb hb5 KC4 G4 KG4 HN0 HE0 HM0 HF0
  generalize w.heap.size = P at *
  go_wp2_with fail
  refine (put_any gs n2 gc gt m2 gq N E w5 B1.out B2.out HN.out HE.out).mono ?_
  rintro _ w6 ⟨hg, h6⟩
  have G6 := hide (Grow.trans' G5.out hg)
  have KG6 := hide (KG5.out.later hg)
  have KH6 := hide (KH5.out.later hg)
  have HN6 := hide (HN.out.later hg)
  have HE6 := hide (HE.out.later hg)
  have HM6 := hide (HM.out.later hg)
  have HF6 := hide (HF.out.later hg)
  clear hg g0 g1 h0 h1 KG5 KH5 G5 HN HE HM HF
  obtain ⟨h0, h1⟩ := KH6.out
  dsimp only at h0 h1
  rcases h6 with ⟨hf, s, n, c, rfl, hI⟩ | ⟨hf, rfl⟩
  rotate_left
  · clear hf
    go_wp2_with fail
    refine (put_any hs j2 hc ht k2 hq M F w6 B3.out B4.out HM6.out HF6.out).mono ?_
    rintro _ w7 ⟨hg, ⟨_, s', n', c', rfl, _⟩ | ⟨_, rfl⟩⟩
    all_goals
      have G7 := hide (Grow.trans' G6.out hg)
      clear hg h0 h1
      go_wp2_with fail
      go_ret
      exact ⟨rfl, G7.out⟩
  have HFT := hide hf
  have HI := hide hI
  clear hf hI
  go_wp2_with fail
  refine (put_any hs j2 hc ht k2 hq M F w6 B3.out B4.out HM6.out HF6.out).mono ?_
  rintro _ w7 ⟨hg, ⟨hf2, s', n', c', rfl, hI'⟩ | ⟨_, rfl⟩⟩
  rotate_left
  · have G7 := hide (Grow.trans' G6.out hg)
    clear hg h0 h1
    go_wp2_with fail
    go_ret
    exact ⟨rfl, G7.out⟩
  have G7 := hide (Grow.trans' G6.out hg)
  have HFU := hide hf2
  obtain ⟨g0, g1⟩ := KG6.out.later hg
  obtain ⟨r0, r1⟩ := KH6.out.later hg
  dsimp only at g0 g1 r0 r1
  have KG7 := hide (KG6.out.later hg)
  have HI7 := hide (HI.out.later hg)
  have HJ7 := hide hI'
  have hbn := B1.out
  have hbm := B2.out
  obtain ⟨z, hz⟩ : ∃ z, sameG N E M F = z := ⟨_, rfl⟩
  have CS := hide (same_any gs n2 gc gt m2 gq N E hs j2 hc ht k2 hq M F w7 (by omega) (by omega) (HN6.out.later hg) (HE6.out.later hg) (HM6.out.later hg) (HF6.out.later hg) hz)
  have HZ := hide hz
  clear hg h0 h1 hf2 hI' hz
  go_wp2_with fail
  refine CS.out.mono ?_
  rintro _ w8 ⟨rfl, hg⟩
  have G8 := hide (Grow.trans' G7.out hg)
  obtain ⟨k0, k1⟩ := KG7.out.later hg
  dsimp only at k0 k1
  have kc := str_of byT Try.underlying9 w8 s n c (putG N E) (HI7.out.later hg)
  have kc' := str_of byT Try.underlying9 w8 s' n' c' (putG M F) (HJ7.out.later hg)
  have hln : (n : Int) = 4 + 6 * (n2 : Int) + 3 * (m2 : Int) := by
    have e1 := HI7.out.1
    rw [putG_length, HN6.out.1, HE6.out.1] at e1
    omega
  have HPS := hide (put_same HFT.out HFU.out)
  rw [HZ.out] at HPS
  clear hg g0 g1 r0 r1 CS
  have hle : ((n : Int) == 4 + 6 * (n2 : Int) + 3 * (m2 : Int)) = true := by simpa using hln
  clear hln
  cases z
  · have hne : ¬ putG N E = putG M F := fun h => by have := HPS.out; rw [decide_eq_true h] at this; cases this
    generalize putG N E = D at *
    generalize putG M F = D' at *
    have HNE := hide hne
    clear hne
    go_wp2_with fail
    go_ret
    exact ⟨ret_bool (by have := HNE.out; simp [this]), G8.out⟩
  · have heq : putG N E = putG M F := of_decide_eq_true HPS.out
    rw [heq] at kc
    generalize putG M F = D' at *
    clear heq
    go_wp2_with fail
    go_ret
    exact ⟨ret_bool (by simp), G8.out⟩
theorem GcodeSizes_any (g h : GA) (w : World) (hg : IsG w g) (hh : IsG w h) :
    Calls Try.prog 5 #[.agg #[.slice g.s g.n g.c, .slice g.t g.m g.q], .agg #[.slice h.s h.n h.c, .slice h.t h.m h.q]] w fun r w' => r = .returned (.bool true) ∧ Grow w w' :=
  sizes_raw g.s g.n g.c g.t g.m g.q g.N g.E h.s h.n h.c h.t h.m h.q h.N h.E w hg.nodes hg.edges hh.nodes hh.edges

set_option maxRecDepth 100000 in
theorem GcodeSizes_lifted (os : Os) (started : os.Started) (H : Type) (enc : TypeId × Value → H) :
    ReturnsInHanded {} Try.checked os 5 .any (Rows.gcodeSizesSpec.pre6 enc Try.prog Try.f5 Rows.gcodeSizesRow.domain false) (Rows.gcodeSizesSpec.post enc Try.prog Try.f5 false true false false) := by
  refine returnsInHanded_of_change (C := Try.checked) own started (by kernel_rfl) Try.func5
    (ChangeSpec.witness6 (enc := enc) (C := Try.checked) false ⟨#[], #[.agg #[.slice none 0 0, .slice none 0 0], .agg #[.slice none 0 0, .slice none 0 0]], []⟩ 8 (by kernel_rfl) (by kernel_rfl) (by kernel_rfl) (by kernel_rfl)) ?_
  intro W base args ds gs before hval0 hW hcnd _
  have hval : ∀ (j : Nat) t v, Try.f5.params[j]? = some t → args[j]? = some v → Value.okWide Try.prog W .any base t v := hval0
  have hW' := hW
  obtain ⟨p, q, hA0, hV, rfl, hfz, hnd⟩ := hW
  have hA : DataW.TrodAll enc Try.prog W 0 (fun _ => true) true Try.f5.params.toList args.toList ds p := hA0
  rw [Try.params5] at hA hval
  obtain ⟨v0, vs0, d0, ds0, p0, q0, hargs, rfl, rfl, h0, r0⟩ := trodAll_cons hA
  obtain ⟨v1, vs1, d1, ds1, p1, q1, rfl, rfl, rfl, h1, r1⟩ := trodAll_cons r0
  obtain ⟨rfl, rfl, rfl⟩ := trodAll_nil r1
  obtain rfl : args = #[v0, v1] := by cases args; simp_all
  obtain ⟨rfl, rfl⟩ := trodVars_none hV
  have k0 := h0
  have lt0 : ∀ x ∈ p0, x.block < W.heap.size := by obtain ⟨m, hm⟩ := k0; exact DataW.trod_lt m _ _ _ hm
  obtain ⟨t0, rfl, w0⟩ := open_gr (hval 0 25 v0 rfl rfl) h0
  have k1 := h1
  have lt1 : ∀ x ∈ p1, x.block < W.heap.size := by obtain ⟨m, hm⟩ := k1; exact DataW.trod_lt m _ _ _ hm
  obtain ⟨t1, rfl, w1⟩ := open_gr (hval 1 25 v1 rfl rfl) h1
  clear hA0 hval0
  refine (GcodeSizes_any t0 t1 W w0 w1).mono fun e W' ⟨he, bel⟩ => ?_
  subst he
  exact ⟨_, rfl, _, _, _, [], _, [], hW', trodAll_mk1 (shut_bool Try.underlying4 _), (trodAll_cons_mk (Below.trod laidOut (by kernel_rfl) (of_decide_eq_true (by kernel_rfl)) k0 bel lt0) (trodAll_cons_mk (Below.trod laidOut (by kernel_rfl) (of_decide_eq_true (by kernel_rfl)) k1 bel lt1) trodAll_mk0)), rfl, bel.frame _, fun h => by cases h⟩

/-- The given statement. -/
theorem GcodeSizes_holds : Rows.GcodeSizesSaid :=
  OpenClaim.holds_of_wide 5 Try.f5 rfl rfl rfl rfl rfl rfl rfl ⟨rfl, rfl, rfl, rfl, rfl⟩ rfl rfl rfl rfl rfl (by kernel_rfl) Try.func5 (by kernel_rfl)
    (of_decide_eq_true (by kernel_rfl)) (by unfold Func.isWrapper; first | (rw [if_pos (by decide +kernel)]; kernel_rfl) | (rw [if_neg (by decide +kernel)]; exact ⟨rfl, rfl⟩))
    (fun os started H enc _ => GcodeSizes_lifted os started H enc)


end Go.Proofs.Ytjebipagehhkjaa
