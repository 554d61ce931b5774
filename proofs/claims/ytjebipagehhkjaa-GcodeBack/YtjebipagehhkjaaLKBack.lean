/-
  GcodeBack: for every graph (its first 260 nodes and 260 edges), every place and every byte: what was laid down is taken as the graph that it was laid down of; with the byte behind it, or cut at the place, it is none; the call returns true and leaves its arguments as they were. No conditions.
-/
import Derived.Test.YtjebipagehhkjaaKHd
import Derived.Test.YtjebipagehhkjaaKSg
import Derived.Test.YtjebipagehhkjaaKTa
namespace Go.Proofs.Ytjebipagehhkjaa
set_option maxRecDepth 100000
open Go.ChangeShapes Go.WideShapes Go.ChangeAt Go.RowKit Go.Deep Go.Sort
set_option linter.unusedVariables false
set_option linter.unusedSimpArgs false

set_option maxHeartbeats 8000000 in
theorem back_raw (gs : Option Addr) (gn gc : Nat) (gt : Option Addr) (gm gq : Nat) (N0 : List Nd) (E0 : List Ed) (at_ : Int) (u : UInt8) (w : World) (hN : IsNds w gs gn gc N0) (hE : IsEds w gt gm gq E0) :
    Calls Try.prog 4 #[.agg #[.slice gs gn gc, .slice gt gm gq], .int .i64 at_, .int .u8 (u.toNat : Int)] w fun r w' => r = .returned (.bool true) ∧ Grow w w' := by
  have HN0 := hide (hN.cut 260)
  have HE0 := hide (hE.cut 260)
  have CF := hide (fun w => few_raw gs gn gc gt gm gq w hN.2.1 hE.2.1)
  have hn2' := cutN_le 260 gn
  have hm2' := cutN_le 260 gm
  obtain ⟨n2, hn2⟩ : ∃ n2, cutN 260 gn = n2 := ⟨_, rfl⟩
  obtain ⟨m2, hm2⟩ : ∃ m2, cutN 260 gm = m2 := ⟨_, rfl⟩
  obtain ⟨N, hNN⟩ : ∃ N, N0.take 260 = N := ⟨_, rfl⟩
  obtain ⟨E, hEE⟩ : ∃ E, E0.take 260 = E := ⟨_, rfl⟩
  rw [hn2] at HN0 CF hn2'
  rw [hm2] at HE0 CF hm2'
  rw [hNN] at HN0
  rw [hEE] at HE0
  clear hN hE hn2 hm2 hNN hEE
  have hn3 : Hid (n2 ≤ 260) := hide (by omega)
  have hm3 : Hid (m2 ≤ 260) := hide (by omega)
  have GG : Hid (Grow w (w.alloc (.cells #[.slice gs gn gc, .slice gt gm gq] 25))) := hide (Grow.alloc' _ _)
  have KG : Hid (BoxG (w.alloc (.cells #[.slice gs gn gc, .slice gt gm gq] 25)) w.heap.size ⟨gs, gn, gc, gt, gm, gq, [], []⟩) := hide (BoxG.new w ⟨gs, gn, gc, gt, gm, gq, [], []⟩)
  have KB : Hid (BlkG (w.alloc (.cells #[.slice gs gn gc, .slice gt gm gq] 25)) w.heap.size) := hide (BlkG.new w _ _)
  clear hn2' hm2'
  go_enter Try.func4, Try.ntmps4
  go_wp2_with fail
  generalize (w.alloc (.cells #[.slice gs gn gc, .slice gt gm gq] 25)) = w0 at *
  refine (shown_any _).mono ?_
  rintro _ w1 ⟨rfl, hb⟩
  have G1 := hide (Grow.trans' GG.out hb)
  have KB1 := hide (KB.out.later hb)
  obtain ⟨g0, g1⟩ := KG.out.later hb
  dsimp only at g0 g1
  clear hb KG KB GG
  go_wp2_with fail
  refine (CF.out _).mono ?_
  rintro _ w2 ⟨rfl, hb⟩
  have G2 := hide (Grow.trans' G1.out hb)
  have KB2 := hide (KB1.out.later hb)
  clear hb KB1 G1 g0 g1 CF
  go_wp2_with (refine wpList_putG rfl _ _ rfl w.heap.size ⟨gs, n2, gc, gt, m2, gq, [], []⟩ rfl rfl KB2.out w G2.out (Nat.le_refl _) ?_)
  intro w3 hg3 hb3 hoth hsame
  have G3 := hide hg3
  have HN := hide (HN0.out.later hg3)
  have HE := hide (HE0.out.later hg3)
  have KG3 := hide hb3
  obtain ⟨g0, g1⟩ := hb3
  dsimp only at g0 g1
  clear hg3 hoth hsame KB2 G2 HN0 HE0
  generalize w.heap.size = P at *
  go_wp2_with fail
  refine (put_any gs n2 gc gt m2 gq N E w3 hn3.out hm3.out HN.out HE.out).mono ?_
  rintro _ w4 ⟨hg, ⟨hf, s, n, c, rfl, hI⟩ | ⟨hf, rfl⟩⟩
  rotate_left
  · have G4 := hide (Grow.trans' G3.out hg)
    clear hg hf g0 g1
    go_wp2_with fail
    go_ret
    exact ⟨rfl, G4.out⟩
  have G4 := hide (Grow.trans' G3.out hg)
  have HN4 := hide (HN.out.later hg)
  have HE4 := hide (HE.out.later hg)
  have KG4 := hide (KG3.out.later hg)
  have HF := hide hf
  have HI := hide hI
  have HNL : Hid (n ≤ 5000) := hide (by
    rw [← hI.1, putG_length, HN.out.1, HE.out.1]
    have h1 := hn3.out
    have h2 := hm3.out
    omega)
  clear hg hf hI g0 g1 KG3 G3 HN HE
  go_wp2_with fail
  refine (take_any s n c (putG N E) w4 HI.out).mono ?_
  rintro _ w5 ⟨hg, ⟨_, s5, c5, t5, q5, rfl, hN5, hE5⟩ | ⟨hno, _⟩⟩
  rotate_left
  · rw [(take_put HF.out).1] at hno; cases hno
  rw [(take_put HF.out).2.1] at hN5
  rw [(take_put HF.out).2.2] at hE5
  generalize nn (putG N E) = n5 at *
  generalize ne (putG N E) = m5 at *
  have G5 := hide (Grow.trans' (Grow.trans' G4.out hg) (Grow.alloc' w5 (.cells #[.slice s5 n5 c5, .slice t5 m5 q5] 25)))
  have HN6 := hide ((HN4.out.later hg).later (Grow.alloc' w5 (.cells #[.slice s5 n5 c5, .slice t5 m5 q5] 25)))
  have HE6 := hide ((HE4.out.later hg).later (Grow.alloc' w5 (.cells #[.slice s5 n5 c5, .slice t5 m5 q5] 25)))
  have KG6 := hide ((KG4.out.later hg).later (Grow.alloc' w5 (.cells #[.slice s5 n5 c5, .slice t5 m5 q5] 25)))
  have KH6 := hide (BoxG.new w5 ⟨s5, n5, c5, t5, m5, q5, [], []⟩)
  have HX := hide (hN5.later (Grow.alloc' w5 (.cells #[.slice s5 n5 c5, .slice t5 m5 q5] 25)))
  have HY := hide (hE5.later (Grow.alloc' w5 (.cells #[.slice s5 n5 c5, .slice t5 m5 q5] 25)))
  have HI6 := hide ((HI.out.later hg).later (Grow.alloc' w5 (.cells #[.slice s5 n5 c5, .slice t5 m5 q5] 25)))
  clear hg hN5 hE5 KG4 G4 HN4 HE4 HI
  obtain ⟨g0, g1⟩ := KG6.out
  dsimp only at g0 g1
  go_upto_region 7 with fail
  generalize w5.alloc (.cells #[.slice s5 n5 c5, .slice t5 m5 q5] 25) = w6 at *
  generalize w5.heap.size = Q at *
  obtain ⟨h0, h1⟩ := KH6.out
  dsimp only at h0 h1
  go_wp2_with fail
  refine (same_any gs n2 gc gt m2 gq N E s5 n5 c5 t5 m5 q5 N E w6 (by have := hn3.out; omega) (by have := hm3.out; omega) HN6.out HE6.out HX.out HY.out (sameG_self N E)).mono ?_
  rintro _ w7 ⟨rfl, hg⟩
  have G7 := hide (Grow.trans' G5.out hg)
  have HI7 := hide (HI6.out.later hg)
  clear hg g0 g1 h0 h1 KG6 KH6 HN6 HE6 HX HY HI6 G5
  go_wp2_with (at_builtin; refine wpList_apd_by byT rfl _ _ rfl w7.heap.size (some ⟨w7.heap.size, 0, none⟩) 0 0 [] (putG N E) rfl (OwnU.lit w7 _ _ (Nat.le_refl _) [] #[] rfl 0 rfl (by omega)) s n c rfl (HI7.out.later (Grow.alloc' _ _)) (by have := HNL.out; omega) (by simp) ?_)
  intro s8 c8 w8 hO8 hg8
  have O8 := hide hO8
  have HG8 := hide (hg8.grow (W := w7) (Grow.alloc' _ _) (Nat.le_refl _))
  clear hO8 hg8
  go_wp2_with (at_builtin; refine wpList_apd_by byT rfl _ _ rfl w7.heap.size s8 n c8 (putG N E) [u] rfl (O8.out.later (Grow.alloc' _ _)) (some ⟨w8.heap.size, 0, none⟩) 1 1 rfl (IsBy.lit w8 _ [u] _ (by simp [flatU]) 1 rfl) (by have := HNL.out; omega) (by have := HG8.out.size; simp; omega) ?_)
  intro s9 c9 w9 hO9 hg9
  have O9 := hide hO9.is
  have HG9 := hide (hg9.grow (W := w7) (Grow.trans' HG8.out (Grow.alloc' _ _)) (Nat.le_refl _))
  clear hO9 hg9
  go_wp2_with fail
  refine (take_any s9 (n + 1) c9 (putG N E ++ [u]) w9 O9.out).mono ?_
  rintro _ w10 ⟨hg, ⟨hyes, _⟩ | ⟨_, rfl⟩⟩
  · rw [put_more HF.out u] at hyes; cases hyes
  have HG10 := hide (Grow.trans' HG9.out (Grow.trans' hg (Grow.alloc' w10 (.cells #[.slice none 0 0, .slice none 0 0] 25))))
  clear hg O8 O9 HG8 HG9
  go_upto_region 9 with fail
  generalize w10.alloc (.cells #[.slice none 0 0, .slice none 0 0] 25) = w11 at *
  generalize w10.heap.size = Q2 at *
  have HI11 := hide (HI7.out.later HG10.out)
  have G11 := hide (Grow.trans' G7.out HG10.out)
  clear HI7 HG10 G7
  by_cases hneg : at_ < 0
  · go_wp2_with fail
    go_ret
    exact ⟨rfl, G11.out⟩
  by_cases hbig : (n : Int) ≤ at_
  · go_wp2_with fail
    go_ret
    exact ⟨rfl, G11.out⟩
  obtain ⟨k, rfl⟩ : ∃ k : Nat, at_ = (k : Int) := ⟨at_.toNat, by omega⟩
  have hk : k < n := by omega
  have kh : ∀ w, (Instr.slice 28 (.slice s n c) none (some (.int .i64 (k : Int))) none).run Try.prog w = .ok (.slice s k c) w := fun w => run_headU s n c k w (by have := HI11.out.2.1; omega)
  have HCUT : Hid (isB10 ((putG N E).take k) = false) := hide (put_cut HF.out (by rw [HI11.out.1]; exact hk))
  have HIK := hide (HI11.out.take' k (by omega))
  have hb1 : ¬ (k : Int) < 0 := by omega
  have hb2 : ¬ (n : Int) ≤ (k : Int) := by omega
  clear hneg hbig hk
  go_wp2_with fail
  refine (take_any s k c ((putG N E).take k) w11 HIK.out).mono ?_
  rintro _ w12 ⟨hg, ⟨hyes, _⟩ | ⟨_, rfl⟩⟩
  · rw [HCUT.out] at hyes; cases hyes
  have G12 := hide (Grow.trans' G11.out (Grow.trans' hg (Grow.alloc' w12 (.cells #[.slice none 0 0, .slice none 0 0] 25))))
  clear hg kh hb1 hb2
  go_wp2_with fail
  go_ret
  exact ⟨rfl, G12.out⟩
theorem GcodeBack_any (g : GA) (a1 a2 : Int) (h2 : (Lit.int .u8 a2).wf = true) (w : World) (hg : IsG w g) :
    Calls Try.prog 4 #[.agg #[.slice g.s g.n g.c, .slice g.t g.m g.q], .int .i64 a1, .int .u8 a2] w fun r w' => r = .returned (.bool true) ∧ Grow w w' := by
  have h := back_raw g.s g.n g.c g.t g.m g.q g.N g.E a1 (UInt8.ofNat a2.toNat) w hg.nodes hg.edges
  rw [u8_of (wf_u8 h2)] at h
  exact h

set_option maxRecDepth 100000 in
theorem GcodeBack_lifted (os : Os) (started : os.Started) (H : Type) (enc : TypeId × Value → H) :
    ReturnsInHanded {} Try.checked os 4 .any (Rows.gcodeBackSpec.pre6 enc Try.prog Try.f4 Rows.gcodeBackRow.domain false) (Rows.gcodeBackSpec.post enc Try.prog Try.f4 false true false false) := by
  refine returnsInHanded_of_change (C := Try.checked) own started (by kernel_rfl) Try.func4
    (ChangeSpec.witness6 (enc := enc) (C := Try.checked) false ⟨#[], #[.agg #[.slice none 0 0, .slice none 0 0], .int .i64 0, .int .u8 0], []⟩ 8 (by kernel_rfl) (by kernel_rfl) (by kernel_rfl) (by kernel_rfl)) ?_
  intro W base args ds gs before hval0 hW hcnd _
  have hval : ∀ (j : Nat) t v, Try.f4.params[j]? = some t → args[j]? = some v → Value.okWide Try.prog W .any base t v := hval0
  have hW' := hW
  obtain ⟨p, q, hA0, hV, rfl, hfz, hnd⟩ := hW
  have hA : DataW.TrodAll enc Try.prog W 0 (fun _ => true) true Try.f4.params.toList args.toList ds p := hA0
  rw [Try.params4] at hA hval
  obtain ⟨v0, vs0, d0, ds0, p0, q0, hargs, rfl, rfl, h0, r0⟩ := trodAll_cons hA
  obtain ⟨v1, vs1, d1, ds1, p1, q1, rfl, rfl, rfl, h1, r1⟩ := trodAll_cons r0
  obtain ⟨v2, vs2, d2, ds2, p2, q2, rfl, rfl, rfl, h2, r2⟩ := trodAll_cons r1
  obtain ⟨rfl, rfl, rfl⟩ := trodAll_nil r2
  obtain rfl : args = #[v0, v1, v2] := by cases args; simp_all
  obtain ⟨rfl, rfl⟩ := trodVars_none hV
  have k0 := h0
  have lt0 : ∀ x ∈ p0, x.block < W.heap.size := by obtain ⟨m, hm⟩ := k0; exact DataW.trod_lt m _ _ _ hm
  obtain ⟨t0, rfl, w0⟩ := open_gr (hval 0 25 v0 rfl rfl) h0
  obtain ⟨a1, rfl, rfl, rfl, w1⟩ := open_int Try.underlying3 (hval 1 3 v1 rfl rfl) h1
  obtain ⟨a2, rfl, rfl, rfl, w2⟩ := open_int Try.underlying5 (hval 2 5 v2 rfl rfl) h2
  clear hA0 hval0
  refine (GcodeBack_any t0 a1 a2 w2 W w0).mono fun e W' ⟨he, bel⟩ => ?_
  subst he
  exact ⟨_, rfl, _, _, _, [], _, [], hW', trodAll_mk1 (shut_bool Try.underlying4 _), (trodAll_cons_mk (Below.trod laidOut (by kernel_rfl) (of_decide_eq_true (by kernel_rfl)) k0 bel lt0) (trodAll_cons_mk (shut_int Try.underlying3 w1) (trodAll_cons_mk (shut_int Try.underlying5 w2) trodAll_mk0))), rfl, bel.frame _, fun h => by cases h⟩

/-- The given statement. -/
theorem GcodeBack_holds : Rows.GcodeBackSaid :=
  OpenClaim.holds_of_wide 4 Try.f4 rfl rfl rfl rfl rfl rfl rfl ⟨rfl, rfl, rfl, rfl, rfl⟩ rfl rfl rfl rfl rfl (by kernel_rfl) Try.func4 (by kernel_rfl)
    (of_decide_eq_true (by kernel_rfl)) (by unfold Func.isWrapper; first | (rw [if_pos (by decide +kernel)]; kernel_rfl) | (rw [if_neg (by decide +kernel)]; exact ⟨rfl, rfl⟩))
    (fun os started H enc _ => GcodeBack_lifted os started H enc)


end Go.Proofs.Ytjebipagehhkjaa
