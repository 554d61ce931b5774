/-
  GcodePuts: for every graph (its first 260 nodes and 260 edges): gcode.Put lays down the bytes that the document's own Put does, or refuses it with the same error; the call returns true and leaves its argument as it was. No conditions.
-/
import Derived.Test.YtjebipagehhkjaaKHd
import Derived.Test.YtjebipagehhkjaaKRp
namespace Go.Proofs.Ytjebipagehhkjaa
set_option maxRecDepth 100000
open Go.ChangeShapes Go.WideShapes Go.ChangeAt Go.RowKit Go.Deep Go.Sort
set_option linter.unusedVariables false
set_option linter.unusedSimpArgs false

set_option maxHeartbeats 8000000 in
theorem puts_raw (gs : Option Addr) (gn gc : Nat) (gt : Option Addr) (gm gq : Nat) (N0 : List Nd) (E0 : List Ed) (w : World) (hN : IsNds w gs gn gc N0) (hE : IsEds w gt gm gq E0) :
    Calls Try.prog 3 #[.agg #[.slice gs gn gc, .slice gt gm gq]] w fun r w' => r = .returned (.bool true) ∧ Grow w w' := by
  have HN0 := hide (hN.cut 260)
  have HE0 := hide (hE.cut 260)
  have CF := hide (fun w => few_raw gs gn gc gt gm gq w hN.2.1 hE.2.1)
  have hn2' := cutN_le 260 gn
  have hm2' := cutN_le 260 gm
  obtain ⟨n2, hn2⟩ : ∃ n2, cutN 260 gn = n2 := ⟨_, rfl⟩
  obtain ⟨m2, hm2⟩ : ∃ m2, cutN 260 gm = m2 := ⟨_, rfl⟩
  obtain ⟨N, hNN⟩ : ∃ N, N0.take 260 = N := ⟨_, rfl⟩
  obtain ⟨E, hEE⟩ : ∃ E, E0.take 260 = E := ⟨_, rfl⟩
  rw [hn2] at HN0 CF hn2'
  rw [hm2] at HE0 CF hm2'
  rw [hNN] at HN0
  rw [hEE] at HE0
  clear hN hE hn2 hm2 hNN hEE
  have hn3 : Hid (n2 ≤ 260) := hide (by omega)
  have hm3 : Hid (m2 ≤ 260) := hide (by omega)
  have GG : Hid (Grow w (w.alloc (.cells #[.slice gs gn gc, .slice gt gm gq] 25))) := hide (Grow.alloc' _ _)
  have KG : Hid (BoxG (w.alloc (.cells #[.slice gs gn gc, .slice gt gm gq] 25)) w.heap.size ⟨gs, gn, gc, gt, gm, gq, [], []⟩) := hide (BoxG.new w ⟨gs, gn, gc, gt, gm, gq, [], []⟩)
  have KB : Hid (BlkG (w.alloc (.cells #[.slice gs gn gc, .slice gt gm gq] 25)) w.heap.size) := hide (BlkG.new w _ _)
  clear hn2' hm2'
  go_enter Try.func3, Try.ntmps3
  go_wp2_with fail
  generalize (w.alloc (.cells #[.slice gs gn gc, .slice gt gm gq] 25)) = w0 at *
  refine (shown_any _).mono ?_
  rintro _ w1 ⟨rfl, hb⟩
  have G1 := hide (Grow.trans' GG.out hb)
  have KB1 := hide (KB.out.later hb)
  obtain ⟨g0, g1⟩ := KG.out.later hb
  dsimp only at g0 g1
  clear hb KG KB GG
  go_wp2_with fail
  refine (CF.out _).mono ?_
  rintro _ w2 ⟨rfl, hb⟩
  have G2 := hide (Grow.trans' G1.out hb)
  have KB2 := hide (KB1.out.later hb)
  clear hb KB1 G1 g0 g1 CF
  go_wp2_with (refine wpList_putG rfl _ _ rfl w.heap.size ⟨gs, n2, gc, gt, m2, gq, [], []⟩ rfl rfl KB2.out w G2.out (Nat.le_refl _) ?_)
  intro w3 hg3 hb3 hoth hsame
  have G3 := hide hg3
  have HN := hide (HN0.out.later hg3)
  have HE := hide (HE0.out.later hg3)
  have KG3 := hide hb3
  obtain ⟨g0, g1⟩ := hb3
  dsimp only at g0 g1
  clear hg3 hoth hsame KB2 G2 HN0 HE0
  generalize w.heap.size = P at *
  go_wp2_with fail
  refine (put_any gs n2 gc gt m2 gq N E w3 hn3.out hm3.out HN.out HE.out).mono ?_
  rintro _ w4 ⟨hg, h4⟩
  have G4 := hide (Grow.trans' G3.out hg)
  have HN4 := hide (HN.out.later hg)
  have HE4 := hide (HE.out.later hg)
  obtain ⟨g0', g1'⟩ := KG3.out.later hg
  dsimp only at g0' g1'
  clear hg g0 g1
  rcases h4 with ⟨hf, s, n, c, rfl, hI⟩ | ⟨hf, rfl⟩
  · have HI := hide hI
    have HF := hide hf
    clear hI hf
    go_wp2_with fail
    refine (rput_any gs n2 gc gt m2 gq N E w4 HN4.out HE4.out).mono ?_
    rintro _ w5 ⟨hg, ⟨_, s', n', c', rfl, hI'⟩ | ⟨hno, _⟩⟩
    rotate_left
    · rw [HF.out] at hno; cases hno
    have G5 := hide (Grow.trans' G4.out hg)
    have kc := str_of byT Try.underlying9 w5 s n c (putG N E) (HI.out.later hg)
    have kc' := str_of byT Try.underlying9 w5 s' n' c' (putG N E) hI'
    clear hg hI' g0' g1'
    generalize putG N E = D at *
    go_wp2_with fail
    go_ret
    exact ⟨ret_bool (by simp), G5.out⟩
  · have HF := hide hf
    clear hf
    go_wp2_with fail
    refine (rput_any gs n2 gc gt m2 gq N E w4 HN4.out HE4.out).mono ?_
    rintro _ w5 ⟨hg, ⟨hno, _⟩ | ⟨_, rfl⟩⟩
    · rw [HF.out] at hno; cases hno
    have G5 := hide (Grow.trans' G4.out hg)
    have kc := str_of byT Try.underlying9 w5 none 0 0 [] (IsBy_nil _)
    clear hg g0' g1'
    go_wp2_with fail
    go_ret
    exact ⟨ret_bool (by simp), G5.out⟩

theorem GcodePuts_any (g : GA) (w : World) (hg : IsG w g) :
    Calls Try.prog 3 #[.agg #[.slice g.s g.n g.c, .slice g.t g.m g.q]] w fun r w' => r = .returned (.bool true) ∧ Grow w w' :=
  puts_raw g.s g.n g.c g.t g.m g.q g.N g.E w hg.nodes hg.edges

set_option maxRecDepth 100000 in
theorem GcodePuts_lifted (os : Os) (started : os.Started) (H : Type) (enc : TypeId × Value → H) :
    ReturnsInHanded {} Try.checked os 3 .any (Rows.gcodePutsSpec.pre6 enc Try.prog Try.f3 Rows.gcodePutsRow.domain false) (Rows.gcodePutsSpec.post enc Try.prog Try.f3 false true false false) := by
  refine returnsInHanded_of_change (C := Try.checked) own started (by kernel_rfl) Try.func3
    (ChangeSpec.witness6 (enc := enc) (C := Try.checked) false ⟨#[], #[.agg #[.slice none 0 0, .slice none 0 0]], []⟩ 8 (by kernel_rfl) (by kernel_rfl) (by kernel_rfl) (by kernel_rfl)) ?_
  intro W base args ds gs before hval0 hW hcnd _
  have hval : ∀ (j : Nat) t v, Try.f3.params[j]? = some t → args[j]? = some v → Value.okWide Try.prog W .any base t v := hval0
  have hW' := hW
  obtain ⟨p, q, hA0, hV, rfl, hfz, hnd⟩ := hW
  have hA : DataW.TrodAll enc Try.prog W 0 (fun _ => true) true Try.f3.params.toList args.toList ds p := hA0
  rw [Try.params3] at hA hval
  obtain ⟨v0, vs0, d0, ds0, p0, q0, hargs, rfl, rfl, h0, r0⟩ := trodAll_cons hA
  obtain ⟨rfl, rfl, rfl⟩ := trodAll_nil r0
  obtain rfl : args = #[v0] := by cases args; simp_all
  obtain ⟨rfl, rfl⟩ := trodVars_none hV
  have k0 := h0
  have lt0 : ∀ x ∈ p0, x.block < W.heap.size := by obtain ⟨m, hm⟩ := k0; exact DataW.trod_lt m _ _ _ hm
  obtain ⟨t0, rfl, w0⟩ := open_gr (hval 0 25 v0 rfl rfl) h0
  clear hA0 hval0
  refine (GcodePuts_any t0 W w0).mono fun e W' ⟨he, bel⟩ => ?_
  subst he
  exact ⟨_, rfl, _, _, _, [], _, [], hW', trodAll_mk1 (shut_bool Try.underlying4 _), (trodAll_cons_mk (Below.trod laidOut (by kernel_rfl) (of_decide_eq_true (by kernel_rfl)) k0 bel lt0) trodAll_mk0), rfl, bel.frame _, fun h => by cases h⟩

/-- The given statement. -/
theorem GcodePuts_holds : Rows.GcodePutsSaid :=
  OpenClaim.holds_of_wide 3 Try.f3 rfl rfl rfl rfl rfl rfl rfl ⟨rfl, rfl, rfl, rfl, rfl⟩ rfl rfl rfl rfl rfl (by kernel_rfl) Try.func3 (by kernel_rfl)
    (of_decide_eq_true (by kernel_rfl)) (by unfold Func.isWrapper; first | (rw [if_pos (by decide +kernel)]; kernel_rfl) | (rw [if_neg (by decide +kernel)]; exact ⟨rfl, rfl⟩))
    (fun os started H enc _ => GcodePuts_lifted os started H enc)


end Go.Proofs.Ytjebipagehhkjaa
