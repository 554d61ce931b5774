/-
  GraphMany: for every graph (its first 20 nodes and 40 edges): the edges that are from one of its nodes are as many as lead from its nodes together; the call returns true and leaves its argument as it was. No conditions.
-/
import Derived.Test.YtjpaclcpebpcjaaHHd
import Derived.Test.YtjpaclcpebpcjaaHNx
namespace Go.Proofs.Ytjpaclcpebpcjaa
set_option maxRecDepth 100000
open Go.ChangeShapes Go.WideShapes Go.ChangeAt Go.RowKit Go.Deep Go.Sort
set_option linter.unusedVariables false
set_option linter.unusedSimpArgs false

set_option maxHeartbeats 8000000 in
theorem many_raw (gs : Option Addr) (gn gc : Nat) (gt : Option Addr) (gm gq : Nat) (N0 : List Nd) (E0 : List Ed) (w : World) (hN : IsNds w gs gn gc N0) (hE : IsEds w gt gm gq E0) :
    Calls Try.prog 7 #[.agg #[.slice gs gn gc, .slice gt gm gq]] w fun r w' => r = .returned (.bool true) ∧ Grow w w' := by
  have HN0 := hide (hN.cut 20)
  have HE0 := hide (hE.cut 40)
  have CF := hide (fun w => few_raw gs gn gc gt gm gq w hN.2.1 hE.2.1)
  have hn2' := cutN_le 20 gn
  have hm2' := cutN_le 40 gm
  obtain ⟨n2, hn2⟩ : ∃ n2, cutN 20 gn = n2 := ⟨_, rfl⟩
  obtain ⟨m2, hm2⟩ : ∃ m2, cutN 40 gm = m2 := ⟨_, rfl⟩
  obtain ⟨N, hNN⟩ : ∃ N, N0.take 20 = N := ⟨_, rfl⟩
  obtain ⟨E, hEE⟩ : ∃ E, E0.take 40 = E := ⟨_, rfl⟩
  rw [hn2] at HN0 CF hn2'
  rw [hm2] at HE0 CF hm2'
  rw [hNN] at HN0
  rw [hEE] at HE0
  clear hN hE hn2 hm2 hNN hEE
  have hn3 : n2 ≤ 20 := by omega
  have hm3 : m2 ≤ 40 := by omega
  have GG : Hid (Grow w (w.alloc (.cells #[.slice gs gn gc, .slice gt gm gq] 39))) := hide (Grow.alloc' _ _)
  have KG : Hid (BoxG (w.alloc (.cells #[.slice gs gn gc, .slice gt gm gq] 39)) w.heap.size ⟨gs, gn, gc, gt, gm, gq, [], []⟩) := hide (BoxG.new w ⟨gs, gn, gc, gt, gm, gq, [], []⟩)
  have KB : Hid (BlkG (w.alloc (.cells #[.slice gs gn gc, .slice gt gm gq] 39)) w.heap.size) := hide (BlkG.new w _ _)
  clear hn2' hm2'
  go_enter Try.func7, Try.ntmps7
  go_wp2_with fail
  generalize (w.alloc (.cells #[.slice gs gn gc, .slice gt gm gq] 39)) = w0 at *
  refine (shown_any _).mono ?_
  rintro _ w1 ⟨rfl, hb⟩
  have G1 := hide (Grow.trans' GG.out hb)
  have KB1 := hide (KB.out.later hb)
  obtain ⟨g0, g1⟩ := KG.out.later hb
  dsimp only at g0 g1
  clear hb KG KB GG
  go_wp2_with fail
  refine (CF.out _).mono ?_
  rintro _ w2 ⟨rfl, hb⟩
  have G2 := hide (Grow.trans' G1.out hb)
  have KB2 := hide (KB1.out.later hb)
  clear hb KB1 G1 g0 g1 CF
  go_wp2_with (refine wpList_putG rfl _ _ rfl w.heap.size ⟨gs, n2, gc, gt, m2, gq, [], []⟩ rfl rfl KB2.out w G2.out (Nat.le_refl _) ?_)
  intro w3 hg3 hb3 hoth hsame
  have G3 := hide hg3
  have KG3 := hide hb3
  have HN := hide (HN0.out.later hg3)
  have HE := hide (HE0.out.later hg3)
  obtain ⟨g0, g1⟩ := hb3
  dsimp only at g0 g1
  clear hg3 hoth hsame KB2 G2 HN0 HE0
  generalize w.heap.size = P at *
  go_wp2_with fail
  clear g0 g1
  have HFL : Hid (∀ k, fromTo E k ≤ k * 40) := hide (fun k => by
    have h1 := fromTo_le E k
    have h2 : k * E.length ≤ k * 40 := Nat.mul_le_mul_left k (by rw [HE.out.1]; exact hm3)
    omega)
  go_loopw [4, 5] (fun v i wr => ∃ k : Nat, k ≤ n2 ∧ v = .int .i64 (fromTo E k : Nat) ∧ i = .int .i64 k ∧ Grow w3 wr) (fun _ i _ => n2 - (intOf i).toNat)
  case atStart => exact ⟨0, Nat.zero_le _, rfl, rfl, Grow.rfl' _⟩
  case round =>
    obtain ⟨k, hk, rfl, rfl, hg⟩ := hrel
    have HG := hide hg
    obtain ⟨g0, g1⟩ := KG3.out.later hg
    dsimp only at g0 g1
    by_cases hlt : k < n2
    · have hi2 : (k : Int) < (n2 : Int) := by omega
      have C := hide (next_raw gs n2 gc gt m2 gq E k wr hm3 (HE.out.later hg))
      have HS := hide (show fromTo E (k + 1) = fromTo E k + (nextP E k).length from rfl)
      have hf1 := HFL.out (k + 1)
      rw [HS.out] at hf1
      obtain ⟨X, hX⟩ : ∃ X, X = fromTo E k := ⟨_, rfl⟩
      rw [← hX] at HS hf1
      rw [← hX]
      clear hg hX
      go_wp2_with fail
      refine C.out.mono ?_
      rintro _ w4 ⟨s, m, c, rfl, hb, hO⟩
      have hL : (nextP E k).length = m := hO.1
      rw [hL] at HS hf1
      have HG4 := hide (Grow.trans' HG.out hb)
      have hw : IntKind.i64.wrap ((X : Int) + (m : Int)) = (X : Int) + (m : Int) := IntWalk.i64_in _ ⟨by omega, by omega⟩
      clear hb hO hL g0 g1 HG C
      go_wp2_with fail
      go_roundw
      case rel => exact ⟨k + 1, by omega, by rw [HS.out]; go_num, by go_num, HG4.out⟩
      case measure => simp [intOf]; omega
    · have hi2 : ¬ (k : Int) < (n2 : Int) := by omega
      have hkn : k = n2 := by omega
      subst hkn
      obtain ⟨X, hX⟩ : ∃ X, X = fromTo E k := ⟨_, rfl⟩
      have HX : Hid (X = ownTo E k m2) := hide (by rw [hX, from_own, HE.out.1])
      rw [← hX]
      have G4 := hide (Grow.trans' G3.out hg)
      have KG4 := hide (KG3.out.later hg)
      have HE4 := hide (HE.out.later hg)
      clear hX HG hg G3 KG3 HN HE HFL hlt
      rename World => w4
      go_wp2_with fail
      clear g0 g1
      go_loopw [6, 7] (fun v i wr => ∃ j : Nat, j ≤ m2 ∧ v = .int .i64 (ownTo E k j : Nat) ∧ i = .int .i64 j ∧ Grow w4 wr) (fun _ i _ => m2 - (intOf i).toNat)
      case atStart => exact ⟨0, Nat.zero_le _, rfl, rfl, Grow.rfl' _⟩
      case round =>
        obtain ⟨j, hj, rfl, rfl, hg⟩ := hrel
        have HG := hide hg
        obtain ⟨g0, g1⟩ := KG4.out.later hg
        dsimp only at g0 g1
        by_cases hlt : j < m2
        · have hkd : j < E.length := by rw [HE4.out.1]; exact hlt
          have hne : ¬ E = [] := fun h => by rw [h] at hkd; simp at hkd
          obtain ⟨b, o, rfl, hr1⟩ := HE4.out.2.2.resolve_left hne
          obtain ⟨p0, p1, p2⟩ := (hr1.later hg).at j hkd
          have HS := hide (ownTo_step E k j hkd)
          have hle := ownTo_le E k j
          obtain ⟨x, hx⟩ : ∃ x, x = E[j] := ⟨_, rfl⟩
          rw [← hx] at p0 p1 p2 HS
          obtain ⟨xf, xt, xp⟩ := x
          dsimp only at p0 p1 p2 HS
          obtain ⟨Y, hY⟩ : ∃ Y, Y = ownTo E k j := ⟨_, rfl⟩
          rw [← hY] at HS hle
          rw [← hY]
          have hi1 : (0 : Int) ≤ (j : Int) := by omega
          have hi2' : (j : Int) < (m2 : Int) := by omega
          clear hne hr1 hx hkd hg p1 p2 hY
          have hw : IntKind.i64.wrap ((Y : Int) + 1) = (Y : Int) + 1 := IntWalk.i64_in _ ⟨by omega, by omega⟩
          have hc : (0 ≤ xf ∧ xf < (k : Int)) ∨ (0 ≤ xf ∧ ¬ xf < (k : Int)) ∨ ¬ 0 ≤ xf := by omega
          rcases hc with ⟨h1, h2⟩ | ⟨h1, h2⟩ | h1
          · have HT : Hid (ownTo E k (j + 1) = Y + 1) := hide (by rw [HS.out]; rw [if_pos ⟨h1, h2⟩])
            clear HS
            go_wp2_with fail
            go_quiet (fail)
            have HG5 := hide (Grow.trans' HG.out (below_drewN (Below.refl _ _) nq))
            clear p0 g0 g1 HG
            generalize wr.drewN nq = wz at *
            go_wp2_with fail
            go_roundw
            case rel => exact ⟨j + 1, by omega, by rw [HT.out]; go_num, by go_num, HG5.out⟩
            case measure => simp [intOf]; omega
          · have HT : Hid (ownTo E k (j + 1) = Y) := hide (by rw [HS.out]; rw [if_neg (by omega), Nat.add_zero])
            have h3 : decide (xf < (k : Int)) = false := by simpa using h2
            clear HS
            go_wp2_with fail
            go_quiet (fail)
            have HG5 := hide (Grow.trans' HG.out (below_drewN (Below.refl _ _) nq))
            clear p0 g0 g1 HG
            generalize wr.drewN nq = wz at *
            go_wp2_with fail
            go_roundw
            case rel => exact ⟨j + 1, by omega, by rw [HT.out], by go_num, HG5.out⟩
            case measure => simp [intOf]; omega
          · have HT : Hid (ownTo E k (j + 1) = Y) := hide (by rw [HS.out]; rw [if_neg (by omega), Nat.add_zero])
            have h3 : decide (0 ≤ xf) = false := by simpa using h1
            clear HS
            go_wp2_with fail
            go_quiet (fail)
            have HG5 := hide (Grow.trans' HG.out (below_drewN (Below.refl _ _) nq))
            clear p0 g0 g1 HG
            generalize wr.drewN nq = wz at *
            go_wp2_with fail
            go_roundw
            case rel => exact ⟨j + 1, by omega, by rw [HT.out], by go_num, HG5.out⟩
            case measure => simp [intOf]; omega
        · have hi3 : ¬ (j : Int) < (m2 : Int) := by omega
          have hjm : j = m2 := by omega
          subst hjm
          rw [← HX.out]
          clear hg
          go_wp2_with fail
          go_ret
          exact ⟨rfl, Grow.trans' G4.out HG.out⟩

theorem GraphMany_any (g : GA) (w : World) (hg : IsG w g) :
    Calls Try.prog 7 #[.agg #[.slice g.s g.n g.c, .slice g.t g.m g.q]] w fun r w' => r = .returned (.bool true) ∧ Grow w w' :=
  many_raw g.s g.n g.c g.t g.m g.q g.N g.E w hg.nodes hg.edges

set_option maxRecDepth 100000 in
theorem GraphMany_lifted (os : Os) (started : os.Started) (H : Type) (enc : TypeId × Value → H) :
    ReturnsInHanded {} Try.checked os 7 .any (Rows.graphManySpec.pre6 enc Try.prog Try.f7 Rows.graphManyRow.domain false) (Rows.graphManySpec.post enc Try.prog Try.f7 false true false false) := by
  refine returnsInHanded_of_change (C := Try.checked) own started (by kernel_rfl) Try.func7
    (ChangeSpec.witness6 (enc := enc) (C := Try.checked) false ⟨#[], #[.agg #[.slice none 0 0, .slice none 0 0]], []⟩ 8 (by kernel_rfl) (by kernel_rfl) (by kernel_rfl) (by kernel_rfl)) ?_
  intro W base args ds gs before hval0 hW hcnd _
  have hval : ∀ (j : Nat) t v, Try.f7.params[j]? = some t → args[j]? = some v → Value.okWide Try.prog W .any base t v := hval0
  have hW' := hW
  obtain ⟨p, q, hA0, hV, rfl, hfz, hnd⟩ := hW
  have hA : DataW.TrodAll enc Try.prog W 0 (fun _ => true) true Try.f7.params.toList args.toList ds p := hA0
  rw [Try.params7] at hA hval
  obtain ⟨v0, vs0, d0, ds0, p0, q0, hargs, rfl, rfl, h0, r0⟩ := trodAll_cons hA
  obtain ⟨rfl, rfl, rfl⟩ := trodAll_nil r0
  obtain rfl : args = #[v0] := by cases args; simp_all
  obtain ⟨rfl, rfl⟩ := trodVars_none hV
  have k0 := h0
  have lt0 : ∀ x ∈ p0, x.block < W.heap.size := by obtain ⟨m, hm⟩ := k0; exact DataW.trod_lt m _ _ _ hm
  obtain ⟨t0, rfl, w0⟩ := open_gr (hval 0 39 v0 rfl rfl) h0
  clear hA0 hval0
  refine (GraphMany_any t0 W w0).mono fun e W' ⟨he, bel⟩ => ?_
  subst he
  exact ⟨_, rfl, _, _, _, [], _, [], hW', trodAll_mk1 (shut_bool Try.underlying4 _), (trodAll_cons_mk (Below.trod laidOut (by kernel_rfl) (of_decide_eq_true (by kernel_rfl)) k0 bel lt0) trodAll_mk0), rfl, bel.frame _, fun h => by cases h⟩

/-- The given statement. -/
theorem GraphMany_holds : Rows.GraphManySaid :=
  OpenClaim.holds_of_wide 7 Try.f7 rfl rfl rfl rfl rfl rfl rfl ⟨rfl, rfl, rfl, rfl, rfl⟩ rfl rfl rfl rfl rfl (by kernel_rfl) Try.func7 (by kernel_rfl)
    (of_decide_eq_true (by kernel_rfl)) (by unfold Func.isWrapper; first | (rw [if_pos (by decide +kernel)]; kernel_rfl) | (rw [if_neg (by decide +kernel)]; exact ⟨rfl, rfl⟩))
    (fun os started H enc _ => GraphMany_lifted os started H enc)


end Go.Proofs.Ytjpaclcpebpcjaa
