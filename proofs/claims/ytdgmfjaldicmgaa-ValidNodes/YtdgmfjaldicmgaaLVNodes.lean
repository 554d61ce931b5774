/-
  ValidNodes: for every node: valid.Node tells whether it may be as the document's own Node does; the call returns true and leaves its argument as it was. No conditions.
-/
import Derived.Test.YtdgmfjaldicmgaaVHd
import Derived.Test.YtdgmfjaldicmgaaVNr
import Derived.Lib.QuietBelow
namespace Go.Proofs.Ytdgmfjaldicmgaa
set_option maxRecDepth 100000
open Go.ChangeShapes Go.WideShapes Go.ChangeAt Go.RowKit Go.Deep Go.Sort
set_option linter.unusedVariables false
set_option linter.unusedSimpArgs false

set_option maxHeartbeats 8000000 in
theorem ValidNodes_any (n : Nd) (w : World) :
    Calls Try.prog 3 #[.agg #[.int .i64 n.k, .int .i64 n.a, .int .i64 n.b, .int .i64 n.d]] w fun r w' => r = .returned (.bool true) ∧ Grow w w' := by
  have GG : Hid (Grow w (w.alloc (.cells #[.int .i64 n.k, .int .i64 n.a, .int .i64 n.b, .int .i64 n.d] 23))) := hide (Grow.alloc' _ _)
  have KN : Hid (BoxN (w.alloc (.cells #[.int .i64 n.k, .int .i64 n.a, .int .i64 n.b, .int .i64 n.d] 23)) w.heap.size n) := hide (BoxN.new w n)
  obtain ⟨p, hp⟩ : ∃ p, nodeB ⟨n.k, n.a, n.b, n.d⟩ = p := ⟨_, rfl⟩
  have C1 := hide (fun w => node_any n.k n.a n.b n.d hp w)
  have D1 := hide (fun w => rnode_any n.k n.a n.b n.d hp w)
  clear hp
  obtain ⟨nk, na, nb, nd⟩ := n
  dsimp only at GG KN C1 D1 ⊢
  go_enter Try.func3, Try.ntmps3
  go_wp2_with fail
  generalize (w.alloc (.cells #[.int .i64 nk, .int .i64 na, .int .i64 nb, .int .i64 nd] 23)) = w0 at *
  generalize w.heap.size = P at *
  refine (shown_any _).mono ?_
  rintro _ w1 ⟨rfl, hb⟩
  have G1 := hide (Grow.trans' GG.out hb)
  obtain ⟨n0, n1, n2, n3⟩ := KN.out.later hb
  dsimp only at n0 n1 n2 n3
  clear hb KN GG
  go_wp2_with fail
  have sn0 := cell_regrown n0
  have sn1 := cell_regrown n1
  have sn2 := cell_regrown n2
  have sn3 := cell_regrown n3
  have Q1 := hide (fun dd os => Calls.regrown_of (C1.out (grow (redrawn w1 dd) os)))
  have R1 := hide (fun dd os => Calls.regrown_of (D1.out (grow (redrawn w1 dd) os)))
  refine wp_region_quiet_below (by kernel_rfl) (by kernel_rfl) ?_
  repeat (go_big_quiet_step (first | (go_at_call 10; exact Q1.out _ _) | (go_at_call 11; exact R1.out _ _)))
  refine wpQuiet_nil ?_
  intro _ hw'
  obtain ⟨⟨dq, osq⟩, hw''⟩ := hw'
  subst hw''
  have G2 := hide (Grow.trans' G1.out (below_regrown w1 dq osq))
  clear sn0 sn1 sn2 sn3 n0 n1 n2 n3
  go_wp2_with fail
  go_ret
  exact ⟨ret_bool (by simp), G2.out⟩

set_option maxRecDepth 100000 in
theorem ValidNodes_lifted (os : Os) (started : os.Started) (H : Type) (enc : TypeId × Value → H) :
    ReturnsInHanded {} Try.checked os 3 .any (Rows.validNodesSpec.pre6 enc Try.prog Try.f3 Rows.validNodesRow.domain false) (Rows.validNodesSpec.post enc Try.prog Try.f3 false true false false) := by
  refine returnsInHanded_of_change (C := Try.checked) own started (by kernel_rfl) Try.func3
    (ChangeSpec.witness6 (enc := enc) (C := Try.checked) false ⟨#[], #[.agg #[.int .i64 0, .int .i64 0, .int .i64 0, .int .i64 0]], []⟩ 8 (by kernel_rfl) (by kernel_rfl) (by kernel_rfl) (by kernel_rfl)) ?_
  intro W base args ds gs before hval0 hW hcnd _
  have hval : ∀ (j : Nat) t v, Try.f3.params[j]? = some t → args[j]? = some v → Value.okWide Try.prog W .any base t v := hval0
  have hW' := hW
  obtain ⟨p, q, hA0, hV, rfl, hfz, hnd⟩ := hW
  have hA : DataW.TrodAll enc Try.prog W 0 (fun _ => true) true Try.f3.params.toList args.toList ds p := hA0
  rw [Try.params3] at hA hval
  obtain ⟨v0, vs0, d0, ds0, p0, q0, hargs, rfl, rfl, h0, r0⟩ := trodAll_cons hA
  obtain ⟨rfl, rfl, rfl⟩ := trodAll_nil r0
  obtain rfl : args = #[v0] := by cases args; simp_all
  obtain ⟨rfl, rfl⟩ := trodVars_none hV
  have k0 := h0
  have lt0 : ∀ x ∈ p0, x.block < W.heap.size := by obtain ⟨m, hm⟩ := k0; exact DataW.trod_lt m _ _ _ hm
  obtain ⟨t0, rfl, w0⟩ := open_nd (hval 0 23 v0 rfl rfl) h0
  clear hA0 hval0
  refine (ValidNodes_any t0 W).mono fun e W' ⟨he, bel⟩ => ?_
  subst he
  exact ⟨_, rfl, _, _, _, [], _, [], hW', trodAll_mk1 (shut_bool Try.underlying4 _), (trodAll_cons_mk (Below.trod laidOut (by kernel_rfl) (of_decide_eq_true (by kernel_rfl)) k0 bel lt0) trodAll_mk0), rfl, bel.frame _, fun h => by cases h⟩

/-- The given statement. -/
theorem ValidNodes_holds : Rows.ValidNodesSaid :=
  OpenClaim.holds_of_wide 3 Try.f3 rfl rfl rfl rfl rfl rfl rfl ⟨rfl, rfl, rfl, rfl, rfl⟩ rfl rfl rfl rfl rfl (by kernel_rfl) Try.func3 (by kernel_rfl)
    (of_decide_eq_true (by kernel_rfl)) (by unfold Func.isWrapper; first | (rw [if_pos (by decide +kernel)]; kernel_rfl) | (rw [if_neg (by decide +kernel)]; exact ⟨rfl, rfl⟩))
    (fun os started H enc _ => ValidNodes_lifted os started H enc)


end Go.Proofs.Ytdgmfjaldicmgaa
