/-
  BagSorts: for every row of records (its first 150) and every two records: the row is sorted as the document reckons it and stays, and whether a record may be, and how two are ordered, is as the document reckons it; the call returns true and leaves its arguments as they were. No conditions.
-/
import Derived.Test.YtkmgbhehhdjmlaaGLw
import Derived.Test.YtkmgbhehhdjmlaaGPut
namespace Go.Proofs.Ytkmgbhehhdjmlaa
set_option maxRecDepth 100000
open Go.ChangeShapes Go.WideShapes Go.ChangeAt Go.RowKit Go.Deep Go.Sort
set_option linter.unusedVariables false

set_option maxHeartbeats 4000000 in
theorem BagSorts_any (s : Option Addr) (n cap : Nat) (d : List Rc) (a b : Rc) (w : World) (hd : IsRcs w s n cap d ∧ ∀ r ∈ d, RcWf r) :
    Calls Try.prog 3 #[.slice s n cap, .agg #[.int .i64 a.k, .int .i64 a.v], .agg #[.int .i64 b.k, .int .i64 b.v]] w fun e w' => e = .returned (.bool true) ∧ Grow w w' := by
  have GA : Hid (Grow w ((w.alloc (.cells #[.int .i64 a.k, .int .i64 a.v] 24)).alloc (.cells #[.int .i64 b.k, .int .i64 b.v] 24))) := hide (Grow.trans' (Grow.alloc' _ _) (Grow.alloc' _ _))
  have KA : Hid (Box ((w.alloc (.cells #[.int .i64 a.k, .int .i64 a.v] 24)).alloc (.cells #[.int .i64 b.k, .int .i64 b.v] 24)) w.heap.size a) := hide ((Box.new _ _).later (Grow.alloc' _ _))
  have hz : (w.alloc (.cells #[.int .i64 a.k, .int .i64 a.v] 24)).heap.size = w.heap.size + 1 := by simp
  have KB : Hid (Box ((w.alloc (.cells #[.int .i64 a.k, .int .i64 a.v] 24)).alloc (.cells #[.int .i64 b.k, .int .i64 b.v] 24)) (w.heap.size + 1) b) := hide (by rw [← hz]; exact Box.new _ _)
  have HD := hide (hd.1.later GA.out)
  clear hd hz
  go_enter Try.func3, Try.ntmps3
  go_wp2_with fail
  generalize (w.alloc (.cells #[.int .i64 a.k, .int .i64 a.v] 24)).alloc (.cells #[.int .i64 b.k, .int .i64 b.v] 24) = w0 at *
  generalize w.heap.size + 1 = PB at *
  generalize w.heap.size = PA at *
  refine (shown_any _).mono ?_
  rintro e w1 ⟨rfl, hb⟩
  have G1 := hide (Grow.trans' GA.out hb)
  have KA1 := hide (KA.out.later hb)
  have KB1 := hide (KB.out.later hb)
  have C1 := hide (few_at s n cap d w1 (HD.out.later hb))
  clear hb KA KB HD GA
  go_wp2_with fail
  refine (C1.out).mono ?_
  rintro e w1 ⟨s1, n1, rfl, rfl, hI, hn1⟩
  obtain ⟨D, hD⟩ : ∃ D, D = d.take 150 := ⟨_, rfl⟩
  rw [← hD] at hI
  have I1 := hide hI
  clear hI hD C1
  rename World => w1
  go_wp2_with (at_builtin; refine wpList_apd_rc rfl _ _ rfl w1.heap.size (some ⟨w1.heap.size, 0, none⟩) 0 0 [] D rfl (.of (OwnR.lit0 w1 _ (Nat.le_refl _)) rfl) s1 n1 cap rfl (I1.out.later (Grow.alloc' _ _)) (by omega) (by simp) ?_)
  intro s2 c2 w2 h2 gb
  have B2 := hide (show Grow w1 w2 from gb.grow (Grow.alloc' _ _) (Nat.le_refl _))
  have O2 := hide (show IsRcs w2 s2 n1 c2 D from by simpa using h2.is)
  have G2 := hide (Grow.trans' G1.out B2.out)
  have I2 := hide (I1.out.later B2.out)
  have KA2 := hide (KA1.out.later B2.out)
  have KB2 := hide (KB1.out.later B2.out)
  have C2 := hide (sort_at s2 n1 c2 D w2 (by omega) O2.out)
  clear h2 gb G1 I1 KA1 KB1 B2
  go_wp2_with fail
  refine (C2.out).mono ?_
  rintro e w3 ⟨s3, c3, rfl, hb, hI⟩
  have G3 := hide (Grow.trans' G2.out hb)
  have S3 := hide hI
  have O3 := hide (O2.out.later hb)
  have I3 := hide (I2.out.later hb)
  have KA3 := hide (KA2.out.later hb)
  have KB3 := hide (KB2.out.later hb)
  have C3 := hide (refSort_is s1 n1 cap D w3 (by omega) I3.out)
  clear hb hI G2 O2 I2 KA2 KB2 C2
  go_wp2_with fail
  refine (C3.out).mono ?_
  rintro e w4 ⟨s4, c4, rfl, hb, hI⟩
  have G4 := hide (Grow.trans' G3.out hb)
  have O4 := hide (O3.out.later hb)
  have I4 := hide (I3.out.later hb)
  have KA4 := hide (KA3.out.later hb)
  have KB4 := hide (KB3.out.later hb)
  have C4 := hide (rowR_any s3 s4 c3 c4 n1 n1 (srt D) (srt D) true (by simp) w4 (by omega) (S3.out.later hb) hI)
  clear hb hI G3 S3 O3 I3 KA3 KB3 C3
  go_wp2_with fail
  refine (C4.out).mono ?_
  rintro e w5 ⟨rfl, hb⟩
  have G5 := hide (Grow.trans' G4.out hb)
  have KA5 := hide (KA4.out.later hb)
  have KB5 := hide (KB4.out.later hb)
  have C5 := hide (rowR_any s2 s1 c2 cap n1 n1 D D true (by simp) w5 (by omega) (O4.out.later hb) (I4.out.later hb))
  clear hb G4 O4 I4 KA4 KB4 C4
  go_wp2_with fail
  refine (C5.out).mono ?_
  rintro e w6 ⟨rfl, hb⟩
  have G6 := hide (Grow.trans' G5.out hb)
  have KA6 := hide (KA5.out.later hb)
  have KB6 := hide (KB5.out.later hb)
  clear hb G5 KA5 KB5 C5
  obtain ⟨p, hp⟩ : ∃ p, mayR a = p := ⟨_, rfl⟩
  obtain ⟨q, hq⟩ : ∃ q, ordR a b = q := ⟨_, rfl⟩
  have Q1 := hide (fun dd os => Calls.regrown_of (may_any a (grow (redrawn w6 dd) os)))
  have Q2 := hide (fun dd os => Calls.regrown_of (refMay_any a (grow (redrawn w6 dd) os)))
  have Q3 := hide (fun dd os => Calls.regrown_of (order_any a b (grow (redrawn w6 dd) os)))
  have Q4 := hide (fun dd os => Calls.regrown_of (refOrder_any a b (grow (redrawn w6 dd) os)))
  rw [hp] at Q1 Q2
  rw [hq] at Q3 Q4
  clear hp hq
  obtain ⟨x0, x1⟩ := KA6.out
  obtain ⟨y0, y1⟩ := KB6.out
  have sx0 := cell_regrown x0; have sx1 := cell_regrown x1; have sy0 := cell_regrown y0; have sy1 := cell_regrown y1
  go_wp2_with fail
  refine wp_region_quiet_below (by kernel_rfl) (by kernel_rfl) ?_
  repeat (go_big_quiet_step (first | (go_at_call 13; exact Q1.out _ _) | (go_at_call 14; exact Q2.out _ _) | (go_at_call 15; exact Q3.out _ _) | (go_at_call 16; exact Q4.out _ _)))
  refine wpQuiet_nil ?_
  intro _ hw'
  obtain ⟨⟨dq, osq⟩, hw''⟩ := hw'
  subst hw''
  have G7 := hide (Grow.trans' G6.out (below_regrown w6 dq osq))
  clear sx0 sx1 sy0 sy1 x0 x1 y0 y1
  generalize grow (redrawn w6 dq) osq = wz at *
  go_wp2
  go_ret
  exact ⟨rfl, G7.out⟩

set_option maxRecDepth 100000 in
theorem BagSorts_lifted (os : Os) (started : os.Started) (H : Type) (enc : TypeId × Value → H) :
    ReturnsInHanded {} Try.checked os 3 .any (Rows.bagSortsSpec.pre6 enc Try.prog Try.f3 Rows.bagSortsRow.domain false) (Rows.bagSortsSpec.post enc Try.prog Try.f3 false true false false) := by
  refine returnsInHanded_of_change (C := Try.checked) own started (by kernel_rfl) Try.func3
    (ChangeSpec.witness6 (enc := enc) (C := Try.checked) false ⟨#[], #[.slice none 0 0, .agg #[.int .i64 0, .int .i64 0], .agg #[.int .i64 0, .int .i64 0]], []⟩ 8 (by kernel_rfl) (by kernel_rfl) (by kernel_rfl) (by kernel_rfl)) ?_
  intro W base args ds gs before hval0 hW hcnd _
  have hval : ∀ (j : Nat) t v, Try.f3.params[j]? = some t → args[j]? = some v → Value.okWide Try.prog W .any base t v := hval0
  have hW' := hW
  obtain ⟨p, q, hA0, hV, rfl, hfz, hnd⟩ := hW
  have hA : DataW.TrodAll enc Try.prog W 0 (fun _ => true) true Try.f3.params.toList args.toList ds p := hA0
  rw [Try.params3] at hA hval
  obtain ⟨v0, vs0, d0, ds0, p0, q0, hargs, rfl, rfl, h0, r0⟩ := trodAll_cons hA
  obtain ⟨v1, vs1, d1, ds1, p1, q1, rfl, rfl, rfl, h1, r1⟩ := trodAll_cons r0
  obtain ⟨v2, vs2, d2, ds2, p2, q2, rfl, rfl, rfl, h2, r2⟩ := trodAll_cons r1
  obtain ⟨rfl, rfl, rfl⟩ := trodAll_nil r2
  obtain rfl : args = #[v0, v1, v2] := by cases args; simp_all
  obtain ⟨rfl, rfl⟩ := trodVars_none hV
  have k0 := h0
  have lt0 : ∀ x ∈ p0, x.block < W.heap.size := by obtain ⟨m, hm⟩ := k0; exact DataW.trod_lt m _ _ _ hm
  obtain ⟨s0, len0, cap0, rfl⟩ := okWide_slice Try.underlying22 (hval 0 22 v0 rfl rfl)
  obtain ⟨z0, w0⟩ := rows_rcs h0
  have k1 := h1
  have lt1 : ∀ x ∈ p1, x.block < W.heap.size := by obtain ⟨m, hm⟩ := k1; exact DataW.trod_lt m _ _ _ hm
  obtain ⟨t1, rfl, w1⟩ := open_rc (hval 1 24 v1 rfl rfl) h1
  have k2 := h2
  have lt2 : ∀ x ∈ p2, x.block < W.heap.size := by obtain ⟨m, hm⟩ := k2; exact DataW.trod_lt m _ _ _ hm
  obtain ⟨t2, rfl, w2⟩ := open_rc (hval 2 24 v2 rfl rfl) h2
  clear hA0 hval0
  refine (BagSorts_any s0 len0 cap0 z0 t1 t2 W w0).mono fun e W' ⟨he, bel⟩ => ?_
  subst he
  exact ⟨_, rfl, _, _, _, [], _, [], hW', trodAll_mk1 (shut_bool Try.underlying4 _), (trodAll_cons_mk (Below.trod laidOut (by kernel_rfl) (of_decide_eq_true (by kernel_rfl)) k0 bel lt0) (trodAll_cons_mk (Below.trod laidOut (by kernel_rfl) (of_decide_eq_true (by kernel_rfl)) k1 bel lt1) (trodAll_cons_mk (Below.trod laidOut (by kernel_rfl) (of_decide_eq_true (by kernel_rfl)) k2 bel lt2) trodAll_mk0))), rfl, bel.frame _, fun h => by cases h⟩

/-- The given statement. -/
theorem BagSorts_holds : Rows.BagSortsSaid :=
  OpenClaim.holds_of_wide 3 Try.f3 rfl rfl rfl rfl rfl rfl rfl ⟨rfl, rfl, rfl, rfl, rfl⟩ rfl rfl rfl rfl rfl (by kernel_rfl) Try.func3 (by kernel_rfl)
    (of_decide_eq_true (by kernel_rfl)) (by unfold Func.isWrapper; first | (rw [if_pos (by decide +kernel)]; kernel_rfl) | (rw [if_neg (by decide +kernel)]; exact ⟨rfl, rfl⟩))
    (fun os started H enc _ => BagSorts_lifted os started H enc)


end Go.Proofs.Ytkmgbhehhdjmlaa
