/-
  What the law ChainTimes does: for every row and every one more it returns true, and what was there stays as it was.
-/
import Derived.Test.YtkpecibbpogedaaHd
import Derived.Test.YtkpecibbpogedaaRAddT
import Derived.Test.YtkpecibbpogedaaSmeG
namespace Go.Proofs.Ytkpecibbpogedaa
set_option maxRecDepth 100000
open Go.RowKit Go.Sort
set_option linter.unusedVariables false

set_option maxHeartbeats 4000000 in
theorem ChainTimes_any (s : Option Addr) (n cap : Nat) (d : List Tm) (t : Tm) (w : World) (hd : IsTms w s n cap d) :
    Calls Try.prog 3 #[.slice s n cap, .agg #[.int .i64 t.e, .int .i64 t.d, .int .i64 t.x, .int .i64 t.y, .int .i64 t.z]] w fun e w' => e = .returned (.bool true) ∧ Grow w w' := by
  have G0 : Hid (Grow w (w.alloc (.cells #[.int .i64 t.e, .int .i64 t.d, .int .i64 t.x, .int .i64 t.y, .int .i64 t.z] 25))) := hide (Grow.alloc' _ _)
  have HD := hide (hd.later G0.out)
  have KT0 : Hid (Box (w.alloc (.cells #[.int .i64 t.e, .int .i64 t.d, .int .i64 t.x, .int .i64 t.y, .int .i64 t.z] 25)) w.heap.size t) := hide (Box.new _ _)
  clear hd
  go_enter Try.func3, Try.ntmps3
  go_wp2_with fail
  generalize w.alloc (.cells #[.int .i64 t.e, .int .i64 t.d, .int .i64 t.x, .int .i64 t.y, .int .i64 t.z] 25) = w0 at *
  refine (shown_any _).mono ?_
  rintro e w1 ⟨rfl, hb⟩
  have G1 := hide (Grow.trans' G0.out hb)
  have KT1 := hide (KT0.out.later hb)
  have C1 := hide (fewT_any s n cap d w1 (HD.out.later hb))
  clear hb KT0 HD
  go_wp2_with fail
  refine (C1.out).mono ?_
  rintro e w2 ⟨v, rfl, hb, s1, n1, c1, rfl, hI⟩
  obtain ⟨D, hD⟩ : ∃ D, D = d.take 60 := ⟨_, rfl⟩
  rw [← hD] at hI
  have hn1 : n1 ≤ 60 := by rw [← hI.1, hD, List.length_take]; omega
  have G2 := hide (Grow.trans' G1.out hb)
  have KT2 := hide (KT1.out.later hb)
  have HI2 := hide hI
  clear hb hI hD C1 G1 KT1
  go_wp2_with (at_builtin; refine wpList_apd_tm rfl _ _ rfl w2.heap.size (some ⟨w2.heap.size, 0, none⟩) 0 0 [] D rfl (.of (OwnS.lit0 w2 _ (Nat.le_refl _)) rfl) s1 n1 c1 rfl (HI2.out.later (Grow.alloc' _ _)) (by omega) (by simp) ?_)
  intro s2 c2 w3 h2 gb
  have B3 := hide (show Grow w2 w3 from gb.grow (Grow.alloc' _ _) (Nat.le_refl _))
  have G3 := hide (Grow.trans' G2.out B3.out)
  have HO3 := hide (show IsTms w3 s2 n1 c2 D from by simpa using h2.is)
  have HI3 := hide (HI2.out.later B3.out)
  have KT3 := hide (KT2.out.later B3.out)
  clear h2 gb HI2 G2 KT2 B3
  obtain ⟨t0, t1, t2, t3, t4⟩ := KT3.out
  obtain ⟨r, hr⟩ : ∃ r, (kinT.may t && !coverB kinT D t) = r := ⟨_, rfl⟩
  have C4 := hide (moreT_any s2 n1 c2 D t w3 (by omega) HO3.out)
  rw [hr] at C4
  have HRR := hide hr
  clear hr
  go_wp2_with fail
  refine (C4.out).mono ?_
  rintro e w4 ⟨v, rfl, hb, s4, n4, c4, rfl, hI⟩
  have G4 := hide (Grow.trans' G3.out hb)
  have HO4 := hide (HO3.out.later hb)
  have HI4 := hide (HI3.out.later hb)
  have KT4 := hide (KT3.out.later hb)
  have HA4 := hide hI
  clear hb hI G3 HO3 HI3 KT3 C4 t0 t1 t2 t3 t4
  obtain ⟨t0, t1, t2, t3, t4⟩ := KT4.out
  have C5 := hide (refAddT_any s1 n1 c1 D t w4 (by omega) HI4.out)
  rw [HRR.out] at C5
  go_wp2_with fail
  refine (C5.out).mono ?_
  rintro e w5 ⟨v, rfl, hb, s5, n5, c5, rfl, hI⟩
  have hl4 : n4 ≤ 61 := by
    have h1 := HA4.out.1
    have h2 := chainO_len kinT (D ++ [t])
    have h3 := HI4.out.1
    simp at h2
    omega
  have G5 := hide (Grow.trans' G4.out hb)
  have HO5 := hide (HO4.out.later hb)
  have HI5 := hide (HI4.out.later hb)
  have KT5 := hide (KT4.out.later hb)
  have HA5 := hide (HA4.out.later hb)
  have HB5 := hide hI
  have C6 := hide (chainT_any s2 n1 c2 D w5 (by omega) (HO4.out.later hb))
  clear hb hI G4 HO4 HI4 KT4 HA4 C5 t0 t1 t2 t3 t4
  go_wp2_with fail
  refine (C6.out).mono ?_
  rintro e w6 ⟨v, rfl, hb, s6, n6, c6, rfl, hI⟩
  have hl6 : n6 ≤ 60 := by
    have h1 := hI.1
    have h2 := chainO_len kinT D
    have h3 := HI5.out.1
    omega
  have G6 := hide (Grow.trans' G5.out hb)
  have HO6 := hide (HO5.out.later hb)
  have HI6 := hide (HI5.out.later hb)
  have KT6 := hide (KT5.out.later hb)
  have HA6 := hide (HA5.out.later hb)
  have HB6 := hide (HB5.out.later hb)
  have HC6 := hide hI
  have C7 := hide (refTimes_any s1 n1 c1 D w6 (by omega) (HI5.out.later hb))
  clear hb hI G5 HO5 HI5 KT5 HA5 HB5 C6
  go_wp2_with fail
  refine (C7.out).mono ?_
  rintro e w7 ⟨v, rfl, hb, s7, n7, c7, rfl, hI⟩
  have G7 := hide (Grow.trans' G6.out hb)
  have HO7 := hide (HO6.out.later hb)
  have HI7 := hide (HI6.out.later hb)
  have KT7 := hide (KT6.out.later hb)
  have HA7 := hide (HA6.out.later hb)
  have HB7 := hide (HB6.out.later hb)
  have C8 := hide (sameT_any s6 s7 c6 c7 n6 n7 (chainO kinT D) (chainO kinT D) true (by simp) w7 (by omega) (HC6.out.later hb) hI)
  clear hb hI G6 HO6 HI6 KT6 HA6 HB6 HC6 C7
  go_wp2_with fail
  refine (C8.out).mono ?_
  rintro e w8 ⟨rfl, hb⟩
  have G8 := hide (Grow.trans' G7.out hb)
  have HO8 := hide (HO7.out.later hb)
  have HI8 := hide (HI7.out.later hb)
  have KT8 := hide (KT7.out.later hb)
  have C9 := hide (sameT_any s4 s5 c4 c5 n4 n5 (chainO kinT (D ++ [t])) (chainO kinT (D ++ [t])) true (by simp) w8 (by omega) (HA7.out.later hb) (HB7.out.later hb))
  clear hb G7 HO7 HI7 KT7 HA7 HB7 C8
  go_wp2_with fail
  refine (C9.out).mono ?_
  rintro e w9 ⟨rfl, hb⟩
  have G9 := hide (Grow.trans' G8.out hb)
  have HI9 := hide (HI8.out.later hb)
  have KT9 := hide (KT8.out.later hb)
  have C10 := hide (sameT_any s2 s1 c2 c1 n1 n1 D D true (by simp) w9 (by omega) (HO8.out.later hb) (HI8.out.later hb))
  clear hb G8 HO8 HI8 KT8 C9
  go_wp2_with fail
  refine (C10.out).mono ?_
  rintro e w10 ⟨rfl, hb⟩
  have G10 := hide (Grow.trans' G9.out hb)
  have HI10 := hide (HI9.out.later hb)
  have KT10 := hide (KT9.out.later hb)
  clear hb G9 HI9 KT9 C10
  obtain ⟨u, hu⟩ : ∃ u, coverB kinT D t = u := ⟨_, rfl⟩
  have Q1 := hide (fun dd os => Calls.regrown_of (coversT_any s1 n1 c1 D t hu (grow (redrawn w10 dd) os) (by omega) (HI10.out.later (below_regrown w10 dd os))))
  have Q2 := hide (fun dd os => Calls.regrown_of (refCovT_any s1 n1 c1 D t hu (grow (redrawn w10 dd) os) (by omega) (HI10.out.later (below_regrown w10 dd os))))
  clear hu
  obtain ⟨t0, t1, t2, t3, t4⟩ := KT10.out
  have st0 := cell_regrown t0; have st1 := cell_regrown t1; have st2 := cell_regrown t2; have st3 := cell_regrown t3; have st4 := cell_regrown t4
  go_wp2_with fail
  refine wp_region_quiet_below (by kernel_rfl) (by kernel_rfl) ?_
  repeat (go_big_quiet_step (first | (go_at_call 16; exact Q1.out _ _) | (go_at_call 17; exact Q2.out _ _)))
  refine wpQuiet_nil ?_
  intro _ hw'
  obtain ⟨⟨dq, osq⟩, hw''⟩ := hw'
  subst hw''
  have G11 := hide (Grow.trans' G10.out (below_regrown w10 dq osq))
  clear st0 t0 st1 t1 st2 t2 st3 t3 st4 t4
  generalize grow (redrawn w10 dq) osq = wz at *
  go_wp2
  go_ret
  exact ⟨rfl, G11.out⟩

end Go.Proofs.Ytkpecibbpogedaa
