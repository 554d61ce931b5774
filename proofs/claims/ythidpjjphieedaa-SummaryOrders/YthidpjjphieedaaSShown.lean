/-
  What the law's own head does to the world: the document's examples hold, and what was there stays as it was.
-/
import Derived.Test.YthidpjjphieedaaSNd
import Derived.Test.YthidpjjphieedaaSTh
import Derived.Test.YthidpjjphieedaaSEq
namespace Go.Proofs.Ythidpjjphieedaa
open Go.RowKit
attribute [local go_sem ↓] eqArr
set_option linter.unusedVariables false

theorem then_at (s r q : Sm) (e : Int) (h1 : thenS s r = q) (h2 : thenE s r = e) (w : World) :
    Calls Try.prog 22 #[.agg #[.int .i64 s.f, .int .i64 s.t, .int .i64 s.k, .int .i64 s.ep, .int .i64 s.x, .int .i64 s.y, .int .i64 s.z], .agg #[.int .i64 r.f, .int .i64 r.t, .int .i64 r.k, .int .i64 r.ep, .int .i64 r.x, .int .i64 r.y, .int .i64 r.z]] w fun e' w' => e' = .returned (.tuple #[.agg #[.int .i64 q.f, .int .i64 q.t, .int .i64 q.k, .int .i64 q.ep, .int .i64 q.x, .int .i64 q.y, .int .i64 q.z], .int .i64 e]) ∧ Below w.heap.size w w' := by
  rw [← h1, ← h2]; exact then_any s r w
theorem apply_at (s : Sm) (t q : Tm) (e : Int) (h1 : applyT s t = q) (h2 : applyE s t = e) (w : World) :
    Calls Try.prog 20 #[.agg #[.int .i64 s.f, .int .i64 s.t, .int .i64 s.k, .int .i64 s.ep, .int .i64 s.x, .int .i64 s.y, .int .i64 s.z], .agg #[.int .i64 t.e, .int .i64 t.d, .int .i64 t.x, .int .i64 t.y, .int .i64 t.z]] w fun e' w' => e' = .returned (.tuple #[.agg #[.int .i64 q.e, .int .i64 q.d, .int .i64 q.x, .int .i64 q.y, .int .i64 q.z], .int .i64 e]) ∧ Below w.heap.size w w' := by
  rw [← h1, ← h2]; exact apply_any s t w

set_option maxHeartbeats 1000000 in
theorem shown_any (w : World) :
    Calls Try.prog 9 #[] w fun e w' => e = .returned (.bool true) ∧ Below w.heap.size w w' := by
  have G : Hid (Grow w w) := hide (Grow.rfl' w)
  go_enter Try.func9, Try.ntmps9
  go_wp2_with fail
  refine (enter_0 _).mono ?_
  rintro e w1 ⟨rfl, hb⟩
  have G : Hid (Grow w w1) := hide (Grow.trans' G.out hb)
  clear hb 
  go_wp2_with fail
  refine (feed_1 _).mono ?_
  rintro e w2 ⟨rfl, hb⟩
  have G : Hid (Grow w w2) := hide (Grow.trans' G.out hb)
  clear hb 
  go_wp2_with fail
  refine (then_at ⟨0, 1, 0, 0, 0, 0, 0⟩ ⟨1, 1, 1, 0, 1, 0, 0⟩ ⟨0, 1, 0, 0, 1, 0, 0⟩ 0 rfl rfl _).mono ?_
  rintro e w3 ⟨rfl, hb⟩
  have KS : SBox (w3.alloc (.cells #[.int .i64 (Sm.mk 0 1 0 0 1 0 0).f, .int .i64 (Sm.mk 0 1 0 0 1 0 0).t, .int .i64 (Sm.mk 0 1 0 0 1 0 0).k, .int .i64 (Sm.mk 0 1 0 0 1 0 0).ep, .int .i64 (Sm.mk 0 1 0 0 1 0 0).x, .int .i64 (Sm.mk 0 1 0 0 1 0 0).y, .int .i64 (Sm.mk 0 1 0 0 1 0 0).z] 24)) w3.heap.size (Sm.mk 0 1 0 0 1 0 0) := SBox.new _ _
  have G : Hid (Grow w (w3.alloc (.cells #[.int .i64 (Sm.mk 0 1 0 0 1 0 0).f, .int .i64 (Sm.mk 0 1 0 0 1 0 0).t, .int .i64 (Sm.mk 0 1 0 0 1 0 0).k, .int .i64 (Sm.mk 0 1 0 0 1 0 0).ep, .int .i64 (Sm.mk 0 1 0 0 1 0 0).x, .int .i64 (Sm.mk 0 1 0 0 1 0 0).y, .int .i64 (Sm.mk 0 1 0 0 1 0 0).z] 24))) := hide (Grow.trans' (Grow.trans' G.out hb) (Grow.alloc' _ _))
  clear hb 
  have HS := hide KS
  obtain ⟨s_0, s_1, s_2, s_3, s_4, s_5, s_6⟩ := KS
  go_wp2_with fail
  refine (apply_at ⟨0, 1, 0, 0, 1, 0, 0⟩ ⟨5, 0, 0, 0, 0⟩ ⟨5, 1, 1, 0, 0⟩ 0 rfl rfl _).mono ?_
  rintro e w4 ⟨rfl, hb⟩
  clear s_0 s_1 s_2 s_3 s_4 s_5 s_6
  have KS : SBox (w4.alloc (.cells #[.int .i64 (Tm.mk 5 1 1 0 0).e, .int .i64 (Tm.mk 5 1 1 0 0).d, .int .i64 (Tm.mk 5 1 1 0 0).x, .int .i64 (Tm.mk 5 1 1 0 0).y, .int .i64 (Tm.mk 5 1 1 0 0).z] 30)) w3.heap.size (Sm.mk 0 1 0 0 1 0 0) := (HS.out.later hb).later (Grow.alloc' _ _)
  have KT : Box (w4.alloc (.cells #[.int .i64 (Tm.mk 5 1 1 0 0).e, .int .i64 (Tm.mk 5 1 1 0 0).d, .int .i64 (Tm.mk 5 1 1 0 0).x, .int .i64 (Tm.mk 5 1 1 0 0).y, .int .i64 (Tm.mk 5 1 1 0 0).z] 30)) w4.heap.size (Tm.mk 5 1 1 0 0) := Box.new _ _
  have G : Hid (Grow w (w4.alloc (.cells #[.int .i64 (Tm.mk 5 1 1 0 0).e, .int .i64 (Tm.mk 5 1 1 0 0).d, .int .i64 (Tm.mk 5 1 1 0 0).x, .int .i64 (Tm.mk 5 1 1 0 0).y, .int .i64 (Tm.mk 5 1 1 0 0).z] 30))) := hide (Grow.trans' (Grow.trans' G.out hb) (Grow.alloc' _ _))
  clear hb HS
  have HS := hide KS
  have HT := hide KT
  obtain ⟨s_0, s_1, s_2, s_3, s_4, s_5, s_6⟩ := KS
  obtain ⟨t_0, t_1, t_2, t_3, t_4⟩ := KT
  go_wp2_with fail
  refine (feed_1 _).mono ?_
  rintro e w5 ⟨rfl, hb⟩
  clear s_0 s_1 s_2 s_3 s_4 s_5 s_6 t_0 t_1 t_2 t_3 t_4
  have KS : SBox w5 w3.heap.size (Sm.mk 0 1 0 0 1 0 0) := HS.out.later hb
  have KT : Box w5 w4.heap.size (Tm.mk 5 1 1 0 0) := HT.out.later hb
  have G : Hid (Grow w w5) := hide (Grow.trans' G.out hb)
  clear hb HS HT
  have HS := hide KS
  have HT := hide KT
  obtain ⟨s_0, s_1, s_2, s_3, s_4, s_5, s_6⟩ := KS
  obtain ⟨t_0, t_1, t_2, t_3, t_4⟩ := KT
  go_wp2_with fail
  refine (leave_1 _).mono ?_
  rintro e w6 ⟨rfl, hb⟩
  clear s_0 s_1 s_2 s_3 s_4 s_5 s_6 t_0 t_1 t_2 t_3 t_4
  have KS : SBox w6 w3.heap.size (Sm.mk 0 1 0 0 1 0 0) := HS.out.later hb
  have KT : Box w6 w4.heap.size (Tm.mk 5 1 1 0 0) := HT.out.later hb
  have G : Hid (Grow w w6) := hide (Grow.trans' G.out hb)
  clear hb HS HT
  have HS := hide KS
  have HT := hide KT
  obtain ⟨s_0, s_1, s_2, s_3, s_4, s_5, s_6⟩ := KS
  obtain ⟨t_0, t_1, t_2, t_3, t_4⟩ := KT
  go_wp2_with fail
  refine (then_at ⟨1, 1, 1, 0, 1, 0, 0⟩ ⟨1, 0, 0, 0, 0, 0, 0⟩ ⟨1, 0, 0, 0, 0, 0, 0⟩ 0 rfl rfl _).mono ?_
  rintro e w7 ⟨rfl, hb⟩
  clear s_0 s_1 s_2 s_3 s_4 s_5 s_6 t_0 t_1 t_2 t_3 t_4
  have KS : SBox (w7.alloc (.cells #[.int .i64 (Sm.mk 1 0 0 0 0 0 0).f, .int .i64 (Sm.mk 1 0 0 0 0 0 0).t, .int .i64 (Sm.mk 1 0 0 0 0 0 0).k, .int .i64 (Sm.mk 1 0 0 0 0 0 0).ep, .int .i64 (Sm.mk 1 0 0 0 0 0 0).x, .int .i64 (Sm.mk 1 0 0 0 0 0 0).y, .int .i64 (Sm.mk 1 0 0 0 0 0 0).z] 24)) w3.heap.size (Sm.mk 0 1 0 0 1 0 0) := (HS.out.later hb).later (Grow.alloc' _ _)
  have KT : Box (w7.alloc (.cells #[.int .i64 (Sm.mk 1 0 0 0 0 0 0).f, .int .i64 (Sm.mk 1 0 0 0 0 0 0).t, .int .i64 (Sm.mk 1 0 0 0 0 0 0).k, .int .i64 (Sm.mk 1 0 0 0 0 0 0).ep, .int .i64 (Sm.mk 1 0 0 0 0 0 0).x, .int .i64 (Sm.mk 1 0 0 0 0 0 0).y, .int .i64 (Sm.mk 1 0 0 0 0 0 0).z] 24)) w4.heap.size (Tm.mk 5 1 1 0 0) := (HT.out.later hb).later (Grow.alloc' _ _)
  have KR : SBox (w7.alloc (.cells #[.int .i64 (Sm.mk 1 0 0 0 0 0 0).f, .int .i64 (Sm.mk 1 0 0 0 0 0 0).t, .int .i64 (Sm.mk 1 0 0 0 0 0 0).k, .int .i64 (Sm.mk 1 0 0 0 0 0 0).ep, .int .i64 (Sm.mk 1 0 0 0 0 0 0).x, .int .i64 (Sm.mk 1 0 0 0 0 0 0).y, .int .i64 (Sm.mk 1 0 0 0 0 0 0).z] 24)) w7.heap.size (Sm.mk 1 0 0 0 0 0 0) := SBox.new _ _
  have G : Hid (Grow w (w7.alloc (.cells #[.int .i64 (Sm.mk 1 0 0 0 0 0 0).f, .int .i64 (Sm.mk 1 0 0 0 0 0 0).t, .int .i64 (Sm.mk 1 0 0 0 0 0 0).k, .int .i64 (Sm.mk 1 0 0 0 0 0 0).ep, .int .i64 (Sm.mk 1 0 0 0 0 0 0).x, .int .i64 (Sm.mk 1 0 0 0 0 0 0).y, .int .i64 (Sm.mk 1 0 0 0 0 0 0).z] 24))) := hide (Grow.trans' (Grow.trans' G.out hb) (Grow.alloc' _ _))
  clear hb HS HT
  obtain ⟨s0, s1, s2, s3, s4, s5, s6⟩ := KS
  obtain ⟨t0, t1, t2, t3, t4⟩ := KT
  obtain ⟨r0, r1, r2, r3, r4, r5, r6⟩ := KR
  dsimp only at s0 s1 s2 s3 s4 s5 s6 t0 t1 t2 t3 t4 r0 r1 r2 r3 r4 r5 r6
  go_wp2
  go_ret
  exact ⟨rfl, G.out⟩

end Go.Proofs.Ythidpjjphieedaa
