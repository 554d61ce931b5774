/-
  What the law TsSorts does: for every row of times it returns true, and what was there stays as it was.
-/
import Derived.Test.YtbohgfcndclbjaaSme
import Derived.Test.YtbohgfcndclbjaaRst
import Derived.Test.YtbohgfcndclbjaaRowt
import Derived.Test.YtbohgfcndclbjaaShown
namespace Go.Proofs.Ytbohgfcndclbjaa
open Go.RowKit
set_option linter.unusedVariables false

theorem append_empty (g cap : Nat) (s : Option Addr) (ty : TypeId) (w : World) :
    (Builtin.append_ #[36, 36] ty #[.slice (some ⟨g, 0, none⟩) 0 0, .slice s 0 cap]).run Try.prog w = .ok (.slice (some ⟨g, 0, none⟩) 0 0) w := by
  have hl : ∀ (x : Addr), (loadCells x 0).run Try.prog w = .ok #[] w := fun x => by simpa using run_loadCells_list (P := Try.prog) w x [] (by simp)
  obtain ⟨i, hi, _⟩ := info_time
  cases s <;> simp [Builtin.append_, run_underlying Try.underlying36, sizeOf, typeInfo, hi, Builtin.lenOf, Builtin.firstCells, storeCells, hl]

theorem wpList_app0 {w : World} {ops : Array Oper} {rest : List Oper} {o : Oper} {a : Act} {Q : Exit → Act → World → Prop} (hgd : o.guard = none) (s x : Operand)
    (ho : o.op = .call { callee := .builtin .append, args := #[s, x], argTypes := #[36, 36] })
    (g cap : Nat) (sx : Option Addr) (hs : a.eval s = .slice (some ⟨g, 0, none⟩) 0 0) (hx : a.eval x = .slice sx 0 cap)
    (h : wpList Try.prog ops Q rest (a.put o.dst (.slice (some ⟨g, 0, none⟩) 0 0)) w) : wpList Try.prog ops Q (o :: rest) a w := by
  refine wpList_plain hgd fun K hK => ?_
  unfold Oper.wp execOp
  simp only [ho, resolve, invoke, builtin, Sem.run_bind, Sem.run_pure, Result.andThen_ok, List.map_toArray, List.map_cons, List.map_nil, hs, hx, append_empty]
  exact hK _ _ h

set_option maxHeartbeats 2000000 in
theorem TsSorts_none [Inhabited Tm] (s : Option Addr) (cap : Nat) (w : World) :
    Calls Try.prog 5 #[.slice s 0 cap] w fun e w' => e = .returned (.bool true) ∧ Below w.heap.size w w' := by
  go_enter Try.func5, Try.ntmps5
  go_wp2_with fail
  refine (shown_any _).mono ?_
  rintro e w1 ⟨rfl, hb1⟩
  have g1 := hide hb1
  clear hb1
  have G2 : Hid (Grow w (w1.alloc (.cells #[] 25))) := hide (Grow.trans' g1.out (Grow.alloc' _ _))
  have HLN : Hid (([] : List Tm).length = 0) := hide rfl
  have KS := hide (show Calls Try.prog 25 #[.slice (some ⟨w1.heap.size, 0, none⟩) 0 0] (w1.alloc (.cells #[] 25)) (fun e w' => e = .returned (.slice (some ⟨w1.heap.size + 1, 0, none⟩) 0 0) ∧ Grow (w1.alloc (.cells #[] 25)) w' ∧ ∃ d' : List Tm, d'.Perm ([] : List Tm) ∧ SortedT d' ∧ RowT w' (w1.heap.size + 1) 0 d') from by
    have h := sort_some w1.heap.size 0 0 (#[] : Array Tm) (w1.alloc (.cells #[] 25)) (by simp) (fun j v hj => by simp [flatT] at hj)
    rw [show (w1.alloc (.cells #[] 25)).heap.size = w1.heap.size + 1 from by simp] at h
    exact h)
  go_wp2_with (first | (at_builtin; refine wpList_app0 rfl _ _ rfl w1.heap.size cap s rfl rfl ?_) | fail)
  refine (KS.out).mono ?_
  rintro e w3 ⟨rfl, hg3, d1, hp1, hs1, hr1⟩
  have hd1 : d1 = sortT [] := sorted_unique (by simpa using hp1.trans (by simpa using (sort_perm []).symm)) hs1 (sort_sorted [])
  subst hd1
  have G3 := hide (Grow.trans' G2.out hg3)
  have R1 := hide hr1
  have OW := hide (show RowT w3 w1.heap.size 0 ([] : List Tm) from fun j v hj => by simp [flatT] at hj)
  clear hg3 hp1 hs1 hr1
  have KR := hide (refSort_any s cap [] w3 (by rw [HLN.out]; omega) (.inl rfl))
  rw [HLN.out] at KR
  go_wp2_with fail
  refine (KR.out).mono ?_
  rintro e w4 ⟨g4, c4, rfl, hg4, hO4⟩
  have G4 := hide (Grow.trans' G3.out hg4)
  have R1' := hide (R1.out.later hg4)
  have R2' := hide hO4.row
  have OW' := hide (OW.out.later hg4)
  clear hg4 hO4 R1 OW
  have KM := hide (same_any _ _ 0 c4 0 (sortT []) w4 (by rw [(sort_perm []).length_eq]; exact HLN.out) (by omega) (.inr ⟨_, _, rfl, R1'.out⟩) (.inr ⟨_, _, rfl, R2'.out⟩))
  go_wp2_with fail
  refine (KM.out).mono ?_
  rintro e w5 ⟨rfl, hg5⟩
  have G5 := hide (Grow.trans' G4.out hg5)
  have KN := hide (same_any _ s 0 cap 0 [] w5 HLN.out (by omega) (.inr ⟨_, _, rfl, OW'.out.later hg5⟩) (.inl rfl))
  clear hg5
  go_wp2_with fail
  refine (KN.out).mono ?_
  rintro e w6 ⟨rfl, hg6⟩
  have G6 := hide (Grow.trans' G5.out hg6)
  clear hg6
  go_wp2
  go_ret
  exact ⟨rfl, G6.out⟩

set_option maxHeartbeats 2000000 in
theorem TsSorts_some [Inhabited Tm] (b o cap : Nat) (L : List Tm) (n : Nat) (w : World) (hn : L.length = n) (hle : n ≤ cap) (h200 : n ≤ 200) (hr : RowT w b o L) :
    Calls Try.prog 5 #[.slice (some ⟨b, o, none⟩) n cap] w fun e w' => e = .returned (.bool true) ∧ Below w.heap.size w w' := by
  have HR := hide hr
  have HLN : Hid (L.length = n) := hide hn
  have HROW : Hid (L = [] ∨ ∃ b' o', some (Addr.mk b o none) = some ⟨b', o', none⟩ ∧ RowT w b' o' L) := hide (.inr ⟨b, o, rfl, hr⟩)
  have h3 : ¬ (200 : Int) < (n : Int) := by omega
  clear hr hn
  go_enter Try.func5, Try.ntmps5
  go_wp2_with fail
  refine (shown_any _).mono ?_
  rintro e w1 ⟨rfl, hb1⟩
  have g1 := hide hb1
  clear hb1
  go_wp2_with (at_builtin; refine wpList_appT rfl _ _ rfl w1.heap.size w1.heap.size 0 [] (L) 0 rfl rfl (OwnS.lit0 w1 _ (Nat.le_refl _)) b o n cap rfl (HLN.out) (RowT.later (Grow.alloc' _ _) (RowT.later g1.out HR.out)) (by rw [List.length_nil]; omega) (by simp) ?_)
  intro g c w2 O2 gb e2
  have G2 := hide (Grow.trans' g1.out (grow_app (Grow.alloc' _ _) gb (Nat.le_refl _)))
  have RO := hide O2.row
  clear gb e2 O2
  have hA : L.toArray.size = n := by simpa using HLN.out
  have KS := hide (by have h := sort_some g 0 c L.toArray w2 (by rw [hA]; omega) (by simpa using RO.out); rw [hA] at h; simpa using h)
  clear hA
  go_wp2_with fail
  refine (KS.out).mono ?_
  rintro e w3 ⟨rfl, hg3, d1, hp1, hs1, hr1⟩
  have hd1 : d1 = sortT L := sorted_unique (by simpa using hp1.trans (by simpa using (sort_perm L).symm)) hs1 (sort_sorted L)
  subst hd1
  have G3 := hide (Grow.trans' G2.out hg3)
  have R1 := hide hr1
  have OW := hide (show RowT w3 g 0 L from by have h := RO.out.later hg3; simpa using h)
  clear hg3 hp1 hs1 hr1
  have KR := hide (refSort_any (some ⟨b, o, none⟩) cap L w3 (by rw [HLN.out]; omega) (HROW.out.imp id fun ⟨b, o, h1, h2⟩ => ⟨b, o, h1, h2.later G3.out⟩))
  rw [HLN.out] at KR
  go_wp2_with fail
  refine (KR.out).mono ?_
  rintro e w4 ⟨g4, c4, rfl, hg4, hO4⟩
  have G4 := hide (Grow.trans' G3.out hg4)
  have R1' := hide (R1.out.later hg4)
  have R2' := hide hO4.row
  have OW' := hide (OW.out.later hg4)
  clear hg4 hO4 R1 OW
  have KM := hide (same_any _ _ n c4 n (sortT L) w4 (by rw [(sort_perm L).length_eq]; exact HLN.out) (by omega) (.inr ⟨_, _, rfl, R1'.out⟩) (.inr ⟨_, _, rfl, R2'.out⟩))
  go_wp2_with fail
  refine (KM.out).mono ?_
  rintro e w5 ⟨rfl, hg5⟩
  have G5 := hide (Grow.trans' G4.out hg5)
  have KN := hide (same_any _ (some ⟨b, o, none⟩) c cap n L w5 HLN.out (by omega) (.inr ⟨_, _, rfl, OW'.out.later hg5⟩) (HROW.out.imp id fun ⟨b, o, h1, h2⟩ => ⟨b, o, h1, h2.later G5.out⟩))
  clear hg5
  go_wp2_with fail
  refine (KN.out).mono ?_
  rintro e w6 ⟨rfl, hg6⟩
  have G6 := hide (Grow.trans' G5.out hg6)
  clear hg6
  go_wp2
  go_ret
  exact ⟨rfl, G6.out⟩

set_option maxHeartbeats 2000000 in
theorem TsSorts_many [Inhabited Tm] (b o cap : Nat) (D : List Tm) (w : World) (hle : D.length ≤ cap) (h200 : 200 < D.length) (hr : RowT w b o D) :
    Calls Try.prog 5 #[.slice (some ⟨b, o, none⟩) D.length cap] w fun e w' => e = .returned (.bool true) ∧ Below w.heap.size w w' := by
  obtain ⟨L, hL⟩ : ∃ L, L = D.take 200 := ⟨_, rfl⟩
  have HLN : Hid (L.length = 200) := hide (by rw [hL]; simp; omega)
  have hr' : RowT w b o L := by rw [hL]; exact hr.take' 200
  have HR := hide hr'
  have HROW : Hid (L = [] ∨ ∃ b' o', some (Addr.mk b o none) = some ⟨b', o', none⟩ ∧ RowT w b' o' L) := hide (.inr ⟨b, o, rfl, hr'⟩)
  have h3 : (200 : Int) < (D.length : Int) := by omega
  have h4 : (200 : Int) ≤ (cap : Int) := by omega
  clear hr hr' hL
  go_enter Try.func5, Try.ntmps5
  go_wp2_with fail
  refine (shown_any _).mono ?_
  rintro e w1 ⟨rfl, hb1⟩
  have g1 := hide hb1
  clear hb1
  go_wp2_with (at_builtin; refine wpList_appT rfl _ _ rfl w1.heap.size w1.heap.size 0 [] (L) 0 rfl rfl (OwnS.lit0 w1 _ (Nat.le_refl _)) b o 200 cap rfl (HLN.out) (RowT.later (Grow.alloc' _ _) (RowT.later g1.out HR.out)) (by rw [List.length_nil]; omega) (by simp) ?_)
  intro g c w2 O2 gb e2
  have G2 := hide (Grow.trans' g1.out (grow_app (Grow.alloc' _ _) gb (Nat.le_refl _)))
  have RO := hide O2.row
  clear gb e2 O2
  have hA : L.toArray.size = 200 := by simpa using HLN.out
  have KS := hide (by have h := sort_some g 0 c L.toArray w2 (by rw [hA]; omega) (by simpa using RO.out); rw [hA] at h; simpa using h)
  clear hA
  go_wp2_with fail
  refine (KS.out).mono ?_
  rintro e w3 ⟨rfl, hg3, d1, hp1, hs1, hr1⟩
  have hd1 : d1 = sortT L := sorted_unique (by simpa using hp1.trans (by simpa using (sort_perm L).symm)) hs1 (sort_sorted L)
  subst hd1
  have G3 := hide (Grow.trans' G2.out hg3)
  have R1 := hide hr1
  have OW := hide (show RowT w3 g 0 L from by have h := RO.out.later hg3; simpa using h)
  clear hg3 hp1 hs1 hr1
  have KR := hide (refSort_any (some ⟨b, o, none⟩) cap L w3 (by rw [HLN.out]; omega) (HROW.out.imp id fun ⟨b, o, h1, h2⟩ => ⟨b, o, h1, h2.later G3.out⟩))
  rw [HLN.out] at KR
  go_wp2_with fail
  refine (KR.out).mono ?_
  rintro e w4 ⟨g4, c4, rfl, hg4, hO4⟩
  have G4 := hide (Grow.trans' G3.out hg4)
  have R1' := hide (R1.out.later hg4)
  have R2' := hide hO4.row
  have OW' := hide (OW.out.later hg4)
  clear hg4 hO4 R1 OW
  have KM := hide (same_any _ _ 200 c4 200 (sortT L) w4 (by rw [(sort_perm L).length_eq]; exact HLN.out) (by omega) (.inr ⟨_, _, rfl, R1'.out⟩) (.inr ⟨_, _, rfl, R2'.out⟩))
  go_wp2_with fail
  refine (KM.out).mono ?_
  rintro e w5 ⟨rfl, hg5⟩
  have G5 := hide (Grow.trans' G4.out hg5)
  have KN := hide (same_any _ (some ⟨b, o, none⟩) c cap 200 L w5 HLN.out (by omega) (.inr ⟨_, _, rfl, OW'.out.later hg5⟩) (HROW.out.imp id fun ⟨b, o, h1, h2⟩ => ⟨b, o, h1, h2.later G5.out⟩))
  clear hg5
  go_wp2_with fail
  refine (KN.out).mono ?_
  rintro e w6 ⟨rfl, hg6⟩
  have G6 := hide (Grow.trans' G5.out hg6)
  clear hg6
  go_wp2
  go_ret
  exact ⟨rfl, G6.out⟩

theorem TsSorts_any (s : Option Addr) (n cap : Nat) (d : List Tm) (w : World) (h : IsTms w s n cap d) :
    Calls Try.prog 5 #[.slice s n cap] w fun e w' => e = .returned (.bool true) ∧ Below w.heap.size w w' := by
  have : Inhabited Tm := ⟨⟨0, 0, 0, 0, 0⟩⟩
  obtain ⟨rfl, hle, hd⟩ := h
  by_cases h0 : d = []
  · subst h0; exact TsSorts_none s cap w
  · obtain ⟨b, o, rfl, hr⟩ := hd.resolve_left h0
    by_cases h2 : d.length ≤ 200
    · exact TsSorts_some b o cap d _ w rfl hle h2 hr
    · exact TsSorts_many b o cap d w hle (by omega) hr

end Go.Proofs.Ytbohgfcndclbjaa
