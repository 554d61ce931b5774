/-
  What valid.Graph does to the world: of every graph it returns the first thing that is wrong; what was there stays as it was.
-/
import Derived.Test.YtjebipagehhkjaaGreatVRu
namespace Go.Proofs.YtjebipagehhkjaaGreat
set_option maxRecDepth 100000
open Go.RowKit Go.Sort
set_option linter.unusedVariables false
set_option linter.unusedSimpArgs false

/-- A whole rule stored into a block of the call's own. -/
theorem wpList_putRule {ops : Array Oper} {rest : List Oper} {o : Oper} {a : Act} {w : World} {Q : Exit → Act → World → Prop} (hgd : o.guard = none) (x y : Operand) (ho : o.op = .store 63 x y) (b : Nat) (e : Int) (F : Fn) (cs : Array Value)
    (hx : a.eval x = .pointer (some ⟨b, 0, none⟩)) (hy : a.eval y = .agg #[.int .i64 e, .func F #[] cs]) (u v : Value) (hb : w.heap[b]? = some (.cells #[u, v] 63 (0, 0))) (W : World) (hg : Grow W w) (hW : W.heap.size ≤ b)
    (h : ∀ w2, Grow W w2 → w2.cell? ⟨b, 0, none⟩ = some (.int .i64 e) → w2.cell? ⟨b, 1, none⟩ = some (.func F #[] cs) → wpList Tryz.prog ops Q rest (a.put o.dst undef) w2) : wpList Tryz.prog ops Q (o :: rest) a w :=
  wpList_store_row hgd 63 x y ho b _ hx hy _ _ hb (by kernel_rfl) rfl (by simp [Value.oneCell']) (h _ (below_setRow hg hW _) (by rw [cell_setRow_same w b 0 _ _ _ _ hb]; rfl) (by rw [cell_setRow_same w b 1 _ _ _ _ hb]; rfl))
/-- Behind the first rule a graph has few nodes and few edges. -/
theorem brk_room {N : List Nd} {E : List Ed} {gn gm : Nat} (h : brk N E 0 = false) (h1 : N.length = gn) (h2 : E.length = gm) : gn ≤ 20 ∧ gm ≤ 40 := by
  simp [brk] at h
  omega
set_option maxHeartbeats 8000000 in
theorem graph_any (gs : Option Addr) (gn gc : Nat) (gt : Option Addr) (gm gq : Nat) (N : List Nd) (E : List Ed) (w : World) (hg : IsNds w gs gn gc N) (he : IsEds w gt gm gq E) {r : Int} (hr : errG N E = r) :
    Calls Tryz.prog 16 #[.agg #[.slice gs gn gc, .slice gt gm gq]] w fun e w' => e = .returned (.int .i64 r) ∧ Grow w w' := by
  have HR := hide hr
  have HNn : Hid (N.length = gn) := hide hg.1
  have HMm : Hid (E.length = gm) := hide he.1
  have GG : Hid (Grow w (w.alloc (.cells #[.slice gs gn gc, .slice gt gm gq] 27))) := hide (Grow.alloc' _ _)
  have C0 := hide (fun w => rules_raw gs gn gc gt gm gq w)
  have HN := hide hg
  have HE := hide he
  clear hg he hr
  go_enter Tryz.func16, Tryz.ntmps16
  go_wp2_with fail
  refine (C0.out _).mono ?_
  rintro _ w1 ⟨b, bg, rfl, hb, hbg, hru⟩
  have G1 := hide (Grow.trans' GG.out hb)
  have HG := hide hbg
  have HU := hide hru
  clear hb hbg hru C0 GG
  go_wp2_with fail
  go_loopw [8] (fun i wr => ∃ k : Nat, k ≤ 7 ∧ i = .int .i64 (k : Int) ∧ Grow w1 wr ∧ ∀ j, j < k → brk N E j = false) (fun i _ => 7 - (intOf i).toNat)
  case atStart => exact ⟨0, by omega, rfl, Grow.rfl' _, fun j h => by omega⟩
  case round =>
    obtain ⟨k, hk, rfl, hg, hall⟩ := hrel
    have HA := hide hall
    have HW := hide hg
    have GW := hide (Grow.trans' G1.out hg)
    clear hall
    have ek : k = 0 ∨ k = 1 ∨ k = 2 ∨ k = 3 ∨ k = 4 ∨ k = 5 ∨ k = 6 ∨ k = 7 := by omega
    rcases ek with rfl | rfl | rfl | rfl | rfl | rfl | rfl | rfl
    · have c0 := (HU.out.later hg).e0
      have c1 := (HU.out.later hg).f0
      clear hg
      go_wp2_with (refine wpList_putRule rfl _ _ rfl wr.heap.size 3 (.func 41) #[.pointer (some ⟨bg, 0, none⟩)] rfl rfl _ _ (MapKept.heap_alloc wr _).1 wr (Grow.alloc' _ _) (Nat.le_refl _) ?_)
      intro w4 hg4 d0 d1
      have G4 := hide (Grow.trans' HW.out hg4)
      have GA := hide (Grow.trans' GW.out hg4)
      obtain ⟨q, hq⟩ : ∃ q, brk N E 0 = q := ⟨_, rfl⟩
      have C := hide (rule0 gs gn gc gt gm gq N E bg w4 (HG.out.later G4.out) (HN.out.later GA.out) (HE.out.later GA.out))
      rw [hq] at C
      have HQ := hide hq
      have D0 := hide d0
      generalize wr.heap.size = RB at *
      clear c0 c1 hg4 hq d0
      go_wp2_with fail
      refine C.out.mono ?_
      rintro _ w5 ⟨rfl, hb⟩
      have G5 := hide (Grow.trans' G4.out hb)
      have GB := hide (Grow.trans' GA.out hb)
      have d0 := cell_later hb D0.out
      clear hb d1 D0
      cases q
      · go_wp2_with fail
        go_roundw
        case rel =>
          refine ⟨1, by omega, by go_num, G5.out, fun j hj => ?_⟩
          by_cases hjk : j < 0
          · exact HA.out j hjk
          · have : j = 0 := by omega
            subst this
            exact HQ.out
        case measure => simp [intOf]
      · have HE' : Hid (r = 3) := hide (by rw [← HR.out]; exact errG_brk (k := 0) (by omega) HA.out (.inr HQ.out))
        go_wp2_with fail
        go_ret
        exact ⟨ret_int HE'.out.symm, GB.out⟩
    · have c0 := (HU.out.later hg).e1
      have c1 := (HU.out.later hg).f1
      clear hg
      go_wp2_with (refine wpList_putRule rfl _ _ rfl wr.heap.size 10 (.func 42) #[.pointer (some ⟨bg, 0, none⟩)] rfl rfl _ _ (MapKept.heap_alloc wr _).1 wr (Grow.alloc' _ _) (Nat.le_refl _) ?_)
      intro w4 hg4 d0 d1
      have G4 := hide (Grow.trans' HW.out hg4)
      have GA := hide (Grow.trans' GW.out hg4)
      obtain ⟨q, hq⟩ : ∃ q, brk N E 1 = q := ⟨_, rfl⟩
      have C := hide (rule1 gs gn gc gt gm gq N E bg w4 (brk_room (HA.out 0 (by omega)) HNn.out HMm.out).1 (brk_room (HA.out 0 (by omega)) HNn.out HMm.out).2 (HG.out.later G4.out) (HN.out.later GA.out) (HE.out.later GA.out))
      rw [hq] at C
      have HQ := hide hq
      have D0 := hide d0
      generalize wr.heap.size = RB at *
      clear c0 c1 hg4 hq d0
      go_wp2_with fail
      refine C.out.mono ?_
      rintro _ w5 ⟨rfl, hb⟩
      have G5 := hide (Grow.trans' G4.out hb)
      have GB := hide (Grow.trans' GA.out hb)
      have d0 := cell_later hb D0.out
      clear hb d1 D0
      cases q
      · go_wp2_with fail
        go_roundw
        case rel =>
          refine ⟨2, by omega, by go_num, G5.out, fun j hj => ?_⟩
          by_cases hjk : j < 1
          · exact HA.out j hjk
          · have : j = 1 := by omega
            subst this
            exact HQ.out
        case measure => simp [intOf]
      · have HE' : Hid (r = 10) := hide (by rw [← HR.out]; exact errG_brk (k := 1) (by omega) HA.out (.inr HQ.out))
        go_wp2_with fail
        go_ret
        exact ⟨ret_int HE'.out.symm, GB.out⟩
    · have c0 := (HU.out.later hg).e2
      have c1 := (HU.out.later hg).f2
      clear hg
      go_wp2_with (refine wpList_putRule rfl _ _ rfl wr.heap.size 11 (.func 46) #[.pointer (some ⟨bg, 0, none⟩)] rfl rfl _ _ (MapKept.heap_alloc wr _).1 wr (Grow.alloc' _ _) (Nat.le_refl _) ?_)
      intro w4 hg4 d0 d1
      have G4 := hide (Grow.trans' HW.out hg4)
      have GA := hide (Grow.trans' GW.out hg4)
      obtain ⟨q, hq⟩ : ∃ q, brk N E 2 = q := ⟨_, rfl⟩
      have C := hide (rule2 gs gn gc gt gm gq N E bg w4 (brk_room (HA.out 0 (by omega)) HNn.out HMm.out).1 (brk_room (HA.out 0 (by omega)) HNn.out HMm.out).2 (HG.out.later G4.out) (HN.out.later GA.out) (HE.out.later GA.out))
      rw [hq] at C
      have HQ := hide hq
      have D0 := hide d0
      generalize wr.heap.size = RB at *
      clear c0 c1 hg4 hq d0
      go_wp2_with fail
      refine C.out.mono ?_
      rintro _ w5 ⟨rfl, hb⟩
      have G5 := hide (Grow.trans' G4.out hb)
      have GB := hide (Grow.trans' GA.out hb)
      have d0 := cell_later hb D0.out
      clear hb d1 D0
      cases q
      · go_wp2_with fail
        go_roundw
        case rel =>
          refine ⟨3, by omega, by go_num, G5.out, fun j hj => ?_⟩
          by_cases hjk : j < 2
          · exact HA.out j hjk
          · have : j = 2 := by omega
            subst this
            exact HQ.out
        case measure => simp [intOf]
      · have HE' : Hid (r = 11) := hide (by rw [← HR.out]; exact errG_brk (k := 2) (by omega) HA.out (.inr HQ.out))
        go_wp2_with fail
        go_ret
        exact ⟨ret_int HE'.out.symm, GB.out⟩
    · have c0 := (HU.out.later hg).e3
      have c1 := (HU.out.later hg).f3
      clear hg
      go_wp2_with (refine wpList_putRule rfl _ _ rfl wr.heap.size 12 (.func 50) #[.pointer (some ⟨bg, 0, none⟩)] rfl rfl _ _ (MapKept.heap_alloc wr _).1 wr (Grow.alloc' _ _) (Nat.le_refl _) ?_)
      intro w4 hg4 d0 d1
      have G4 := hide (Grow.trans' HW.out hg4)
      have GA := hide (Grow.trans' GW.out hg4)
      obtain ⟨q, hq⟩ : ∃ q, brk N E 3 = q := ⟨_, rfl⟩
      have C := hide (rule3 gs gn gc gt gm gq N E bg (HA.out 2 (by omega)) w4 (brk_room (HA.out 0 (by omega)) HNn.out HMm.out).1 (brk_room (HA.out 0 (by omega)) HNn.out HMm.out).2 (HG.out.later G4.out) (HN.out.later GA.out) (HE.out.later GA.out))
      rw [hq] at C
      have HQ := hide hq
      have D0 := hide d0
      generalize wr.heap.size = RB at *
      clear c0 c1 hg4 hq d0
      go_wp2_with fail
      refine C.out.mono ?_
      rintro _ w5 ⟨rfl, hb⟩
      have G5 := hide (Grow.trans' G4.out hb)
      have GB := hide (Grow.trans' GA.out hb)
      have d0 := cell_later hb D0.out
      clear hb d1 D0
      cases q
      · go_wp2_with fail
        go_roundw
        case rel =>
          refine ⟨4, by omega, by go_num, G5.out, fun j hj => ?_⟩
          by_cases hjk : j < 3
          · exact HA.out j hjk
          · have : j = 3 := by omega
            subst this
            exact HQ.out
        case measure => simp [intOf]
      · have HE' : Hid (r = 12) := hide (by rw [← HR.out]; exact errG_brk (k := 3) (by omega) HA.out (.inr HQ.out))
        go_wp2_with fail
        go_ret
        exact ⟨ret_int HE'.out.symm, GB.out⟩
    · have c0 := (HU.out.later hg).e4
      have c1 := (HU.out.later hg).f4
      clear hg
      go_wp2_with (refine wpList_putRule rfl _ _ rfl wr.heap.size 13 (.func 55) #[.pointer (some ⟨bg, 0, none⟩)] rfl rfl _ _ (MapKept.heap_alloc wr _).1 wr (Grow.alloc' _ _) (Nat.le_refl _) ?_)
      intro w4 hg4 d0 d1
      have G4 := hide (Grow.trans' HW.out hg4)
      have GA := hide (Grow.trans' GW.out hg4)
      obtain ⟨q, hq⟩ : ∃ q, brk N E 4 = q := ⟨_, rfl⟩
      have C := hide (rule4 gs gn gc gt gm gq N E bg w4 (brk_room (HA.out 0 (by omega)) HNn.out HMm.out).1 (brk_room (HA.out 0 (by omega)) HNn.out HMm.out).2 (HG.out.later G4.out) (HN.out.later GA.out) (HE.out.later GA.out))
      rw [hq] at C
      have HQ := hide hq
      have D0 := hide d0
      generalize wr.heap.size = RB at *
      clear c0 c1 hg4 hq d0
      go_wp2_with fail
      refine C.out.mono ?_
      rintro _ w5 ⟨rfl, hb⟩
      have G5 := hide (Grow.trans' G4.out hb)
      have GB := hide (Grow.trans' GA.out hb)
      have d0 := cell_later hb D0.out
      clear hb d1 D0
      cases q
      · go_wp2_with fail
        go_roundw
        case rel =>
          refine ⟨5, by omega, by go_num, G5.out, fun j hj => ?_⟩
          by_cases hjk : j < 4
          · exact HA.out j hjk
          · have : j = 4 := by omega
            subst this
            exact HQ.out
        case measure => simp [intOf]
      · have HE' : Hid (r = 13) := hide (by rw [← HR.out]; exact errG_brk (k := 4) (by omega) HA.out (.inr HQ.out))
        go_wp2_with fail
        go_ret
        exact ⟨ret_int HE'.out.symm, GB.out⟩
    · have c0 := (HU.out.later hg).e5
      have c1 := (HU.out.later hg).f5
      clear hg
      go_wp2_with (refine wpList_putRule rfl _ _ rfl wr.heap.size 15 (.func 60) #[.pointer (some ⟨bg, 0, none⟩)] rfl rfl _ _ (MapKept.heap_alloc wr _).1 wr (Grow.alloc' _ _) (Nat.le_refl _) ?_)
      intro w4 hg4 d0 d1
      have G4 := hide (Grow.trans' HW.out hg4)
      have GA := hide (Grow.trans' GW.out hg4)
      obtain ⟨q, hq⟩ : ∃ q, brk N E 5 = q := ⟨_, rfl⟩
      have C := hide (rule5 gs gn gc gt gm gq N E bg (HA.out 2 (by omega)) w4 (brk_room (HA.out 0 (by omega)) HNn.out HMm.out).1 (brk_room (HA.out 0 (by omega)) HNn.out HMm.out).2 (HG.out.later G4.out) (HN.out.later GA.out) (HE.out.later GA.out))
      rw [hq] at C
      have HQ := hide hq
      have D0 := hide d0
      generalize wr.heap.size = RB at *
      clear c0 c1 hg4 hq d0
      go_wp2_with fail
      refine C.out.mono ?_
      rintro _ w5 ⟨rfl, hb⟩
      have G5 := hide (Grow.trans' G4.out hb)
      have GB := hide (Grow.trans' GA.out hb)
      have d0 := cell_later hb D0.out
      clear hb d1 D0
      cases q
      · go_wp2_with fail
        go_roundw
        case rel =>
          refine ⟨6, by omega, by go_num, G5.out, fun j hj => ?_⟩
          by_cases hjk : j < 5
          · exact HA.out j hjk
          · have : j = 5 := by omega
            subst this
            exact HQ.out
        case measure => simp [intOf]
      · have HE' : Hid (r = 15) := hide (by rw [← HR.out]; exact errG_brk (k := 5) (by omega) HA.out (.inr HQ.out))
        go_wp2_with fail
        go_ret
        exact ⟨ret_int HE'.out.symm, GB.out⟩
    · have c0 := (HU.out.later hg).e6
      have c1 := (HU.out.later hg).f6
      clear hg
      go_wp2_with (refine wpList_putRule rfl _ _ rfl wr.heap.size 14 (.func 63) #[.pointer (some ⟨bg, 0, none⟩)] rfl rfl _ _ (MapKept.heap_alloc wr _).1 wr (Grow.alloc' _ _) (Nat.le_refl _) ?_)
      intro w4 hg4 d0 d1
      have G4 := hide (Grow.trans' HW.out hg4)
      have GA := hide (Grow.trans' GW.out hg4)
      obtain ⟨q, hq⟩ : ∃ q, brk N E 6 = q := ⟨_, rfl⟩
      have C := hide (rule6 gs gn gc gt gm gq N E bg (HA.out 2 (by omega)) w4 (brk_room (HA.out 0 (by omega)) HNn.out HMm.out).1 (brk_room (HA.out 0 (by omega)) HNn.out HMm.out).2 (HG.out.later G4.out) (HN.out.later GA.out) (HE.out.later GA.out))
      rw [hq] at C
      have HQ := hide hq
      have D0 := hide d0
      generalize wr.heap.size = RB at *
      clear c0 c1 hg4 hq d0
      go_wp2_with fail
      refine C.out.mono ?_
      rintro _ w5 ⟨rfl, hb⟩
      have G5 := hide (Grow.trans' G4.out hb)
      have GB := hide (Grow.trans' GA.out hb)
      have d0 := cell_later hb D0.out
      clear hb d1 D0
      cases q
      · go_wp2_with fail
        go_roundw
        case rel =>
          refine ⟨7, by omega, by go_num, G5.out, fun j hj => ?_⟩
          by_cases hjk : j < 6
          · exact HA.out j hjk
          · have : j = 6 := by omega
            subst this
            exact HQ.out
        case measure => simp [intOf]
      · have HE' : Hid (r = 14) := hide (by rw [← HR.out]; exact errG_brk (k := 6) (by omega) HA.out (.inr HQ.out))
        go_wp2_with fail
        go_ret
        exact ⟨ret_int HE'.out.symm, GB.out⟩
    · have HE' : Hid (r = 0) := hide (by rw [← HR.out]; exact errG_brk (k := 7) (by omega) HA.out (.inl rfl))
      clear hg
      go_wp2_with fail
      go_ret
      exact ⟨ret_int HE'.out.symm, GW.out⟩
theorem graph_raw (gs : Option Addr) (gn gc : Nat) (gt : Option Addr) (gm gq : Nat) (N : List Nd) (E : List Ed) (w : World) (hn : gn ≤ 20) (hm : gm ≤ 40) (hg : IsNds w gs gn gc N) (he : IsEds w gt gm gq E) {r : Int} (hr : errG N E = r) :
    Calls Tryz.prog 16 #[.agg #[.slice gs gn gc, .slice gt gm gq]] w fun e w' => e = .returned (.int .i64 r) ∧ Grow w w' := graph_any gs gn gc gt gm gq N E w hg he hr

end Go.Proofs.YtjebipagehhkjaaGreat
