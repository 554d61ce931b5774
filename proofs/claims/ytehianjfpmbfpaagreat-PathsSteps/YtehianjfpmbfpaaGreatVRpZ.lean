import Derived.Test.YtehianjfpmbfpaaGreatVPlZ
import Derived.Test.YtehianjfpmbfpaaGreatHInnZ
import Derived.Test.YtehianjfpmbfpaaGreatQMpZ
import Derived.Laws.MakeOwn
import Derived.Test.YtehianjfpmbfpaaGreatHRfZ
section
/-
  What valid's small functions do to the world: begin, end, isEdge, needsRoute, low, and the document's own low; each returns its plain answer, and what was there stays as it was.
-/
namespace Go.Proofs.YtehianjfpmbfpaaGreat
set_option maxRecDepth 100000
open Go.RowKit Go.Sort
set_option linter.unusedVariables false
set_option linter.unusedSimpArgs false
attribute [local go_sem ↓] eqLc run_minI

set_option maxHeartbeats 1000000 in
theorem rlow_at (k a b d : Int) {z : Int} (hz : lowP ⟨k, a, b, d⟩ = z) (w : World) :
    Calls Tryz.prog 77 #[.agg #[.int .i64 k, .int .i64 a, .int .i64 b, .int .i64 d]] w fun e w' => e = .returned (.int .i64 z) ∧ Grow w w' := by
  obtain ⟨i, hi⟩ : ∃ i, inDP ⟨k, a, b, d⟩ = i := ⟨_, rfl⟩
  have HZ : Hid (minI i d = z) := hide (by rw [← hz, ← hi]; rfl)
  have C1 := hide (fun w => rinD_at k a b d hi w)
  clear hz hi
  have GG : Hid (Grow w (w.alloc (.cells #[.int .i64 k, .int .i64 a, .int .i64 b, .int .i64 d] 63))) := hide (Grow.alloc' _ _)
  have KN : Hid (BoxN (w.alloc (.cells #[.int .i64 k, .int .i64 a, .int .i64 b, .int .i64 d] 63)) w.heap.size ⟨k, a, b, d⟩) := hide (BoxN.new w ⟨k, a, b, d⟩)
  go_enter Tryz.func77, Tryz.ntmps77
  go_wp2_with fail
  generalize w.alloc (.cells #[.int .i64 k, .int .i64 a, .int .i64 b, .int .i64 d] 63) = w0 at *
  generalize w.heap.size = P at *
  obtain ⟨k0, k1, k2, k3⟩ := KN.out
  dsimp only at k0 k1 k2 k3
  have s0 := cell_regrown k0
  have s1 := cell_regrown k1
  have s2 := cell_regrown k2
  have s3 := cell_regrown k3
  have Q1 := hide (fun dd os => Calls.regrown_of (C1.out (grow (redrawn w0 dd) os)))
  refine wp_region_quiet_below (by kernel_rfl) (by kernel_rfl) ?_
  repeat (go_big_quiet_step ((go_at_call 42; exact Q1.out _ _)))
  refine wpQuiet_nil ?_
  intro _ hw'
  obtain ⟨⟨dq, osq⟩, hw''⟩ := hw'
  subst hw''
  have G2 := hide (Grow.trans' GG.out (below_regrown w0 dq osq))
  clear s0 s1 s2 s3 k0 k1 k2 k3
  go_wp2_with fail
  go_ret
  exact ⟨ret_int HZ.out, G2.out⟩
end Go.Proofs.YtehianjfpmbfpaaGreat
end

section
/-
  What the document's own edges does to the world: of every graph it tells what is wrong with its edges; what was there stays as it was.
-/
namespace Go.Proofs.YtehianjfpmbfpaaGreat
set_option maxRecDepth 100000
open Go.RowKit Go.Sort
set_option linter.unusedVariables false
set_option linter.unusedSimpArgs false

/-- What is wrong with edges. -/
def errEd (N : List Nd) (E : List Ed) : Int := if ¬ E.all (edgeB N) = true then 11 else if ¬ E.all (depE N) = true then 12 else 0
theorem all_upto {α : Type} {p : α → Bool} {d : List α} (h : ∀ j (hj : j < d.length), p d[j] = true) : d.all p = true := List.all_eq_true.2 fun x hx => by
  obtain ⟨j, hj, e⟩ := List.getElem_of_mem hx
  rw [← e]
  exact h j hj
theorem not_all {α : Type} {p : α → Bool} {d : List α} {j : Nat} (hj : j < d.length) (h : p d[j] = false) : ¬ d.all p = true := fun hc => by
  have := List.all_eq_true.1 hc d[j] (List.getElem_mem hj)
  rw [h] at this
  cases this
theorem edge_un1 {N : List Nd} {x : Ed} (h : isP N ⟨x.f, -1⟩ = false) : edgeB N x = false := by unfold edgeB; rw [h]; rfl
theorem edge_un2 {N : List Nd} {x : Ed} (h : isP N ⟨x.t, x.p⟩ = false) : edgeB N x = false := by unfold edgeB; rw [h]; simp
theorem edge_un3 {N : List Nd} {x : Ed} (h : x.p = -1) : edgeB N x = false := by unfold edgeB; simp [h]
theorem edge_yes {N : List Nd} {x : Ed} (h1 : isP N ⟨x.f, -1⟩ = true) (h2 : isP N ⟨x.t, x.p⟩ = true) (h : ¬ x.p = -1) : edgeB N x = true := by unfold edgeB; simp [h1, h2, h]
set_option maxHeartbeats 16000000 in
theorem redges_raw (gs : Option Addr) (gn gc : Nat) (gt : Option Addr) (gm gq : Nat) (N : List Nd) (E : List Ed) (w : World) (hn : gn ≤ 20) (hm : gm ≤ 40) (hg : IsNds w gs gn gc N) (he : IsEds w gt gm gq E) {r : Int} (hr : errEd N E = r) :
    Calls Tryz.prog 52 #[.agg #[.slice gs gn gc, .slice gt gm gq]] w fun e w' => e = .returned (.int .i64 r) ∧ Grow w w' := by
  have HR := hide hr
  have HNn := hide hn
  have hN : Hid (N.length = gn) := hide hg.1
  have GG : Hid (Grow w (w.alloc (.cells #[.slice gs gn gc, .slice gt gm gq] 25))) := hide (Grow.alloc' _ _)
  have KG : Hid (BoxG (w.alloc (.cells #[.slice gs gn gc, .slice gt gm gq] 25)) w.heap.size ⟨gs, gn, gc, gt, gm, gq, [], []⟩) := hide (BoxG.new w ⟨gs, gn, gc, gt, gm, gq, [], []⟩)
  have HN := hide (hg.later GG.out)
  have HE := hide (he.later GG.out)
  clear hg he hr hn
  go_enter Tryz.func52, Tryz.ntmps52
  go_wp2_with fail
  generalize (w.alloc (.cells #[.slice gs gn gc, .slice gt gm gq] 25)) = w0 at *
  generalize w.heap.size = P at *
  go_loopw [3] (fun i wr => ∃ j : Nat, j ≤ gm ∧ i = .int .i64 (j : Int) ∧ Grow w0 wr ∧ ∀ q (h : q < E.length), q < j → edgeB N E[q] = true) (fun i _ => gm - (intOf i).toNat)
  case atStart => exact ⟨0, Nat.zero_le _, rfl, Grow.rfl' _, fun q _ h => by omega⟩
  case round =>
    obtain ⟨j, hj, rfl, hg, hall⟩ := hrel
    generalize wr = wi at *
    have HG2 := hide hg
    have HA := hide hall
    obtain ⟨k0, k1⟩ := KG.out.later hg
    dsimp only at k0 k1
    clear hall
    by_cases hjt : j < gm
    · have hkd : j < E.length := by rw [HE.out.1]; exact hjt
      have hne : ¬ E = [] := fun h => by rw [h] at hkd; simp at hkd
      obtain ⟨bE, oE, rfl, hr1⟩ := HE.out.2.2.resolve_left hne
      obtain ⟨p0, p1, p2⟩ := (hr1.later hg).at j hkd
      obtain ⟨x, hx⟩ : ∃ x, x = E[j] := ⟨_, rfl⟩
      rw [← hx] at p0 p1 p2
      have HX : Hid (∀ h : j < E.length, E[j]'h = x) := hide (fun h => hx.symm)
      have HKD := hide hkd
      obtain ⟨xf, xt, xp⟩ := x
      dsimp only at p0 p1 p2
      have hj1 : (0 : Int) ≤ (j : Int) := by omega
      have hj2 : (j : Int) < (gm : Int) := by omega
      obtain ⟨a, ha⟩ : ∃ a, isP N ⟨xf, -1⟩ = a := ⟨_, rfl⟩
      obtain ⟨b, hb⟩ : ∃ b, isP N ⟨xt, xp⟩ = b := ⟨_, rfl⟩
      have C1 := hide (fun w' (h : Grow w0 w') => ris_raw gs gn gc (some ⟨bE, oE, none⟩) gm gq N xf (-1) w' HNn.out (HN.out.later h))
      have C2 := hide (fun w' (h : Grow w0 w') => ris_raw gs gn gc (some ⟨bE, oE, none⟩) gm gq N xt xp w' HNn.out (HN.out.later h))
      rw [ha] at C1
      rw [hb] at C2
      have HAa := hide ha
      have HBb := hide hb
      have K0 := hide (KG.out.later hg)
      clear hne hr1 hkd hx hg ha hb
      go_wp2_with (refine wpList_putE rfl _ _ rfl wi.heap.size ⟨xf, xt, xp⟩ rfl rfl ⟨_, (MapKept.heap_alloc wi _).1, rfl⟩ wi (Grow.alloc' _ _) (Nat.le_refl _) ?_)
      intro w4 hg4 hb4
      have G4 := hide (Grow.trans' HG2.out hg4)
      have KE4 := hide hb4
      obtain ⟨e0, e1, e2⟩ := hb4
      dsimp only at e0 e1 e2
      have K4 := hide (K0.out.later hg4)
      obtain ⟨h0, h1⟩ := K0.out.later hg4
      dsimp only at h0 h1
      generalize wi.heap.size = EB at *
      clear k0 k1 p0 p1 p2 hg4 K0
      go_wp2_with fail
      refine (C1.out _ G4.out).mono ?_
      rintro _ w5 ⟨rfl, hb⟩
      have G5 := hide (Grow.trans' G4.out hb)
      have KE5 := hide (KE4.out.later hb)
      have K5 := hide (K4.out.later hb)
      obtain ⟨e0', e1', e2'⟩ := KE4.out.later hb
      dsimp only at e0' e1' e2'
      obtain ⟨h0', h1'⟩ := K4.out.later hb
      dsimp only at h0' h1'
      clear hb e0 e1 e2 h0 h1 G4 KE4 K4
      go_wp2_with fail
      refine (C2.out _ G5.out).mono ?_
      rintro _ w6 ⟨rfl, hb⟩
      have G6 := hide (Grow.trans' G5.out hb)
      obtain ⟨e0, e1, e2⟩ := KE5.out.later hb
      dsimp only at e0 e1 e2
      obtain ⟨h0, h1⟩ := K5.out.later hb
      dsimp only at h0 h1
      clear hb e0' e1' e2' h0' h1' G5 KE5 K5
      cases a
      · have HT : Hid (r = 11) := hide (by rw [← HR.out]; unfold errEd; rw [if_pos (not_all HKD.out (by rw [HX.out]; exact edge_un1 HAa.out))])
        go_wp2_with fail
        go_ret
        exact ⟨ret_int HT.out.symm, Grow.trans' GG.out G6.out⟩
      · cases b
        · have HT : Hid (r = 11) := hide (by rw [← HR.out]; unfold errEd; rw [if_pos (not_all HKD.out (by rw [HX.out]; exact edge_un2 HBb.out))])
          go_wp2_with fail
          go_ret
          exact ⟨ret_int HT.out.symm, Grow.trans' GG.out G6.out⟩
        · by_cases hp : xp = -1
          · have HT : Hid (r = 11) := hide (by rw [← HR.out]; unfold errEd; rw [if_pos (not_all HKD.out (by rw [HX.out]; exact edge_un3 hp))])
            rw [hp] at e2
            clear hp
            go_wp2_with fail
            go_ret
            exact ⟨ret_int HT.out.symm, Grow.trans' GG.out G6.out⟩
          · have HY : Hid (∀ h : j < E.length, edgeB N (E[j]'h) = true) := hide (fun h => by rw [HX.out]; exact edge_yes HAa.out HBb.out hp)
            go_wp2_with fail
            go_roundw
            case rel =>
              refine ⟨j + 1, by omega, by go_num, G6.out, fun q h hq => ?_⟩
              by_cases hqj : q < j
              · exact HA.out q h hqj
              · have : q = j := by omega
                subst this
                exact HY.out h
            case measure => simp [intOf]; omega
    · have hj2 : ¬ (j : Int) < (gm : Int) := by omega
      have HALL : Hid (E.all (edgeB N) = true) := hide (all_upto fun q hq => HA.out q hq (by rw [HE.out.1] at hq; omega))
      have KGi := hide (KG.out.later hg)
      have HNi := hide (HN.out.later hg)
      have HEi := hide (HE.out.later hg)
      have GGi := hide (Grow.trans' GG.out hg)
      clear hg HA HG2 KG HN HE GG
      go_wp2_with fail
      clear k0 k1
      go_loopw [7] (fun i wr => ∃ j : Nat, j ≤ gm ∧ i = .int .i64 (j : Int) ∧ Grow wi wr ∧ ∀ q (h : q < E.length), q < j → depE N E[q] = true) (fun i _ => gm - (intOf i).toNat)
      case atStart => exact ⟨0, Nat.zero_le _, rfl, Grow.rfl' _, fun q _ h => by omega⟩
      case round =>
        obtain ⟨j2, hj3, rfl, hg, hall⟩ := hrel
        generalize wr = wk at *
        have HG2 := hide hg
        have HA := hide hall
        obtain ⟨k0, k1⟩ := KGi.out.later hg
        dsimp only at k0 k1
        clear hall
        by_cases hjt : j2 < gm
        · have hkd : j2 < E.length := by rw [HEi.out.1]; exact hjt
          have hne : ¬ E = [] := fun h => by rw [h] at hkd; simp at hkd
          obtain ⟨bE, oE, rfl, hr1⟩ := HEi.out.2.2.resolve_left hne
          obtain ⟨p0, p1, p2⟩ := (hr1.later hg).at j2 hkd
          obtain ⟨⟨f0, f1, -⟩, ⟨t0, t1, -⟩, -⟩ := edge_is (List.all_eq_true.1 HALL.out E[j2] (List.getElem_mem hkd))
          have hdp : depE N E[j2] = decide ((nth N E[j2].f.toNat).d = inDP (nth N E[j2].t.toNat)) := rfl
          obtain ⟨x, hx⟩ : ∃ x, x = E[j2] := ⟨_, rfl⟩
          rw [← hx] at p0 p1 p2 f0 f1 t0 t1 hdp
          have HX : Hid (∀ h : j2 < E.length, E[j2]'h = x) := hide (fun h => hx.symm)
          have HKD := hide hkd
          obtain ⟨xf, xt, xp⟩ := x
          dsimp only at p0 p1 p2 f0 f1 t0 t1 hdp
          obtain ⟨i, rfl⟩ : ∃ i : Nat, xf = i := ⟨xf.toNat, by omega⟩
          obtain ⟨t, rfl⟩ : ∃ t : Nat, xt = t := ⟨xt.toNat, by omega⟩
          have hiN : i < N.length := by omega
          have htN : t < N.length := by omega
          have hneN : ¬ N = [] := fun h => by rw [h] at hiN; simp at hiN
          obtain ⟨bN, oN, rfl, hr2⟩ := HNi.out.2.2.resolve_left hneN
          obtain ⟨m0, m1, m2, m3⟩ := (hr2.later hg).at i hiN
          obtain ⟨q0, q1, q2, q3⟩ := (hr2.later hg).at t htN
          rw [← nth_get N i hiN] at m0 m1 m2 m3
          rw [← nth_get N t htN] at q0 q1 q2 q3
          rw [show (i : Int).toNat = i by omega, show (t : Int).toNat = t by omega] at hdp
          have hti : i = t → (nth N i).d = (nth N t).d := fun h => by rw [h]
          obtain ⟨y, hy⟩ : ∃ y, y = nth N t := ⟨_, rfl⟩
          obtain ⟨yi, hyi⟩ : ∃ yi, yi = (nth N i).d := ⟨_, rfl⟩
          rw [← hy] at q0 q1 q2 q3 hdp
          rw [← hyi] at m3 hdp
          obtain ⟨z, hz⟩ : ∃ z, inDP y = z := ⟨_, rfl⟩
          rw [hz] at hdp
          obtain ⟨yk, ya, yb, yd⟩ := y
          dsimp only at q0 q1 q2 q3
          have C3 := hide (fun w => rinD_at yk ya yb yd hz w)
          have HDP := hide hdp
          have hj4 : (0 : Int) ≤ (j2 : Int) := by omega
          have hj5 : (j2 : Int) < (gm : Int) := by omega
          have hnn := hN.out
          have hi3 : (0 : Int) ≤ (i : Int) := by omega
          have hi4 : (i : Int) < (gn : Int) := by omega
          have ht3 : (0 : Int) ≤ (t : Int) := by omega
          have ht4 : (t : Int) < (gn : Int) := by omega
          have M3 := hide m3
          have Q0 := hide q0
          have Q1 := hide q1
          have Q2 := hide q2
          have Q3 := hide q3
          have KK := hide (KGi.out.later hg)
          clear hne hr1 hkd hx hg hneN hr2 hdp hz hy hyi hti m0 m1 m2 m3 q0 q1 q2 q3 f0 f1 t0 t1 hnn hiN htN
          go_wp2_with (refine wpList_putE rfl _ _ rfl wk.heap.size ⟨(i : Int), (t : Int), xp⟩ rfl rfl ⟨_, (MapKept.heap_alloc wk _).1, rfl⟩ wk (Grow.alloc' _ _) (Nat.le_refl _) ?_)
          intro w4 hg4 hb4
          have G4 := hide (Grow.trans' HG2.out hg4)
          obtain ⟨e0, e1, e2⟩ := hb4
          dsimp only at e0 e1 e2
          obtain ⟨h0, h1⟩ := KK.out.later hg4
          dsimp only at h0 h1
          have m3 := cell_later hg4 M3.out
          have q0 := cell_later hg4 Q0.out
          have q1 := cell_later hg4 Q1.out
          have q2 := cell_later hg4 Q2.out
          have q3 := cell_later hg4 Q3.out
          generalize wk.heap.size = EB at *
          clear k0 k1 p0 p1 p2 hg4 KK Q0 Q1 Q2 Q3 M3
          go_wp2_with fail
          have s0 := cell_regrown e0
          have s1 := cell_regrown e1
          have s2 := cell_regrown e2
          have s3 := cell_regrown h0
          have s4 := cell_regrown h1
          have s5 := cell_regrown m3
          have s6 := cell_regrown q0
          have s7 := cell_regrown q1
          have s8 := cell_regrown q2
          have s9 := cell_regrown q3
          have R1 := hide (fun dd os => Calls.regrown_of (C3.out (grow (redrawn w4 dd) os)))
          refine wp_region_quiet_below (by kernel_rfl) (by kernel_rfl) ?_
          repeat (go_big_quiet_step ((go_at_call 42; exact R1.out _ _)))
          refine wpQuiet_nil ?_
          intro _ hw'
          obtain ⟨⟨dq, osq⟩, hw''⟩ := hw'
          subst hw''
          have G5 := hide (Grow.trans' G4.out (below_regrown w4 dq osq))
          clear s0 s1 s2 s3 s4 s5 s6 s7 s8 s9 e0 e1 e2 h0 h1 m3 q0 q1 q2 q3 C3 R1 G4
          generalize grow (redrawn w4 dq) osq = w5 at *
          cases hq : (yi == z)
          · have HT : Hid (r = 12) := hide (by
              rw [← HR.out]
              unfold errEd
              rw [if_neg (fun h => h HALL.out), if_pos (not_all HKD.out (by rw [HX.out, HDP.out]; exact hq))])
            go_wp2_with fail
            go_ret
            exact ⟨ret_int HT.out.symm, Grow.trans' GGi.out G5.out⟩
          · have HY : Hid (∀ h : j2 < E.length, depE N (E[j2]'h) = true) := hide (fun h => by rw [HX.out, HDP.out]; exact hq)
            go_wp2_with fail
            go_roundw
            case rel =>
              refine ⟨j2 + 1, by omega, by go_num, G5.out, fun q h hq => ?_⟩
              by_cases hqj : q < j2
              · exact HA.out q h hqj
              · have : q = j2 := by omega
                subst this
                exact HY.out h
            case measure => simp [intOf]; omega
        · have hj5 : ¬ (j2 : Int) < (gm : Int) := by omega
          have HT : Hid (r = 0) := hide (by
            rw [← HR.out]
            unfold errEd
            rw [if_neg (fun h => h HALL.out), if_neg (fun h => h (all_upto fun q hq => HA.out q hq (by rw [HEi.out.1] at hq; omega)))])
          clear hg
          go_wp2_with fail
          go_ret
          exact ⟨ret_int HT.out.symm, Grow.trans' GGi.out HG2.out⟩

end Go.Proofs.YtehianjfpmbfpaaGreat
end

section
/-
  Ways along edges, found by going on from what was found last (a stack), as plain data: what stands at each step, and what is found at the end. No program is named here.
-/
namespace Go.Proofs.YtehianjfpmbfpaaGreat
open Go.RowKit
set_option linter.unusedVariables false
set_option linter.unusedSimpArgs false

theorem next_mem {E : List Ed} {i : Int} {l : Lc} : l ∈ nextP E i ↔ ∃ e ∈ E, e.f = i ∧ l = ⟨e.t, e.p⟩ := by
  unfold nextP
  simp only [List.mem_map, List.mem_filter, decide_eq_true_eq]
  constructor
  · rintro ⟨e, ⟨h1, h2⟩, h3⟩
    exact ⟨e, h1, h2, h3.symm⟩
  · rintro ⟨e, h1, h2, h3⟩
    exact ⟨e, ⟨h1, h2⟩, h3.symm⟩
/-- All that one edge leads to from u is found. -/
def Lit (N : List Nd) (E : List Ed) (m : Int) (S : List Bool) (u : Nat) : Prop := ∀ e ∈ E, e.f = u → okT N m e.t.toNat = true → S.getD e.t.toNat false = true
structure Dfs (N : List Nd) (E : List Ed) (m : Int) (v : Nat) (S : List Bool) (W : List Nat) : Prop where
  len : S.length = N.length
  sound : Sound N E m v S
  lt : ∀ x ∈ W, x < N.length
  known : ∀ x ∈ W, x = v ∨ S.getD x false = true
  done : ∀ u, (u = v ∨ S.getD u false = true) → u ∈ W ∨ Lit N E m S u
theorem Dfs.start {N : List Nd} {E : List Ed} {m : Int} {v : Nat} (hv : v < N.length) : Dfs N E m v (List.replicate N.length false) [v] := by
  have hz : ∀ i, (List.replicate N.length false).getD i false = true → False := by
    intro i hi
    simp [List.getD_eq_getElem?_getD, List.getElem?_replicate] at hi
    split at hi <;> simp at hi
  refine ⟨by simp, fun i hi => (hz i hi).elim, by simpa using hv, by simp, fun u hu => .inl ?_⟩
  rcases hu with rfl | hu
  · simp
  · exact (hz u hu).elim
theorem getD_set_mono {S : List Bool} {i j : Nat} (h : S.getD j false = true) : (S.set i true).getD j false = true := by
  rw [getD_set]
  split
  · rfl
  · exact h
theorem Dfs.push {N : List Nd} {E : List Ed} {m : Int} {v a : Nat} {S : List Bool} {W : List Nat} (hin : InN N E) (h : Dfs N E m v S W) (ha : a ∈ W) {e : Ed} {t : Nat} (he : e ∈ E) (hf : e.f = a) (ht : e.t = t) (ok : okT N m t = true) :
    Dfs N E m v (S.set t true) (W ++ [t]) := by
  have h1 := hin e he
  have htl : t < N.length := by omega
  have hTr : Tr N E m v t := by
    rcases h.known a ha with rfl | hs
    · exact .one e t he hf ht ok
    · exact .more a e t (h.sound a hs) he hf ht ok
  have hst : (S.set t true).getD t false = true := by rw [getD_set, if_pos ⟨rfl, by rw [h.len]; exact htl⟩]
  refine ⟨by rw [List.length_set]; exact h.len, fun i hi => ?_, fun x hx => ?_, fun x hx => ?_, fun u hu => ?_⟩
  · rw [getD_set] at hi
    by_cases hc : t = i ∧ i < S.length
    · rw [← hc.1]; exact hTr
    · rw [if_neg hc] at hi; exact h.sound i hi
  · rcases List.mem_append.1 hx with hx | hx
    · exact h.lt x hx
    · rw [List.mem_singleton.1 hx]; exact htl
  · rcases List.mem_append.1 hx with hx | hx
    · exact (h.known x hx).imp id getD_set_mono
    · rw [List.mem_singleton.1 hx]; exact .inr hst
  · by_cases hut : u = t
    · subst hut
      exact .inl (by simp)
    · have hu' : u = v ∨ S.getD u false = true := by
        rcases hu with hu | hu
        · exact .inl hu
        · rw [getD_set, if_neg (fun hc => hut hc.1.symm)] at hu
          exact .inr hu
      rcases h.done u hu' with hd | hd
      · exact .inl (List.mem_append_left _ hd)
      · exact .inr fun x hx hxf hok => getD_set_mono (hd x hx hxf hok)
theorem Dfs.pop {N : List Nd} {E : List Ed} {m : Int} {v a : Nat} {S : List Bool} {W : List Nat} (h : Dfs N E m v S (W ++ [a])) (hl : Lit N E m S a) : Dfs N E m v S W := by
  refine ⟨h.len, h.sound, fun x hx => h.lt x (List.mem_append_left _ hx), fun x hx => h.known x (List.mem_append_left _ hx), fun u hu => ?_⟩
  rcases h.done u hu with hd | hd
  · rcases List.mem_append.1 hd with hd | hd
    · exact .inl hd
    · rw [List.mem_singleton.1 hd]; exact .inr hl
  · exact .inr hd
theorem Dfs.end {N : List Nd} {E : List Ed} {m : Int} {v : Nat} {S : List Bool} (hin : InN N E) (h : Dfs N E m v S []) : S.getD v false = true ↔ Tr N E m v v := by
  refine ⟨h.sound v, fun ht => ?_⟩
  have key : ∀ t, Tr N E m v t → S.getD t false = true := by
    intro t ht
    induction ht with
    | one e b he hf hb ok =>
      have hl := (h.done v (.inl rfl)).resolve_left (by simp)
      have h1 := hl e he hf (by rw [show e.t.toNat = b by omega]; exact ok)
      rwa [show e.t.toNat = b by omega] at h1
    | more b e c _ he hf hb ok ih =>
      have hl := (h.done b (.inr ih)).resolve_left (by simp)
      have h1 := hl e he hf (by rw [show e.t.toNat = c by omega]; exact ok)
      rwa [show e.t.toNat = c by omega] at h1
  exact key v ht
/-- What is still to be done. -/
def todo (n : Nat) (S : List Bool) (W : Nat) : Nat := 2 * (n - cnt S) + W
theorem cnt_le (S : List Bool) : cnt S ≤ S.length := List.count_le_length
theorem todo_push {n t W : Nat} {S : List Bool} (hl : S.length = n) (ht : t < n) (hs : S.getD t false = false) : todo n (S.set t true) (W + 1) < todo n S W := by
  have h1 := cnt_set S t (by omega) hs
  have h2 := cnt_le (S.set t true)
  rw [List.length_set] at h2
  unfold todo
  omega
theorem todo_pop {n W : Nat} {S : List Bool} : todo n S W < todo n S (W + 1) := by unfold todo; omega

end Go.Proofs.YtehianjfpmbfpaaGreat
end

section
/-
  Rows of nodes and of edges that a call has made by append; rows of Booleans that a call has made by make: a store into one, what stands in it. Heads of rows: l[:k] of numbers.
-/
namespace Go.Proofs.YtehianjfpmbfpaaGreat
set_option maxRecDepth 100000
open Go.ChangeShapes Go.WideShapes Go.ChangeAt Go.RowKit Go.Deep
set_option linter.unusedVariables false
set_option linter.unusedSimpArgs false

/-- Where a row made longer lies: where it was, or beyond what was there. -/
def Lies (s s2 : Option Addr) (z : Nat) : Prop := ∀ a, s2 = some a → s.map (·.block) = some a.block ∨ z ≤ a.block
/-- The call owns a row, or it is nil. -/
def OwnN (w : World) (base : Nat) (s : Option Addr) (n cap : Nat) (d : List Nd) : Prop :=
  d.length = n ∧ w.ownsRow base 63 4 (.slice s n cap) n (flatN d) ∧ (s = none → cap = 0)
theorem OwnN.nil (w : World) (base : Nat) : OwnN w base none 0 0 [] := ⟨rfl, World.ownsRow_nil w base _ _, fun _ => rfl⟩
theorem OwnN.keep {w w' : World} {base n cap : Nat} {s : Option Addr} {d : List Nd} (h : OwnN w base s n cap d) (hk : ∀ a, s = some a → w'.heap[a.block]? = w.heap[a.block]?) : OwnN w' base s n cap d := by
  obtain ⟨h1, h2, h3⟩ := h
  refine ⟨h1, ⟨h2.1, ?_⟩, h3⟩
  rcases h2.2 with h' | ⟨g, cap', cur, h', hb, hg, r⟩
  · exact .inl h'
  · simp only [Value.slice.injEq] at h'
    obtain ⟨rfl, _, rfl⟩ := h'
    exact .inr ⟨g, cap, cur, rfl, hb, (hk _ rfl).trans hg, r⟩
theorem OwnN.lt {w : World} {base n cap : Nat} {s : Option Addr} {d : List Nd} (h : OwnN w base s n cap d) : ∀ a, s = some a → a.block < w.heap.size ∧ base ≤ a.block := by
  intro a ha
  rcases h.2.1.2 with ⟨h', _⟩ | ⟨g, cap', cur, h', hb, hg, r⟩
  · simp only [Value.slice.injEq] at h'
    rw [ha] at h'; cases h'.1
  · simp only [Value.slice.injEq] at h'
    rw [ha] at h'
    cases h'.1
    exact ⟨(Array.getElem?_eq_some_iff.1 hg).1, hb⟩
theorem OwnN.later {w w' : World} {base n cap : Nat} {s : Option Addr} {d : List Nd} (h : OwnN w base s n cap d) (hg : Grow w w') : OwnN w' base s n cap d :=
  h.keep fun a ha => hg.block _ (h.lt a ha).1
theorem OwnN.is {w : World} {base n cap : Nat} {s : Option Addr} {d : List Nd} (h : OwnN w base s n cap d) : IsNds w s n cap d := by
  obtain ⟨h1, h2, h3⟩ := h
  rcases h2.2 with ⟨h', h''⟩ | ⟨g, cap', cur, h', hb, hg, k1, k2, k3, k4⟩
  · have hn : n = 0 := h''
    refine ⟨h1, by omega, .inl ?_⟩
    exact List.eq_nil_of_length_eq_zero (by omega)
  · simp only [Value.slice.injEq] at h'
    obtain ⟨rfl, _, rfl⟩ := h'
    refine ⟨h1, k1, .inr ⟨g, 0, rfl, fun j v hj => ?_⟩⟩
    have hj' : j < n * 4 := by rw [← h1, ← flatN_len]; exact (List.getElem?_eq_some_iff.1 hj).1
    have := World.ownsRow.cellAt h2 j hj'
    rw [Nat.zero_add, this]; exact hj
theorem OwnN.rebase {w : World} {base base' n cap : Nat} {s : Option Addr} {d : List Nd} (h : OwnN w base s n cap d) (hb : base' ≤ base) : OwnN w base' s n cap d :=
  ⟨h.1, ⟨h.2.1.1, h.2.1.2.imp id fun ⟨g, cap', cur, e, hg, r⟩ => ⟨g, cap', cur, e, Nat.le_trans hb hg, r⟩⟩, h.2.2⟩
theorem OwnN.lit0 (w : World) (base : Nat) (hb : base ≤ w.heap.size) : OwnN (w.alloc (.cells #[] 63)) base (some ⟨w.heap.size, 0, none⟩) 0 0 [] :=
  ⟨rfl, ⟨rfl, .inr ⟨w.heap.size, 0, #[], rfl, hb, (MapKept.heap_alloc w _).1, Nat.le_refl _, Nat.zero_le _, rfl, rfl⟩⟩, fun h => by cases h⟩
theorem info_nd : ∃ i, Tryz.prog.info? 63 = some i ∧ i.zero = some (.agg #[.int .i64 0, .int .i64 0, .int .i64 0, .int .i64 0]) ∧ i.size = 4 ∧ i.bytes = 32 := by
  cases hi : Tryz.prog.info? 63 with
  | none =>
    have : (Tryz.prog.info? 63).isSome = true := by kernel_rfl
    rw [hi] at this; cases this
  | some i =>
    have hz : (Tryz.prog.info? 63).map (·.zero) = some (some (.agg #[.int .i64 0, .int .i64 0, .int .i64 0, .int .i64 0])) := by kernel_rfl
    have hs : (Tryz.prog.info? 63).map (·.size) = some 4 := by kernel_rfl
    have hb : (Tryz.prog.info? 63).map (·.bytes) = some 32 := by kernel_rfl
    rw [hi] at hz hs hb
    simp only [Option.map_some, Option.some.injEq] at hz hs hb
    exact ⟨i, rfl, hz, hs, hb⟩
theorem app_none_nd (s : Option Addr) (n cap : Nat) (hn : n ≤ cap) (c : Nat) (rt : TypeId) (w : World) :
    (Builtin.append_ #[22, 22] rt #[.slice s n cap, .slice none 0 c]).run Tryz.prog w = (Builtin.append_ #[22, 22] rt #[.slice s n cap, .slice (some ⟨0, 0, none⟩) 0 c]).run Tryz.prog w := by
  obtain ⟨i, hi, hz, hsz, hby⟩ := info_nd
  have hl : (loadCells ⟨0, 0, none⟩ 0).run Tryz.prog w = .ok #[] w := by simpa using run_loadCells_list (P := Tryz.prog) w ⟨0, 0, none⟩ [] (by simp)
  cases s <;> simp [Builtin.append_, run_underlying Tryz.underlying22, sizeOf, typeInfo, hi, Builtin.lenOf, Builtin.firstCells, hl, hn]
/-- What append does. -/
theorem run_ap_nd (w : World) (rt : TypeId) (base : Nat) (s : Option Addr) (n cap : Nat) (d e : List Nd) (hown : OwnN w base s n cap d) (s' : Option Addr) (m c : Nat) (he : IsNds w s' m c e) (hlen : n + m ≤ 1000000) (hbase : base ≤ w.heap.size) :
    ∃ s2 c2 w2, (Builtin.append_ #[22, 22] rt #[.slice s n cap, .slice s' m c]).run Tryz.prog w = .ok (.slice s2 (n + m) c2) w2
      ∧ OwnN w2 base s2 (n + m) c2 (d ++ e) ∧ w.grownBy w2 (s.map (·.block)) := by
  obtain ⟨i, hi, hz, hsz, hby⟩ := info_nd
  have hnc := hown.is.2.1
  obtain ⟨hm, _, hs⟩ := he
  obtain ⟨hn, hr, hz0⟩ := hown
  have key : ∀ (x : Addr), (∀ j u, (flatN e)[j]? = some u → w.cell? (x.add j) = some u) → ∃ s2 c2 w2, (Builtin.append_ #[22, 22] rt #[.slice s n cap, .slice (some x) m c]).run Tryz.prog w = .ok (.slice s2 (n + m) c2) w2
      ∧ OwnN w2 base s2 (n + m) c2 (d ++ e) ∧ w.grownBy w2 (s.map (·.block)) := by
    intro x hx
    obtain ⟨v', w', h0, h1, h2, h3, h4⟩ := run_append_own_at (P := Tryz.prog) w base 22 rt 63 i _ 4 32 Tryz.underlying22 hi hz hsz hby rfl (by omega) _ n (flatN d) hr x m c (flatN e) (by rw [flatN_len, hm]) hx (oneCell_flatN e) (by simp [maxLen]; omega) (by omega) hbase
    have hob : (Value.slice s n cap).ownBlock = s.map (·.block) := by cases s <;> rfl
    rw [hob] at h2 h4
    have hl : (d ++ e).length = n + m := by rw [List.length_append, hn, hm]
    have hfl : flatN d ++ flatN e = flatN (d ++ e) := (flatN_append d e).symm
    rw [hfl] at h1
    rcases h1.2 with ⟨h', h''⟩ | ⟨g', cap', cur, h', hb, hg, k⟩
    · subst h'
      have h5 : n + m = 0 := h''
      refine ⟨none, 0, w', by rw [h0, h5], ⟨hl, ?_, fun _ => rfl⟩, h2⟩
      rw [h5] at h1 ⊢
      exact h1
    · subst h'
      exact ⟨some ⟨g', 0, none⟩, cap', w', h0, ⟨hl, h1, fun k => by cases k⟩, h2⟩
  rcases hs with rfl | ⟨b, off, rfl, hrw⟩
  · have hm0 : m = 0 := by rw [← hm]; rfl
    subst hm0
    cases s' with
    | none =>
      rw [app_none_nd _ _ _ hnc]
      exact key _ (fun j v hj => by simp [flatN] at hj)
    | some a => exact key a (fun j v hj => by simp [flatN] at hj)
  · exact key _ (fun j v hj => by rw [addr_add]; exact hrw j v hj)
theorem wpList_apd_nd {w : World} {ops : Array Oper} {rest : List Oper} {o : Oper} {a : Act} {Q : Exit → Act → World → Prop} (hgd : o.guard = none) (s x : Operand)
    (ho : o.op = .call { callee := .builtin .append, args := #[s, x], argTypes := #[22, 22] })
    (base : Nat) (s0 : Option Addr) (n cap : Nat) (d e : List Nd) (hs : a.eval s = .slice s0 n cap) (hown : OwnN w base s0 n cap d)
    (s' : Option Addr) (m c : Nat) (hx : a.eval x = .slice s' m c) (he : IsNds w s' m c e) (hlen : n + m ≤ 1000000) (hbase : base ≤ w.heap.size)
    (h : ∀ s2 c2 w2, OwnN w2 base s2 (n + m) c2 (d ++ e) → GrewBut w w2 base s0 → wpList Tryz.prog ops Q rest (a.put o.dst (.slice s2 (n + m) c2)) w2) :
    wpList Tryz.prog ops Q (o :: rest) a w := by
  obtain ⟨s2, c2, w2, h0, h1, h2⟩ := run_ap_nd w o.type base s0 n cap d e hown s' m c he hlen hbase
  refine wpList_plain hgd fun K hK => ?_
  unfold Oper.wp execOp
  simp only [ho, resolve, invoke, builtin, Sem.run_bind, Sem.run_pure, Result.andThen_ok, List.map_toArray, List.map_cons, List.map_nil, hs, hx, h0]
  exact hK _ _ (h s2 c2 w2 h1 ⟨h2, fun b hb => (hown.lt b hb).2⟩)
/-- What append does, and where the row lies. -/
theorem run_apx_nd (w : World) (rt : TypeId) (base : Nat) (s : Option Addr) (n cap : Nat) (d e : List Nd) (hown : OwnN w base s n cap d) (s' : Option Addr) (m c : Nat) (he : IsNds w s' m c e) (hlen : n + m ≤ 1000000) (hbase : base ≤ w.heap.size) :
    ∃ s2 c2 w2, (Builtin.append_ #[22, 22] rt #[.slice s n cap, .slice s' m c]).run Tryz.prog w = .ok (.slice s2 (n + m) c2) w2
      ∧ OwnN w2 base s2 (n + m) c2 (d ++ e) ∧ w.grownBy w2 (s.map (·.block)) ∧ ∀ a, s2 = some a → s.map (·.block) = some a.block ∨ a.block = w.heap.size := by
  obtain ⟨i, hi, hz, hsz, hby⟩ := info_nd
  have hnc := hown.is.2.1
  obtain ⟨hm, _, hs⟩ := he
  obtain ⟨hn, hr, hz0⟩ := hown
  have key : ∀ (x : Addr), (∀ j u, (flatN e)[j]? = some u → w.cell? (x.add j) = some u) → ∃ s2 c2 w2, (Builtin.append_ #[22, 22] rt #[.slice s n cap, .slice (some x) m c]).run Tryz.prog w = .ok (.slice s2 (n + m) c2) w2
      ∧ OwnN w2 base s2 (n + m) c2 (d ++ e) ∧ w.grownBy w2 (s.map (·.block)) ∧ ∀ a, s2 = some a → s.map (·.block) = some a.block ∨ a.block = w.heap.size := by
    intro x hx
    obtain ⟨v', w', h0, h1, h2, h3, h4⟩ := run_append_own_at (P := Tryz.prog) w base 22 rt 63 i _ 4 32 Tryz.underlying22 hi hz hsz hby rfl (by omega) _ n (flatN d) hr x m c (flatN e) (by rw [flatN_len, hm]) hx (oneCell_flatN e) (by simp [maxLen]; omega) (by omega) hbase
    have hob : (Value.slice s n cap).ownBlock = s.map (·.block) := by cases s <;> rfl
    rw [hob] at h2 h4
    have hl : (d ++ e).length = n + m := by rw [List.length_append, hn, hm]
    have hfl : flatN d ++ flatN e = flatN (d ++ e) := (flatN_append d e).symm
    rw [hfl] at h1
    rcases h1.2 with ⟨h', h''⟩ | ⟨g', cap', cur, h', hb, hg, k⟩
    · subst h'
      have h5 : n + m = 0 := h''
      refine ⟨none, 0, w', by rw [h0, h5], ⟨hl, ?_, fun _ => rfl⟩, h2, fun a ha => by cases ha⟩
      rw [h5] at h1 ⊢
      exact h1
    · subst h'
      exact ⟨some ⟨g', 0, none⟩, cap', w', h0, ⟨hl, h1, fun k => by cases k⟩, h2, fun a ha => by
        cases ha
        rcases h4 with h4 | h4
        · exact .inl h4.symm
        · exact .inr (by simpa [Value.ownBlock] using h4)⟩
  rcases hs with rfl | ⟨b, off, rfl, hrw⟩
  · have hm0 : m = 0 := by rw [← hm]; rfl
    subst hm0
    cases s' with
    | none =>
      rw [app_none_nd _ _ _ hnc]
      exact key _ (fun j v hj => by simp [flatN] at hj)
    | some a => exact key a (fun j v hj => by simp [flatN] at hj)
  · exact key _ (fun j v hj => by rw [addr_add]; exact hrw j v hj)
theorem wpList_apx_nd {w : World} {ops : Array Oper} {rest : List Oper} {o : Oper} {a : Act} {Q : Exit → Act → World → Prop} (hgd : o.guard = none) (s x : Operand)
    (ho : o.op = .call { callee := .builtin .append, args := #[s, x], argTypes := #[22, 22] })
    (base : Nat) (s0 : Option Addr) (n cap : Nat) (d e : List Nd) (hs : a.eval s = .slice s0 n cap) (hown : OwnN w base s0 n cap d)
    (s' : Option Addr) (m c : Nat) (hx : a.eval x = .slice s' m c) (he : IsNds w s' m c e) (hlen : n + m ≤ 1000000) (hbase : base ≤ w.heap.size)
    (z : Nat) (hz : z ≤ w.heap.size) (h : ∀ s2 c2 w2, OwnN w2 base s2 (n + m) c2 (d ++ e) → GrewBut w w2 base s0 → Lies s0 s2 z → wpList Tryz.prog ops Q rest (a.put o.dst (.slice s2 (n + m) c2)) w2) :
    wpList Tryz.prog ops Q (o :: rest) a w := by
  obtain ⟨s2, c2, w2, h0, h1, h2, h3⟩ := run_apx_nd w o.type base s0 n cap d e hown s' m c he hlen hbase
  refine wpList_plain hgd fun K hK => ?_
  unfold Oper.wp execOp
  simp only [ho, resolve, invoke, builtin, Sem.run_bind, Sem.run_pure, Result.andThen_ok, List.map_toArray, List.map_cons, List.map_nil, hs, hx, h0]
  exact hK _ _ (h s2 c2 w2 h1 ⟨h2, fun b hb => (hown.lt b hb).2⟩ fun a ha => (h3 a ha).imp id fun e => by omega)
/-- The call owns a row, or it is nil. -/
def OwnE (w : World) (base : Nat) (s : Option Addr) (n cap : Nat) (d : List Ed) : Prop :=
  d.length = n ∧ w.ownsRow base 61 3 (.slice s n cap) n (flatE d) ∧ (s = none → cap = 0)
theorem OwnE.nil (w : World) (base : Nat) : OwnE w base none 0 0 [] := ⟨rfl, World.ownsRow_nil w base _ _, fun _ => rfl⟩
theorem OwnE.keep {w w' : World} {base n cap : Nat} {s : Option Addr} {d : List Ed} (h : OwnE w base s n cap d) (hk : ∀ a, s = some a → w'.heap[a.block]? = w.heap[a.block]?) : OwnE w' base s n cap d := by
  obtain ⟨h1, h2, h3⟩ := h
  refine ⟨h1, ⟨h2.1, ?_⟩, h3⟩
  rcases h2.2 with h' | ⟨g, cap', cur, h', hb, hg, r⟩
  · exact .inl h'
  · simp only [Value.slice.injEq] at h'
    obtain ⟨rfl, _, rfl⟩ := h'
    exact .inr ⟨g, cap, cur, rfl, hb, (hk _ rfl).trans hg, r⟩
theorem OwnE.lt {w : World} {base n cap : Nat} {s : Option Addr} {d : List Ed} (h : OwnE w base s n cap d) : ∀ a, s = some a → a.block < w.heap.size ∧ base ≤ a.block := by
  intro a ha
  rcases h.2.1.2 with ⟨h', _⟩ | ⟨g, cap', cur, h', hb, hg, r⟩
  · simp only [Value.slice.injEq] at h'
    rw [ha] at h'; cases h'.1
  · simp only [Value.slice.injEq] at h'
    rw [ha] at h'
    cases h'.1
    exact ⟨(Array.getElem?_eq_some_iff.1 hg).1, hb⟩
theorem OwnE.later {w w' : World} {base n cap : Nat} {s : Option Addr} {d : List Ed} (h : OwnE w base s n cap d) (hg : Grow w w') : OwnE w' base s n cap d :=
  h.keep fun a ha => hg.block _ (h.lt a ha).1
theorem OwnE.is {w : World} {base n cap : Nat} {s : Option Addr} {d : List Ed} (h : OwnE w base s n cap d) : IsEds w s n cap d := by
  obtain ⟨h1, h2, h3⟩ := h
  rcases h2.2 with ⟨h', h''⟩ | ⟨g, cap', cur, h', hb, hg, k1, k2, k3, k4⟩
  · have hn : n = 0 := h''
    refine ⟨h1, by omega, .inl ?_⟩
    exact List.eq_nil_of_length_eq_zero (by omega)
  · simp only [Value.slice.injEq] at h'
    obtain ⟨rfl, _, rfl⟩ := h'
    refine ⟨h1, k1, .inr ⟨g, 0, rfl, fun j v hj => ?_⟩⟩
    have hj' : j < n * 3 := by rw [← h1, ← flatE_len]; exact (List.getElem?_eq_some_iff.1 hj).1
    have := World.ownsRow.cellAt h2 j hj'
    rw [Nat.zero_add, this]; exact hj
theorem OwnE.rebase {w : World} {base base' n cap : Nat} {s : Option Addr} {d : List Ed} (h : OwnE w base s n cap d) (hb : base' ≤ base) : OwnE w base' s n cap d :=
  ⟨h.1, ⟨h.2.1.1, h.2.1.2.imp id fun ⟨g, cap', cur, e, hg, r⟩ => ⟨g, cap', cur, e, Nat.le_trans hb hg, r⟩⟩, h.2.2⟩
theorem OwnE.lit0 (w : World) (base : Nat) (hb : base ≤ w.heap.size) : OwnE (w.alloc (.cells #[] 61)) base (some ⟨w.heap.size, 0, none⟩) 0 0 [] :=
  ⟨rfl, ⟨rfl, .inr ⟨w.heap.size, 0, #[], rfl, hb, (MapKept.heap_alloc w _).1, Nat.le_refl _, Nat.zero_le _, rfl, rfl⟩⟩, fun h => by cases h⟩
theorem info_ed : ∃ i, Tryz.prog.info? 61 = some i ∧ i.zero = some (.agg #[.int .i64 0, .int .i64 0, .int .i64 0]) ∧ i.size = 3 ∧ i.bytes = 24 := by
  cases hi : Tryz.prog.info? 61 with
  | none =>
    have : (Tryz.prog.info? 61).isSome = true := by kernel_rfl
    rw [hi] at this; cases this
  | some i =>
    have hz : (Tryz.prog.info? 61).map (·.zero) = some (some (.agg #[.int .i64 0, .int .i64 0, .int .i64 0])) := by kernel_rfl
    have hs : (Tryz.prog.info? 61).map (·.size) = some 3 := by kernel_rfl
    have hb : (Tryz.prog.info? 61).map (·.bytes) = some 24 := by kernel_rfl
    rw [hi] at hz hs hb
    simp only [Option.map_some, Option.some.injEq] at hz hs hb
    exact ⟨i, rfl, hz, hs, hb⟩
theorem app_none_ed (s : Option Addr) (n cap : Nat) (hn : n ≤ cap) (c : Nat) (rt : TypeId) (w : World) :
    (Builtin.append_ #[23, 23] rt #[.slice s n cap, .slice none 0 c]).run Tryz.prog w = (Builtin.append_ #[23, 23] rt #[.slice s n cap, .slice (some ⟨0, 0, none⟩) 0 c]).run Tryz.prog w := by
  obtain ⟨i, hi, hz, hsz, hby⟩ := info_ed
  have hl : (loadCells ⟨0, 0, none⟩ 0).run Tryz.prog w = .ok #[] w := by simpa using run_loadCells_list (P := Tryz.prog) w ⟨0, 0, none⟩ [] (by simp)
  cases s <;> simp [Builtin.append_, run_underlying Tryz.underlying23, sizeOf, typeInfo, hi, Builtin.lenOf, Builtin.firstCells, hl, hn]
/-- What append does. -/
theorem run_ap_ed (w : World) (rt : TypeId) (base : Nat) (s : Option Addr) (n cap : Nat) (d e : List Ed) (hown : OwnE w base s n cap d) (s' : Option Addr) (m c : Nat) (he : IsEds w s' m c e) (hlen : n + m ≤ 1000000) (hbase : base ≤ w.heap.size) :
    ∃ s2 c2 w2, (Builtin.append_ #[23, 23] rt #[.slice s n cap, .slice s' m c]).run Tryz.prog w = .ok (.slice s2 (n + m) c2) w2
      ∧ OwnE w2 base s2 (n + m) c2 (d ++ e) ∧ w.grownBy w2 (s.map (·.block)) := by
  obtain ⟨i, hi, hz, hsz, hby⟩ := info_ed
  have hnc := hown.is.2.1
  obtain ⟨hm, _, hs⟩ := he
  obtain ⟨hn, hr, hz0⟩ := hown
  have key : ∀ (x : Addr), (∀ j u, (flatE e)[j]? = some u → w.cell? (x.add j) = some u) → ∃ s2 c2 w2, (Builtin.append_ #[23, 23] rt #[.slice s n cap, .slice (some x) m c]).run Tryz.prog w = .ok (.slice s2 (n + m) c2) w2
      ∧ OwnE w2 base s2 (n + m) c2 (d ++ e) ∧ w.grownBy w2 (s.map (·.block)) := by
    intro x hx
    obtain ⟨v', w', h0, h1, h2, h3, h4⟩ := run_append_own_at (P := Tryz.prog) w base 23 rt 61 i _ 3 24 Tryz.underlying23 hi hz hsz hby rfl (by omega) _ n (flatE d) hr x m c (flatE e) (by rw [flatE_len, hm]) hx (oneCell_flatE e) (by simp [maxLen]; omega) (by omega) hbase
    have hob : (Value.slice s n cap).ownBlock = s.map (·.block) := by cases s <;> rfl
    rw [hob] at h2 h4
    have hl : (d ++ e).length = n + m := by rw [List.length_append, hn, hm]
    have hfl : flatE d ++ flatE e = flatE (d ++ e) := (flatE_append d e).symm
    rw [hfl] at h1
    rcases h1.2 with ⟨h', h''⟩ | ⟨g', cap', cur, h', hb, hg, k⟩
    · subst h'
      have h5 : n + m = 0 := h''
      refine ⟨none, 0, w', by rw [h0, h5], ⟨hl, ?_, fun _ => rfl⟩, h2⟩
      rw [h5] at h1 ⊢
      exact h1
    · subst h'
      exact ⟨some ⟨g', 0, none⟩, cap', w', h0, ⟨hl, h1, fun k => by cases k⟩, h2⟩
  rcases hs with rfl | ⟨b, off, rfl, hrw⟩
  · have hm0 : m = 0 := by rw [← hm]; rfl
    subst hm0
    cases s' with
    | none =>
      rw [app_none_ed _ _ _ hnc]
      exact key _ (fun j v hj => by simp [flatE] at hj)
    | some a => exact key a (fun j v hj => by simp [flatE] at hj)
  · exact key _ (fun j v hj => by rw [addr_add]; exact hrw j v hj)
theorem wpList_apd_ed {w : World} {ops : Array Oper} {rest : List Oper} {o : Oper} {a : Act} {Q : Exit → Act → World → Prop} (hgd : o.guard = none) (s x : Operand)
    (ho : o.op = .call { callee := .builtin .append, args := #[s, x], argTypes := #[23, 23] })
    (base : Nat) (s0 : Option Addr) (n cap : Nat) (d e : List Ed) (hs : a.eval s = .slice s0 n cap) (hown : OwnE w base s0 n cap d)
    (s' : Option Addr) (m c : Nat) (hx : a.eval x = .slice s' m c) (he : IsEds w s' m c e) (hlen : n + m ≤ 1000000) (hbase : base ≤ w.heap.size)
    (h : ∀ s2 c2 w2, OwnE w2 base s2 (n + m) c2 (d ++ e) → GrewBut w w2 base s0 → wpList Tryz.prog ops Q rest (a.put o.dst (.slice s2 (n + m) c2)) w2) :
    wpList Tryz.prog ops Q (o :: rest) a w := by
  obtain ⟨s2, c2, w2, h0, h1, h2⟩ := run_ap_ed w o.type base s0 n cap d e hown s' m c he hlen hbase
  refine wpList_plain hgd fun K hK => ?_
  unfold Oper.wp execOp
  simp only [ho, resolve, invoke, builtin, Sem.run_bind, Sem.run_pure, Result.andThen_ok, List.map_toArray, List.map_cons, List.map_nil, hs, hx, h0]
  exact hK _ _ (h s2 c2 w2 h1 ⟨h2, fun b hb => (hown.lt b hb).2⟩)
/-- What append does, and where the row lies. -/
theorem run_apx_ed (w : World) (rt : TypeId) (base : Nat) (s : Option Addr) (n cap : Nat) (d e : List Ed) (hown : OwnE w base s n cap d) (s' : Option Addr) (m c : Nat) (he : IsEds w s' m c e) (hlen : n + m ≤ 1000000) (hbase : base ≤ w.heap.size) :
    ∃ s2 c2 w2, (Builtin.append_ #[23, 23] rt #[.slice s n cap, .slice s' m c]).run Tryz.prog w = .ok (.slice s2 (n + m) c2) w2
      ∧ OwnE w2 base s2 (n + m) c2 (d ++ e) ∧ w.grownBy w2 (s.map (·.block)) ∧ ∀ a, s2 = some a → s.map (·.block) = some a.block ∨ a.block = w.heap.size := by
  obtain ⟨i, hi, hz, hsz, hby⟩ := info_ed
  have hnc := hown.is.2.1
  obtain ⟨hm, _, hs⟩ := he
  obtain ⟨hn, hr, hz0⟩ := hown
  have key : ∀ (x : Addr), (∀ j u, (flatE e)[j]? = some u → w.cell? (x.add j) = some u) → ∃ s2 c2 w2, (Builtin.append_ #[23, 23] rt #[.slice s n cap, .slice (some x) m c]).run Tryz.prog w = .ok (.slice s2 (n + m) c2) w2
      ∧ OwnE w2 base s2 (n + m) c2 (d ++ e) ∧ w.grownBy w2 (s.map (·.block)) ∧ ∀ a, s2 = some a → s.map (·.block) = some a.block ∨ a.block = w.heap.size := by
    intro x hx
    obtain ⟨v', w', h0, h1, h2, h3, h4⟩ := run_append_own_at (P := Tryz.prog) w base 23 rt 61 i _ 3 24 Tryz.underlying23 hi hz hsz hby rfl (by omega) _ n (flatE d) hr x m c (flatE e) (by rw [flatE_len, hm]) hx (oneCell_flatE e) (by simp [maxLen]; omega) (by omega) hbase
    have hob : (Value.slice s n cap).ownBlock = s.map (·.block) := by cases s <;> rfl
    rw [hob] at h2 h4
    have hl : (d ++ e).length = n + m := by rw [List.length_append, hn, hm]
    have hfl : flatE d ++ flatE e = flatE (d ++ e) := (flatE_append d e).symm
    rw [hfl] at h1
    rcases h1.2 with ⟨h', h''⟩ | ⟨g', cap', cur, h', hb, hg, k⟩
    · subst h'
      have h5 : n + m = 0 := h''
      refine ⟨none, 0, w', by rw [h0, h5], ⟨hl, ?_, fun _ => rfl⟩, h2, fun a ha => by cases ha⟩
      rw [h5] at h1 ⊢
      exact h1
    · subst h'
      exact ⟨some ⟨g', 0, none⟩, cap', w', h0, ⟨hl, h1, fun k => by cases k⟩, h2, fun a ha => by
        cases ha
        rcases h4 with h4 | h4
        · exact .inl h4.symm
        · exact .inr (by simpa [Value.ownBlock] using h4)⟩
  rcases hs with rfl | ⟨b, off, rfl, hrw⟩
  · have hm0 : m = 0 := by rw [← hm]; rfl
    subst hm0
    cases s' with
    | none =>
      rw [app_none_ed _ _ _ hnc]
      exact key _ (fun j v hj => by simp [flatE] at hj)
    | some a => exact key a (fun j v hj => by simp [flatE] at hj)
  · exact key _ (fun j v hj => by rw [addr_add]; exact hrw j v hj)
theorem wpList_apx_ed {w : World} {ops : Array Oper} {rest : List Oper} {o : Oper} {a : Act} {Q : Exit → Act → World → Prop} (hgd : o.guard = none) (s x : Operand)
    (ho : o.op = .call { callee := .builtin .append, args := #[s, x], argTypes := #[23, 23] })
    (base : Nat) (s0 : Option Addr) (n cap : Nat) (d e : List Ed) (hs : a.eval s = .slice s0 n cap) (hown : OwnE w base s0 n cap d)
    (s' : Option Addr) (m c : Nat) (hx : a.eval x = .slice s' m c) (he : IsEds w s' m c e) (hlen : n + m ≤ 1000000) (hbase : base ≤ w.heap.size)
    (z : Nat) (hz : z ≤ w.heap.size) (h : ∀ s2 c2 w2, OwnE w2 base s2 (n + m) c2 (d ++ e) → GrewBut w w2 base s0 → Lies s0 s2 z → wpList Tryz.prog ops Q rest (a.put o.dst (.slice s2 (n + m) c2)) w2) :
    wpList Tryz.prog ops Q (o :: rest) a w := by
  obtain ⟨s2, c2, w2, h0, h1, h2, h3⟩ := run_apx_ed w o.type base s0 n cap d e hown s' m c he hlen hbase
  refine wpList_plain hgd fun K hK => ?_
  unfold Oper.wp execOp
  simp only [ho, resolve, invoke, builtin, Sem.run_bind, Sem.run_pure, Result.andThen_ok, List.map_toArray, List.map_cons, List.map_nil, hs, hx, h0]
  exact hK _ _ (h s2 c2 w2 h1 ⟨h2, fun b hb => (hown.lt b hb).2⟩ fun a ha => (h3 a ha).imp id fun e => by omega)

/-! ## Rows of Booleans -/
def flatB (d : List Bool) : List Value := d.map Value.bool
theorem flatB_len (d : List Bool) : (flatB d).length = d.length * 1 := by simp [flatB]
/-- The call owns a row of Booleans. -/
def OwnB (w : World) (base : Nat) (g n : Nat) (d : List Bool) : Prop :=
  d.length = n ∧ base ≤ g ∧ w.ownsRow base 4 1 (.slice (some ⟨g, 0, none⟩) n n) n (flatB d)
theorem OwnB.heap {w : World} {base g n : Nat} {d : List Bool} (h : OwnB w base g n d) : ∃ cur, w.heap[g]? = some (.cells cur 4 (0, 0)) := by
  rcases h.2.2.2 with ⟨h', _⟩ | ⟨g', cap', cur, h', hb, hg, r⟩
  · simp at h'
  · simp only [Value.slice.injEq, Option.some.injEq, Addr.mk.injEq, and_true, true_and] at h'
    obtain ⟨rfl, rfl⟩ := h'
    exact ⟨cur, hg⟩
theorem OwnB.lt {w : World} {base g n : Nat} {d : List Bool} (h : OwnB w base g n d) : g < w.heap.size := by
  obtain ⟨cur, hg⟩ := h.heap
  exact (Array.getElem?_eq_some_iff.1 hg).1
theorem OwnB.keep {w w' : World} {base g n : Nat} {d : List Bool} (h : OwnB w base g n d) (hk : w'.heap[g]? = w.heap[g]?) : OwnB w' base g n d := by
  obtain ⟨h1, h0, h2⟩ := h
  refine ⟨h1, h0, ⟨h2.1, ?_⟩⟩
  rcases h2.2 with ⟨h', _⟩ | ⟨g', cap', cur, h', hb, hg, r⟩
  · simp at h'
  · simp only [Value.slice.injEq, Option.some.injEq, Addr.mk.injEq, and_true, true_and] at h'
    obtain ⟨rfl, rfl⟩ := h'
    exact .inr ⟨g, n, cur, rfl, hb, hk.trans hg, r⟩
theorem OwnB.later {w w' : World} {base g n : Nat} {d : List Bool} (h : OwnB w base g n d) (hg : Grow w w') : OwnB w' base g n d := h.keep (hg.block _ h.lt)
theorem OwnB.stored {w : World} {base g n : Nat} {d : List Bool} (h : OwnB w base g n d) (j : Nat) (x : Bool) :
    OwnB (w.setCell ⟨g, j, none⟩ (.bool x)) base g n (d.set j x) ∧ w.grownBy (w.setCell ⟨g, j, none⟩ (.bool x)) (some g) := by
  have := World.ownsRow.stored h.2.2 j (.bool x)
  refine ⟨⟨by rw [List.length_set]; exact h.1, h.2.1, ?_⟩, this.2⟩
  have e : flatB (d.set j x) = (flatB d).set j (.bool x) := by simp [flatB, List.map_set]
  rw [e]; exact this.1
theorem OwnB.cell {w : World} {base g n : Nat} {d : List Bool} (h : OwnB w base g n d) (j : Nat) (hj : j < d.length) : w.cell? ⟨g, j, none⟩ = some (.bool (d.getD j false)) := by
  have := World.ownsRow.cellAt h.2.2 j (by have := h.1; omega)
  rw [this]
  simp [flatB, hj]
theorem OwnB.free {w : World} {base g n : Nat} {d : List Bool} (h : OwnB w base g n d) (j : Nat) : w.frozen? ⟨g, j, none⟩ = false := World.ownsRow.frozenAt h.2.2 j
theorem make_bool (n : Nat) (hn : n ≤ 1000000) (w : World) : (Instr.makeSlice 117 (.int .i64 (n : Int)) (.int .i64 (n : Int))).run Tryz.prog w = .ok (.slice (some ⟨w.heap.size, 0, none⟩) n n) (w.alloc (.cells (madeCells #[.bool false] n) 4)) := by
  cases hi : Tryz.prog.info? 4 with
  | none =>
    have : (Tryz.prog.info? 4).isSome = true := by kernel_rfl
    rw [hi] at this; cases this
  | some i =>
    have hz : (Tryz.prog.info? 4).map (·.zero) = some (some (.bool false)) := by kernel_rfl
    have hs : (Tryz.prog.info? 4).map (·.size) = some 1 := by kernel_rfl
    have hb : (Tryz.prog.info? 4).map (·.bytes) = some 1 := by kernel_rfl
    rw [hi] at hz hs hb
    simp only [Option.map_some, Option.some.injEq] at hz hs hb
    have := run_make (P := Tryz.prog) w 117 4 i (.bool false) Tryz.underlying117 hi hz .i64 .i64 n n (by omega) (by omega) (by rw [hb]; omega) (by omega)
    rw [this, hs]
    simp [Value.cells]
theorem made_bool (n : Nat) : (madeCells #[.bool false] n).toList = flatB (List.replicate n false) := by
  have e : ∀ i : Nat, (#[Value.bool false] : Array Value)[i % 1]! = Value.bool false := fun i => by rw [Nat.mod_one]; rfl
  simp [madeCells, flatB, Nat.mod_one, List.map_const']
theorem OwnB.new {w : World} {base n : Nat} (hb : base ≤ w.heap.size) (hn : n ≤ 1000000) : OwnB (w.alloc (.cells (madeCells #[.bool false] n) 4)) base w.heap.size n (List.replicate n false) := by
  have := World.ownsRow_lit (base := base) (e := 4) (size := 1) w (madeCells #[.bool false] n) n hb (by simp [maxLen]; omega) (by rw [size_madeCells]; omega)
  rw [made_bool] at this
  exact ⟨by simp, hb, this⟩
/-- make of a row of Booleans. -/
theorem wpList_mkB {ops : Array Oper} {rest : List Oper} {o : Oper} {a : Act} {w : World} {Q : Exit → Act → World → Prop} (hgd : o.guard = none) (l c : Operand) (ho : o.op = .makeSlice 117 l c) (n : Nat) (hn : n ≤ 1000000)
    (hl : a.eval l = .int .i64 (n : Int)) (hc : a.eval c = .int .i64 (n : Int)) (base : Nat) (hb : base ≤ w.heap.size) (h : ∀ w2, Grow w w2 → OwnB w2 base w.heap.size n (List.replicate n false) → w2.heap.size = w.heap.size + 1 → wpList Tryz.prog ops Q rest (a.put o.dst (.slice (some ⟨w.heap.size, 0, none⟩) n n)) w2) :
    wpList Tryz.prog ops Q (o :: rest) a w := by
  refine wpList_plain hgd fun K hK => ?_
  have hrun := make_bool n hn w
  unfold Oper.wp
  simp [execOp, ho, hl, hc, hrun, Result.andThen]
  exact hK _ _ (h _ (Grow.alloc' _ _) (OwnB.new hb hn) (by simp))
/-- The Booleans that lie in a block. -/
def bitsOf (w : World) (g n : Nat) : List Bool := (List.range n).map fun i => match w.cell? ⟨g, i, none⟩ with | some (.bool b) => b | _ => false
theorem OwnB.bits {w : World} {base g n : Nat} {d : List Bool} (h : OwnB w base g n d) : bitsOf w g n = d := by
  have hl := h.1
  refine List.ext_getElem (by simp [bitsOf, hl]) fun i h1 h2 => ?_
  have := h.cell i h2
  simp [bitsOf, this, h2]
def lenV : Value → Nat
  | .slice _ n _ => n
  | _ => 0

/-! ## The first numbers of a row -/
theorem OwnI.pop {w : World} {base n cap : Nat} {s : Option Addr} {d : List Int} {x : Int} (h : OwnI w base s (n + 1) cap (d ++ [x])) : OwnI w base s n cap d := by
  obtain ⟨h1, h2, h3⟩ := h
  have hl : d.length = n := by simpa using h1
  refine ⟨hl, ⟨by rw [flatI_len, hl], ?_⟩, h3⟩
  rcases h2.2 with ⟨_, h'⟩ | ⟨g, cap', cur, h', hb, hg, k1, k2, k3, k4⟩
  · omega
  · simp only [Value.slice.injEq] at h'
    obtain ⟨rfl, _, rfl⟩ := h'
    refine .inr ⟨g, cap, cur, rfl, hb, hg, by omega, k2, k3, ?_⟩
    have e : flatI (d ++ [x]) = flatI d ++ [.int .i64 x] := by simp [flatI]
    rw [e] at k4
    have h5 := congrArg (List.take (n * 1)) k4
    rw [List.take_take, List.take_left' (by simp [flatI, hl])] at h5
    rw [← h5]
    congr 1
    omega
theorem OwnI.some' {w : World} {base n cap : Nat} {s : Option Addr} {d : List Int} (h : OwnI w base s n cap d) (hn : 0 < n) : ∃ g, s = some ⟨g, 0, none⟩ := by
  rcases h.2.1.2 with ⟨h', h''⟩ | ⟨g, cap', cur, h', _⟩
  · omega
  · simp only [Value.slice.injEq] at h'
    exact ⟨g, h'.1⟩
theorem run_headI (a : Option Addr) (n cap k : Nat) (w : World) (h1 : (k : Int) ≤ (cap : Int)) :
    (Instr.slice 115 (.slice a n cap) none (some (.int .i64 (k : Int))) none).run Tryz.prog w = .ok (.slice a k cap) w := by
  have h0 : (0 : Int) ≤ (k : Int) := by omega
  have z := Tryz.sizeOf3
  cases a with
  | none => simp [go_sem, h1]
  | some a =>
    obtain ⟨b, o, s⟩ := a
    by_cases hc : cap = 0
    · have hk : k = 0 := by omega
      subst hk
      simp [go_sem, hc]
    · simp [go_sem, h1, hc]
theorem OwnI.lit1 (w : World) (base : Nat) (hb : base ≤ w.heap.size) (x : Int) : OwnI (w.alloc (.cells #[.int .i64 x] 3)) base (some ⟨w.heap.size, 0, none⟩) 1 1 [x] :=
  ⟨rfl, World.ownsRow_lit w #[.int .i64 x] 1 hb (by simp [maxLen]) rfl, fun h => by cases h⟩

end Go.Proofs.YtehianjfpmbfpaaGreat
end

section
/-
  What the document's own ports does to the world: of every graph whose edges lead from outputs to inputs it tells what is wrong with its inputs; what was there stays as it was.
-/
namespace Go.Proofs.YtehianjfpmbfpaaGreat
set_option maxRecDepth 100000
open Go.RowKit Go.Sort
set_option linter.unusedVariables false
set_option linter.unusedSimpArgs false

/-- What is wrong with inputs. -/
def errPo (N : List Nd) (E : List Ed) : Int := if ¬ (locs N).all (portOk E) = true then 13 else if ¬ (locs N).all (routeOk N E) = true then 15 else 0
/-- A new block for a node, of the region's own. -/
def NewN (base : Nat) (v : Value) (w : World) : Prop := ∃ b, v = .pointer (some ⟨b, 0, none⟩) ∧ BlkN w b ∧ base ≤ b
theorem NewN.later {base : Nat} {v : Value} {w w' : World} (hg : Grow w w') : NewN base v w → NewN base v w' := fun ⟨b, e, h, k⟩ => ⟨b, e, h.later hg, k⟩
theorem wp_store_nd {o : Oper} {a : Act} {w : World} {K : Act → World → Prop} {Q : Exit → Act → World → Prop} (x y : Operand) (ho : o.op = .store 63 x y) {b : Nat} {t : Nd}
    (hx : a.eval x = .pointer (some ⟨b, 0, none⟩)) (hy : a.eval y = .agg #[.int .i64 t.k, .int .i64 t.a, .int .i64 t.b, .int .i64 t.d]) (hb : BlkN w b) (W : World) (hg : Grow W w) (hW : W.heap.size ≤ b)
    (h : ∀ w2, Grow W w2 → BoxN w2 b t → K (a.put o.dst undef) w2) : o.wp Tryz.prog a w K Q := by
  have hb' := hb
  obtain ⟨cs, hb, hs⟩ := hb
  exact wp_store_row 63 x y ho b _ hx hy _ _ hb (by kernel_rfl) (by rw [hs]; rfl) (by simp [Value.oneCell']) (h _ (below_setRow hg hW _) (hb'.box t))
theorem port_out {E : List Ed} {n : Int} : portOk E ⟨n, -1⟩ = true := by simp [portOk]
theorem port_in {E : List Ed} {l : Lc} (h : ¬ l.p = -1) : portOk E l = decide ((prevP E l).length = 1) := by simp [portOk, h]
theorem route_out {N : List Nd} {E : List Ed} {n : Int} : routeOk N E ⟨n, -1⟩ = true := by simp [routeOk]
theorem route_no {N : List Nd} {E : List Ed} {l : Lc} (h1 : ¬ (nth N l.n.toNat).k = 6) (h2 : ¬ (nth N l.n.toNat).k = 7) : routeOk N E l = true := by simp [routeOk, h1, h2]
theorem route_in {N : List Nd} {E : List Ed} {l : Lc} {j : Int} (h : ¬ l.p = -1) (hk : (nth N l.n.toNat).k = 6 ∨ (nth N l.n.toNat).k = 7) (hp : prevP E l = [j]) : routeOk N E l = decide ((nth N j.toNat).k = 5) := by
  unfold routeOk
  rw [hp]
  rcases hk with hk | hk <;> simp [h, hk]
set_option maxHeartbeats 16000000 in
theorem rports_raw (gs : Option Addr) (gn gc : Nat) (gt : Option Addr) (gm gq : Nat) (N : List Nd) (E : List Ed) (w : World) (hn : gn ≤ 20) (hm : gm ≤ 40) (hin : InN N E) (hg : IsNds w gs gn gc N) (he : IsEds w gt gm gq E) {r : Int} (hr : errPo N E = r) :
    Calls Tryz.prog 53 #[.agg #[.slice gs gn gc, .slice gt gm gq]] w fun e w' => e = .returned (.int .i64 r) ∧ Grow w w' := by
  have HR := hide hr
  have HIN := hide hin
  have hm3 := hm
  have hN : Hid (N.length = gn) := hide hg.1
  have GRT : Hid (Grow w (w.alloc (.cells #[.slice gs gn gc, .slice gt gm gq] 25))) := hide (Grow.alloc' _ _)
  have KG : Hid (BoxG (w.alloc (.cells #[.slice gs gn gc, .slice gt gm gq] 25)) w.heap.size ⟨gs, gn, gc, gt, gm, gq, [], []⟩) := hide (BoxG.new w ⟨gs, gn, gc, gt, gm, gq, [], []⟩)
  have HN := hide (hg.later GRT.out)
  have HE := hide (he.later GRT.out)
  have C0 := hide (fun w' (h : Grow (w.alloc (.cells #[.slice gs gn gc, .slice gt gm gq] 25)) w') => rlocs_raw gs gn gc gt gm gq N w' hn (HN.out.later h))
  have hl : (locs N).length ≤ 60 := by
    have h2 : (locs N).length ≤ 3 * N.length := locsTo_len N N.length
    rw [hg.1] at h2
    omega
  clear hg he hr hin hm hn
  go_enter Tryz.func53, Tryz.ntmps53
  go_wp2_with fail
  generalize (w.alloc (.cells #[.slice gs gn gc, .slice gt gm gq] 25)) = w0 at *
  generalize w.heap.size = P at *
  refine (C0.out _ (Grow.rfl' _)).mono ?_
  rintro _ w1 ⟨s, m, c, rfl, hb, hO⟩
  have G1 := hide hb
  have HD := hide hO.is
  have hmm : m ≤ 60 := by rw [← hO.1]; exact hl
  have HIS : Hid (∀ j (h : j < (locs N).length), isP N (locs N)[j] = true) := hide (locs_is N)
  obtain ⟨D, hD⟩ : ∃ D, D = locs N := ⟨_, rfl⟩
  have HDD := hide hD
  rw [← hD] at HD HIS
  clear hb hO C0 hl hD
  go_wp2_with fail
  go_loopw [4] (fun i wr => ∃ j : Nat, j ≤ m ∧ i = .int .i64 (j : Int) ∧ Grow w1 wr ∧ ∀ q (h : q < D.length), q < j → portOk E D[q] = true) (fun i _ => m - (intOf i).toNat)
  case atStart => exact ⟨0, Nat.zero_le _, rfl, Grow.rfl' _, fun q _ h => by omega⟩
  case round =>
    obtain ⟨j, hj, rfl, hg, hall⟩ := hrel
    generalize wr = wi at *
    have HG2 := hide hg
    have HA := hide hall
    clear hall
    by_cases hjt : j < m
    · have hkd : j < D.length := by rw [HD.out.1]; exact hjt
      have hne : ¬ D = [] := fun h => by rw [h] at hkd; simp at hkd
      obtain ⟨b, o, rfl, hr1⟩ := HD.out.2.2.resolve_left hne
      obtain ⟨p0, p1⟩ := (hr1.later hg).at j hkd
      obtain ⟨x, hx⟩ : ∃ x, x = D[j] := ⟨_, rfl⟩
      rw [← hx] at p0 p1
      have HX : Hid (∀ h : j < D.length, D[j]'h = x) := hide (fun h => hx.symm)
      have HKD := hide hkd
      obtain ⟨xn, xp⟩ := x
      dsimp only at p0 p1
      have hj1 : (0 : Int) ≤ (j : Int) := by omega
      have hj2 : (j : Int) < (m : Int) := by omega
      have GA := hide (Grow.trans' G1.out hg)
      by_cases hp : xp = -1
      · subst hp
        have HY : Hid (∀ h : j < D.length, portOk E (D[j]'h) = true) := hide (fun h => by rw [HX.out]; exact port_out)
        clear hne hr1 hkd hx hg
        go_wp2_with fail
        go_quiet (fail)
        have HQ2 := hide (Grow.trans' HG2.out (below_drewN (Below.refl _ _) nq))
        clear p0 p1 HG2
        generalize wi.drewN nq = wz at *
        go_wp2_with fail
        go_roundw
        case rel =>
          refine ⟨j + 1, by omega, by go_num, HQ2.out, fun q h hq => ?_⟩
          by_cases hqj : q < j
          · exact HA.out q h hqj
          · have : q = j := by omega
            subst this
            exact HY.out h
        case measure => simp [intOf]; omega
      · have hpx : (xp == -1) = false := by simpa using hp
        obtain ⟨L, hL⟩ : ∃ L, L = prevP E ⟨xn, xp⟩ := ⟨_, rfl⟩
        have HL := hide hL
        have P0 := hide p0
        have P1 := hide p1
        have HP := hide hp
        obtain ⟨q, hqI⟩ : ∃ q, (((L.length : Nat) : Int) != 1) = q := ⟨_, rfl⟩
        have HQ : Hid ((q = true → ¬ L.length = 1) ∧ (q = false → L.length = 1)) := hide (by rw [← hqI]; simp; omega)
        clear hne hr1 hkd hx hg hL p0 p1
        go_wp2_with fail
        let FF : Nat → Value → World → Prop := fun i vF wF => match i with | 0 => vF = .slice (some ⟨b, o, none⟩) m c | 1 => vF = .int .i64 (j : Int) | 2 => vF = .pointer (some ⟨b, o + j * 2, none⟩) | 3 => vF = .pointer (some ⟨b, o + j * 2 + 1, none⟩) | 4 => vF = .int .i64 xp | 5 => vF = .bool true | 6 => vF = .bool true | 7 => vF = .agg #[.slice gs gn gc, .slice gt gm gq] | 8 => vF = .slice (some ⟨b, o, none⟩) m c | 9 => vF = .int .i64 (j : Int) | 10 => vF = .pointer (some ⟨b, o + j * 2, none⟩) | 11 => vF = .agg #[.int .i64 xn, .int .i64 xp] | 12 => IsRowI L vF wF | 13 => vF = .int .i64 (L.length : Int) | 14 => vF = .bool q | 15 => vF = .bool q | _ => True
        have hstab : ∀ k v w1 w2, Grow w1 w2 → FF k v w1 → FF k v w2 := by
          intro k v w1 w2 hg h
          match k with
          | 0 => exact h
          | 1 => exact h
          | 2 => exact h
          | 3 => exact h
          | 4 => exact h
          | 5 => exact h
          | 6 => exact h
          | 7 => exact h
          | 8 => exact h
          | 9 => exact h
          | 10 => exact h
          | 11 => exact h
          | 12 => exact IsRowI.later hg h
          | 13 => exact h
          | 14 => exact h
          | 15 => exact h
          | k + 16 => exact trivial
        refine wp_region_invK FF (fun _ => none) (by kernel_rfl) (by kernel_rfl) ?_ ?_
        · refine ⟨?_, ?_, ?_, ?_, ?_, ?_, ?_, ?_, ?_, ?_, ?_, ?_, ?_, ?_, ?_, ?_, trivial⟩
          · refine stepK_run hstab trivial (by intro j b h; cases h) ?_
            intro a' w' hg hs hd
            have e3 : a'.eval (.tmp 3) = .slice (some ⟨b, o, none⟩) m c := hs.rest 3 rfl
            have ec : ∀ v, a'.eval (.const v) = v := fun _ => rfl
            have ef : ∀ g, a'.eval (.func g) = .func (.func g) #[] #[] := fun _ => rfl
            clear hd hs
            refine wpv (v := .slice (some ⟨b, o, none⟩) m c) ?_ ⟨_, rfl, Grow.rfl' _, rfl⟩
            (generalize a'.eval = ev at ec ef e3 ⊢; simp [execOp, go_sem, *])
          · refine stepK_run hstab trivial (by intro j b h; cases h) ?_
            intro a' w' hg hs hd
            have e4 : a'.eval (.tmp 4) = .int .i64 (j : Int) := hs.rest 4 rfl
            have ec : ∀ v, a'.eval (.const v) = v := fun _ => rfl
            have ef : ∀ g, a'.eval (.func g) = .func (.func g) #[] #[] := fun _ => rfl
            clear hd hs
            refine wpv (v := .int .i64 (j : Int)) ?_ ⟨_, rfl, Grow.rfl' _, rfl⟩
            (generalize a'.eval = ev at ec ef e4 ⊢; simp [execOp, go_sem, *])
          · refine stepK_run hstab trivial (by intro j b h; cases h) ?_
            intro a' w' hg hs hd
            have e16 : a'.eval (.tmp 16) = .slice (some ⟨b, o, none⟩) m c := hd ⟨0, Ground.data⟩ (by simp) rfl rfl
            have e17 : a'.eval (.tmp 17) = .int .i64 (j : Int) := hd ⟨1, Ground.data⟩ (by simp) rfl rfl
            have ec : ∀ v, a'.eval (.const v) = v := fun _ => rfl
            have ef : ∀ g, a'.eval (.func g) = .func (.func g) #[] #[] := fun _ => rfl
            clear hd hs
            refine wpv (v := .pointer (some ⟨b, o + j * 2, none⟩)) ?_ ⟨_, rfl, Grow.rfl' _, rfl⟩
            (generalize a'.eval = ev at ec ef e16 e17 ⊢; simp [execOp, go_sem, *])
          · refine stepK_run hstab trivial (by intro j b h; cases h) ?_
            intro a' w' hg hs hd
            have e18 : a'.eval (.tmp 18) = .pointer (some ⟨b, o + j * 2, none⟩) := hd ⟨2, Ground.data⟩ (by simp) rfl rfl
            have ec : ∀ v, a'.eval (.const v) = v := fun _ => rfl
            have ef : ∀ g, a'.eval (.func g) = .func (.func g) #[] #[] := fun _ => rfl
            clear hd hs
            refine wpv (v := .pointer (some ⟨b, o + j * 2 + 1, none⟩)) ?_ ⟨_, rfl, Grow.rfl' _, rfl⟩
            (generalize a'.eval = ev at ec ef e18 ⊢; simp [execOp, go_sem, *])
          · refine stepK_run hstab trivial (by intro j b h; cases h) ?_
            intro a' w' hg hs hd
            have e19 : a'.eval (.tmp 19) = .pointer (some ⟨b, o + j * 2 + 1, none⟩) := hd ⟨3, Ground.data⟩ (by simp) rfl rfl
            have ec : ∀ v, a'.eval (.const v) = v := fun _ => rfl
            have ef : ∀ g, a'.eval (.func g) = .func (.func g) #[] #[] := fun _ => rfl
            clear hd hs
            have p1 := cell_later hg P1.out
            refine wpv (v := .int .i64 xp) ?_ ⟨_, rfl, Grow.rfl' _, rfl⟩
            (generalize a'.eval = ev at ec ef e19 ⊢; simp [execOp, go_sem, *])
          · refine stepK_run hstab trivial (by intro j b h; cases h) ?_
            intro a' w' hg hs hd
            have e20 : a'.eval (.tmp 20) = .int .i64 xp := hd ⟨4, Ground.data⟩ (by simp) rfl rfl
            have ec : ∀ v, a'.eval (.const v) = v := fun _ => rfl
            have ef : ∀ g, a'.eval (.func g) = .func (.func g) #[] #[] := fun _ => rfl
            clear hd hs
            refine wpv (v := .bool true) ?_ ⟨_, rfl, Grow.rfl' _, rfl⟩
            (generalize a'.eval = ev at ec ef e20 ⊢; simp [execOp, go_sem, *])
          · refine stepK_run hstab trivial (by intro j b h; cases h) ?_
            intro a' w' hg hs hd
            have e21 : a'.eval (.tmp 21) = .bool true := hd ⟨5, Ground.data⟩ (by simp) rfl rfl
            have ec : ∀ v, a'.eval (.const v) = v := fun _ => rfl
            have ef : ∀ g, a'.eval (.func g) = .func (.func g) #[] #[] := fun _ => rfl
            clear hd hs
            refine wpv (v := .bool true) ?_ ⟨_, rfl, Grow.rfl' _, rfl⟩
            (generalize a'.eval = ev at ec ef e21 ⊢; simp [execOp, go_sem, *])
          · refine stepK_run hstab ⟨⟨⟨6, Ground.guard⟩, by simp, rfl, rfl⟩, fun _ _ h => h⟩ (by intro j b h; cases h; rfl) ?_
            intro a' w' hg hs hd
            have e1 : a'.eval (.tmp 1) = .pointer (some ⟨P, 0, none⟩) := hs.rest 1 rfl
            have ec : ∀ v, a'.eval (.const v) = v := fun _ => rfl
            have ef : ∀ g, a'.eval (.func g) = .func (.func g) #[] #[] := fun _ => rfl
            clear hd hs
            obtain ⟨k0, k1⟩ := KG.out.later (Grow.trans' GA.out hg); dsimp only at k0 k1
            refine wpv (v := .agg #[.slice gs gn gc, .slice gt gm gq]) ?_ ⟨_, rfl, Grow.rfl' _, rfl⟩
            (generalize a'.eval = ev at ec ef e1 ⊢; simp [execOp, go_sem, *])
          · refine stepK_run hstab ⟨⟨⟨6, Ground.guard⟩, by simp, rfl, rfl⟩, fun _ _ h => h⟩ (by intro j b h; cases h; rfl) ?_
            intro a' w' hg hs hd
            have e3 : a'.eval (.tmp 3) = .slice (some ⟨b, o, none⟩) m c := hs.rest 3 rfl
            have ec : ∀ v, a'.eval (.const v) = v := fun _ => rfl
            have ef : ∀ g, a'.eval (.func g) = .func (.func g) #[] #[] := fun _ => rfl
            clear hd hs
            refine wpv (v := .slice (some ⟨b, o, none⟩) m c) ?_ ⟨_, rfl, Grow.rfl' _, rfl⟩
            (generalize a'.eval = ev at ec ef e3 ⊢; simp [execOp, go_sem, *])
          · refine stepK_run hstab ⟨⟨⟨6, Ground.guard⟩, by simp, rfl, rfl⟩, fun _ _ h => h⟩ (by intro j b h; cases h; rfl) ?_
            intro a' w' hg hs hd
            have e4 : a'.eval (.tmp 4) = .int .i64 (j : Int) := hs.rest 4 rfl
            have ec : ∀ v, a'.eval (.const v) = v := fun _ => rfl
            have ef : ∀ g, a'.eval (.func g) = .func (.func g) #[] #[] := fun _ => rfl
            clear hd hs
            refine wpv (v := .int .i64 (j : Int)) ?_ ⟨_, rfl, Grow.rfl' _, rfl⟩
            (generalize a'.eval = ev at ec ef e4 ⊢; simp [execOp, go_sem, *])
          · refine stepK_run hstab ⟨⟨⟨6, Ground.guard⟩, by simp, rfl, rfl⟩, fun _ _ h => h⟩ (by intro j b h; cases h; rfl) ?_
            intro a' w' hg hs hd
            have e24 : a'.eval (.tmp 24) = .slice (some ⟨b, o, none⟩) m c := hd ⟨8, Ground.data⟩ (by simp) rfl rfl
            have e25 : a'.eval (.tmp 25) = .int .i64 (j : Int) := hd ⟨9, Ground.data⟩ (by simp) rfl rfl
            have ec : ∀ v, a'.eval (.const v) = v := fun _ => rfl
            have ef : ∀ g, a'.eval (.func g) = .func (.func g) #[] #[] := fun _ => rfl
            clear hd hs
            refine wpv (v := .pointer (some ⟨b, o + j * 2, none⟩)) ?_ ⟨_, rfl, Grow.rfl' _, rfl⟩
            (generalize a'.eval = ev at ec ef e24 e25 ⊢; simp [execOp, go_sem, *])
          · refine stepK_run hstab ⟨⟨⟨6, Ground.guard⟩, by simp, rfl, rfl⟩, fun _ _ h => h⟩ (by intro j b h; cases h; rfl) ?_
            intro a' w' hg hs hd
            have e26 : a'.eval (.tmp 26) = .pointer (some ⟨b, o + j * 2, none⟩) := hd ⟨10, Ground.data⟩ (by simp) rfl rfl
            have ec : ∀ v, a'.eval (.const v) = v := fun _ => rfl
            have ef : ∀ g, a'.eval (.func g) = .func (.func g) #[] #[] := fun _ => rfl
            clear hd hs
            have p1 := cell_later hg P1.out; have p0 := cell_later hg P0.out
            refine wpv (v := .agg #[.int .i64 xn, .int .i64 xp]) ?_ ⟨_, rfl, Grow.rfl' _, rfl⟩
            (generalize a'.eval = ev at ec ef e26 ⊢; simp [execOp, go_sem, *])
          · refine stepK_run hstab ⟨⟨⟨6, Ground.chain⟩, by simp, rfl, rfl⟩, fun _ _ h => h⟩ (by intro j b h; cases h; rfl) ?_
            intro a' w' hg hs hd
            have e23 : a'.eval (.tmp 23) = .agg #[.slice gs gn gc, .slice gt gm gq] := hd ⟨7, Ground.data⟩ (by simp) rfl rfl
            have e27 : a'.eval (.tmp 27) = .agg #[.int .i64 xn, .int .i64 xp] := hd ⟨11, Ground.data⟩ (by simp) rfl rfl
            have ec : ∀ v, a'.eval (.const v) = v := fun _ => rfl
            have ef : ∀ g, a'.eval (.func g) = .func (.func g) #[] #[] := fun _ => rfl
            clear hd hs
            refine wpc ?_ (Calls.mono (rowI_of (args := [_, _]) (by rw [HL.out]; exact rprev_raw gs gn gc gt gm gq E xn xp w' hm3 (HE.out.later (Grow.trans' GA.out hg)))) fun e w2 ⟨v, he, hb, hv⟩ => ⟨v, he, _, rfl, hb, hv⟩)
            (generalize a'.eval = ev at ec ef e23 e27 ⊢; simp [execOp, go_sem, *])
          · refine stepK_run hstab ⟨⟨⟨6, Ground.guard⟩, by simp, rfl, rfl⟩, fun _ _ h => h⟩ (by intro j b h; cases h; rfl) ?_
            intro a' w' hg hs hd
            obtain ⟨sl28, nl28, cl28, e28, h28⟩ : IsRowI L (a'.eval (.tmp 28)) w' := hd ⟨12, Ground.data⟩ (by simp) rfl rfl
            have ec : ∀ v, a'.eval (.const v) = v := fun _ => rfl
            have ef : ∀ g, a'.eval (.func g) = .func (.func g) #[] #[] := fun _ => rfl
            clear hd hs
            have hL' : (nl28 : Int) = (L.length : Int) := by rw [h28.1]
            refine wpv (v := .int .i64 (L.length : Int)) ?_ ⟨_, rfl, Grow.rfl' _, rfl⟩
            (generalize a'.eval = ev at ec ef e28 ⊢; simp [go_sem, *])
          · refine stepK_run hstab ⟨⟨⟨6, Ground.guard⟩, by simp, rfl, rfl⟩, fun _ _ h => h⟩ (by intro j b h; cases h; rfl) ?_
            intro a' w' hg hs hd
            have e29 : a'.eval (.tmp 29) = .int .i64 (L.length : Int) := hd ⟨13, Ground.data⟩ (by simp) rfl rfl
            have ec : ∀ v, a'.eval (.const v) = v := fun _ => rfl
            have ef : ∀ g, a'.eval (.func g) = .func (.func g) #[] #[] := fun _ => rfl
            clear hd hs
            refine wpv (v := .bool q) ?_ ⟨_, rfl, Grow.rfl' _, rfl⟩
            (generalize a'.eval = ev at ec ef e29 ⊢; simp [execOp, go_sem, *])
          · refine stepK_run hstab trivial (by intro j b h; cases h) ?_
            intro a' w' hg hs hd
            have e22 : a'.eval (.tmp 22) = .bool true := hd ⟨6, Ground.data⟩ (by simp) rfl rfl
            have e30 : a'.eval (.tmp 30) = .bool q := hd ⟨14, Ground.data⟩ (by simp) rfl rfl
            have ec : ∀ v, a'.eval (.const v) = v := fun _ => rfl
            have ef : ∀ g, a'.eval (.func g) = .func (.func g) #[] #[] := fun _ => rfl
            clear hd hs
            refine wpv (v := .bool q) ?_ ⟨_, rfl, Grow.rfl' _, rfl⟩
            (generalize a'.eval = ev at ec ef e22 e30 ⊢; simp [execOp, go_sem, *])
        · intro a' w' hg hs hd
          have G4 := hide (Grow.trans' HG2.out hg)
          clear P0 P1 hg HG2 GA
          have fz16 : a'.tmps.getD 16 undef = .slice (some ⟨b, o, none⟩) m c := hd 0 (by simp) (by intro k h; cases h); have fz17 : a'.tmps.getD 17 undef = .int .i64 (j : Int) := hd 1 (by simp) (by intro k h; cases h); have fz18 : a'.tmps.getD 18 undef = .pointer (some ⟨b, o + j * 2, none⟩) := hd 2 (by simp) (by intro k h; cases h); have fz19 : a'.tmps.getD 19 undef = .pointer (some ⟨b, o + j * 2 + 1, none⟩) := hd 3 (by simp) (by intro k h; cases h); have fz20 : a'.tmps.getD 20 undef = .int .i64 xp := hd 4 (by simp) (by intro k h; cases h); have fz21 : a'.tmps.getD 21 undef = .bool true := hd 5 (by simp) (by intro k h; cases h); have fz22 : a'.tmps.getD 22 undef = .bool true := hd 6 (by simp) (by intro k h; cases h); have fz23 : a'.tmps.getD 23 undef = .agg #[.slice gs gn gc, .slice gt gm gq] := hd 7 (by simp) (by intro k h; cases h); have fz24 : a'.tmps.getD 24 undef = .slice (some ⟨b, o, none⟩) m c := hd 8 (by simp) (by intro k h; cases h); have fz25 : a'.tmps.getD 25 undef = .int .i64 (j : Int) := hd 9 (by simp) (by intro k h; cases h); have fz26 : a'.tmps.getD 26 undef = .pointer (some ⟨b, o + j * 2, none⟩) := hd 10 (by simp) (by intro k h; cases h); have fz27 : a'.tmps.getD 27 undef = .agg #[.int .i64 xn, .int .i64 xp] := hd 11 (by simp) (by intro k h; cases h); have fz29 : a'.tmps.getD 29 undef = .int .i64 (L.length : Int) := hd 13 (by simp) (by intro k h; cases h); have fz30 : a'.tmps.getD 30 undef = .bool q := hd 14 (by simp) (by intro k h; cases h); have fz31 : a'.tmps.getD 31 undef = .bool q := hd 15 (by simp) (by intro k h; cases h); rw [frame_eq hs [false, false, false, false, false, false, false, false, false, false, false, false, false, false, false, false, true, true, true, true, true, true, true, true, true, true, true, true, true, true, true, true, false, false, false, false, false, false, false, false, false, false, false, false, false, false, false, false, false, false, false, false, false, false, false, false, false, false, false, false, false, false, false, false, false, false, false, false, false, false, false, false, false, false, false, false, false, false] (by kernel_rfl)]; simp only [mergeL, fz16, fz17, fz18, fz19, fz20, fz21, fz22, fz23, fz24, fz25, fz26, fz27, fz29, fz30, fz31]; clear hs hd hstab fz16 fz17 fz18 fz19 fz20 fz21 fz22 fz23 fz24 fz25 fz26 fz27 fz29 fz30 fz31; generalize a'.tmps = TT at *
          generalize w' = w4 at *
          clear hqI hpx hp
          cases q
          · have HY : Hid (∀ h : j < D.length, portOk E (D[j]'h) = true) := hide (fun h => by rw [HX.out, port_in HP.out, ← HL.out]; exact decide_eq_true (HQ.out.2 rfl))
            go_wp2_with fail
            go_roundw
            case rel =>
              refine ⟨j + 1, by omega, by go_num, G4.out, fun q h hq => ?_⟩
              by_cases hqj : q < j
              · exact HA.out q h hqj
              · have : q = j := by omega
                subst this
                exact HY.out h
            case measure => simp [intOf]; omega
          · have HT : Hid (r = 13) := hide (by
              rw [← HR.out]
              unfold errPo
              rw [if_pos (by
                rw [← HDD.out]
                exact not_all HKD.out (by rw [HX.out, port_in HP.out, ← HL.out]; exact decide_eq_false (HQ.out.1 rfl)))])
            go_wp2_with fail
            go_ret
            exact ⟨ret_int HT.out.symm, Grow.trans' GRT.out (Grow.trans' G1.out G4.out)⟩
    · have hj2 : ¬ (j : Int) < (m : Int) := by omega
      have HALL : Hid (D.all (portOk E) = true) := hide (all_upto fun q hq => HA.out q hq (by rw [HD.out.1] at hq; omega))
      have HDi := hide (HD.out.later hg)
      have GGi := hide (Grow.trans' G1.out hg)
      clear hg HA HG2 HD G1
      go_wp2_with fail
      go_loopw [5] (fun i wr => ∃ j : Nat, j ≤ m ∧ i = .int .i64 (j : Int) ∧ Grow wi wr ∧ ∀ q (h : q < D.length), q < j → routeOk N E D[q] = true) (fun i _ => m - (intOf i).toNat)
      case atStart => exact ⟨0, Nat.zero_le _, rfl, Grow.rfl' _, fun q _ h => by omega⟩
      case round =>
        obtain ⟨k, hk, rfl, hg, hall⟩ := hrel
        generalize wr = wk at *
        have HG2 := hide hg
        have HA := hide hall
        clear hall
        by_cases hjt : k < m
        · have hkd : k < D.length := by rw [HDi.out.1]; exact hjt
          have hne : ¬ D = [] := fun h => by rw [h] at hkd; simp at hkd
          obtain ⟨b, o, rfl, hr1⟩ := HDi.out.2.2.resolve_left hne
          obtain ⟨p0, p1⟩ := (hr1.later hg).at k hkd
          have hpl : 0 ≤ D[k].n ∧ D[k].n < N.length := isP_node (n := D[k].n) (p := D[k].p) (HIS.out k hkd)
          have hpo := List.all_eq_true.1 HALL.out D[k] (List.getElem_mem hkd)
          obtain ⟨x, hx⟩ : ∃ x, x = D[k] := ⟨_, rfl⟩
          rw [← hx] at p0 p1 hpl hpo
          have HX : Hid (∀ h : k < D.length, D[k]'h = x) := hide (fun h => hx.symm)
          have HKD := hide hkd
          obtain ⟨xn, xp⟩ := x
          dsimp only at p0 p1 hpl
          obtain ⟨ni, rfl⟩ : ∃ ni : Nat, xn = ni := ⟨xn.toNat, by omega⟩
          have hiN : ni < N.length := by omega
          have hneN : ¬ N = [] := fun h => by rw [h] at hiN; simp at hiN
          obtain ⟨bN, oN, rfl, hr2⟩ := HN.out.2.2.resolve_left hneN
          have GA := hide (Grow.trans' GGi.out hg)
          obtain ⟨q0, q1, q2, q3⟩ := (hr2.later GA.out).at ni hiN
          rw [← nth_get N ni hiN] at q0 q1 q2 q3
          have hki : (nth N ((ni : Nat) : Int).toNat).k = (nth N ni).k := rfl
          obtain ⟨y, hy⟩ : ∃ y, y = nth N ni := ⟨_, rfl⟩
          rw [← hy] at q0 q1 q2 q3 hki
          obtain ⟨yk, ya, yb, yd⟩ := y
          dsimp only at q0 q1 q2 q3 hki
          have HKI := hide hki
          have HPO := hide hpo
          have HR2 := hide hr2
          have hj1 : (0 : Int) ≤ (k : Int) := by omega
          have hj3 : (k : Int) < (m : Int) := by omega
          have hnn := hN.out
          have hi3 : (0 : Int) ≤ (ni : Int) := by omega
          have hi4 : (ni : Int) < (gn : Int) := by omega
          have P0 := hide p0
          have P1 := hide p1
          have Q0 := hide q0
          have Q1 := hide q1
          have Q2 := hide q2
          have Q3 := hide q3
          clear hne hr1 hkd hx hg hpl hpo hiN hneN hr2 hki hy hnn p0 p1 q0 q1 q2 q3
          go_wp2_with fail
          have HGG : ∀ wa wb, Grow wk wa → Grow wa wb → Grow wk wb := fun _ _ h q => Grow.trans' h q
          have HBG : ∀ wa wb, Grow wa wb → True → True := fun _ _ _ h => h
          have HG0 : ∀ w', Grow wk w' → w'.heap = wk.heap → Grow wk w' := fun _ h _ => h
          have HB0 : ∀ w', Grow wk w' → w'.heap = wk.heap → True := fun _ _ _ => trivial
          let FF : Nat → Value → World → Prop := fun i vF wF => match i with | 0 => vF = .pointer (some ⟨P, 0, none⟩) | 1 => vF = .slice (some ⟨bN, oN, none⟩) gn gc | 2 => vF = .slice (some ⟨b, o, none⟩) m c | 3 => vF = .int .i64 (k : Int) | 4 => vF = .pointer (some ⟨b, o + k * 2, none⟩) | 5 => vF = .pointer (some ⟨b, o + k * 2, none⟩) | 6 => vF = .int .i64 (ni : Int) | 7 => vF = .pointer (some ⟨bN, oN + ni * 4, none⟩) | 8 => vF = .agg #[.int .i64 yk, .int .i64 ya, .int .i64 yb, .int .i64 yd] | 9 => NewN wk.heap.size vF wF | _ => True
          let GG : World → Prop := fun w' => Grow wk w'
          let BB : World → Prop := fun w' => True
          have hstab : ∀ k v w1 w2, Grow w1 w2 → FF k v w1 → FF k v w2 := by
            intro k v w1 w2 hg h
            match k with
            | 0 => exact h
            | 1 => exact h
            | 2 => exact h
            | 3 => exact h
            | 4 => exact h
            | 5 => exact h
            | 6 => exact h
            | 7 => exact h
            | 8 => exact h
            | 9 => exact NewN.later hg h
            | k + 10 => exact trivial
          have hGg : ∀ w1 w2, GG w1 → Grow w1 w2 → GG w2 := HGG
          have hBg : ∀ w1 w2, Grow w1 w2 → BB w1 → BB w2 := HBG
          refine wp_region_endG FF GG BB (fun _ => none) 999 10 _ rfl rfl rfl (by kernel_rfl) (by kernel_rfl) HG0 HB0 ?_ ?_
          · refine ⟨?_, ?_, ?_, ?_, ?_, ?_, ?_, ?_, ?_, ?_, trivial⟩
            · refine stepG_run hGg hBg hstab rfl ?_
              intro a' w' hg hs hd hb
              have e1 : a'.eval (.tmp 1) = .pointer (some ⟨P, 0, none⟩) := hs.rest 1 rfl
              have ec : ∀ v, a'.eval (.const v) = v := fun _ => rfl
              have ef : ∀ g, a'.eval (.func g) = .func (.func g) #[] #[] := fun _ => rfl
              clear hd hs
              refine wpv (v := .pointer (some ⟨P, 0, none⟩)) ?_ ⟨_, rfl, Grow.rfl' _, rfl⟩
              (generalize a'.eval = ev at ec ef e1 ⊢; simp [execOp, go_sem, *])
            · refine stepG_run hGg hBg hstab rfl ?_
              intro a' w' hg hs hd hb
              have e38 : a'.eval (.tmp 38) = .pointer (some ⟨P, 0, none⟩) := hd ⟨0, Ground.data⟩ (by simp) rfl rfl
              have ec : ∀ v, a'.eval (.const v) = v := fun _ => rfl
              have ef : ∀ g, a'.eval (.func g) = .func (.func g) #[] #[] := fun _ => rfl
              obtain ⟨k0, k1⟩ := KG.out.later (Grow.trans' GA.out hg); dsimp only at k0 k1
              clear hd hs
              refine wpv (v := .slice (some ⟨bN, oN, none⟩) gn gc) ?_ ⟨_, rfl, Grow.rfl' _, rfl⟩
              (generalize a'.eval = ev at ec ef e38 ⊢; simp [execOp, go_sem, *])
            · refine stepG_run hGg hBg hstab rfl ?_
              intro a' w' hg hs hd hb
              have e3 : a'.eval (.tmp 3) = .slice (some ⟨b, o, none⟩) m c := hs.rest 3 rfl
              have ec : ∀ v, a'.eval (.const v) = v := fun _ => rfl
              have ef : ∀ g, a'.eval (.func g) = .func (.func g) #[] #[] := fun _ => rfl
              clear hd hs
              refine wpv (v := .slice (some ⟨b, o, none⟩) m c) ?_ ⟨_, rfl, Grow.rfl' _, rfl⟩
              (generalize a'.eval = ev at ec ef e3 ⊢; simp [execOp, go_sem, *])
            · refine stepG_run hGg hBg hstab rfl ?_
              intro a' w' hg hs hd hb
              have e5 : a'.eval (.tmp 5) = .int .i64 (k : Int) := hs.rest 5 rfl
              have ec : ∀ v, a'.eval (.const v) = v := fun _ => rfl
              have ef : ∀ g, a'.eval (.func g) = .func (.func g) #[] #[] := fun _ => rfl
              clear hd hs
              refine wpv (v := .int .i64 (k : Int)) ?_ ⟨_, rfl, Grow.rfl' _, rfl⟩
              (generalize a'.eval = ev at ec ef e5 ⊢; simp [execOp, go_sem, *])
            · refine stepG_run hGg hBg hstab rfl ?_
              intro a' w' hg hs hd hb
              have e40 : a'.eval (.tmp 40) = .slice (some ⟨b, o, none⟩) m c := hd ⟨2, Ground.data⟩ (by simp) rfl rfl
              have e41 : a'.eval (.tmp 41) = .int .i64 (k : Int) := hd ⟨3, Ground.data⟩ (by simp) rfl rfl
              have ec : ∀ v, a'.eval (.const v) = v := fun _ => rfl
              have ef : ∀ g, a'.eval (.func g) = .func (.func g) #[] #[] := fun _ => rfl
              clear hd hs
              refine wpv (v := .pointer (some ⟨b, o + k * 2, none⟩)) ?_ ⟨_, rfl, Grow.rfl' _, rfl⟩
              (generalize a'.eval = ev at ec ef e40 e41 ⊢; simp [execOp, go_sem, *])
            · refine stepG_run hGg hBg hstab rfl ?_
              intro a' w' hg hs hd hb
              have e42 : a'.eval (.tmp 42) = .pointer (some ⟨b, o + k * 2, none⟩) := hd ⟨4, Ground.data⟩ (by simp) rfl rfl
              have ec : ∀ v, a'.eval (.const v) = v := fun _ => rfl
              have ef : ∀ g, a'.eval (.func g) = .func (.func g) #[] #[] := fun _ => rfl
              clear hd hs
              refine wpv (v := .pointer (some ⟨b, o + k * 2, none⟩)) ?_ ⟨_, rfl, Grow.rfl' _, rfl⟩
              (generalize a'.eval = ev at ec ef e42 ⊢; simp [execOp, go_sem, *])
            · refine stepG_run hGg hBg hstab rfl ?_
              intro a' w' hg hs hd hb
              have e43 : a'.eval (.tmp 43) = .pointer (some ⟨b, o + k * 2, none⟩) := hd ⟨5, Ground.data⟩ (by simp) rfl rfl
              have ec : ∀ v, a'.eval (.const v) = v := fun _ => rfl
              have ef : ∀ g, a'.eval (.func g) = .func (.func g) #[] #[] := fun _ => rfl
              have p0 := cell_later hg P0.out
              clear hd hs
              refine wpv (v := .int .i64 (ni : Int)) ?_ ⟨_, rfl, Grow.rfl' _, rfl⟩
              (generalize a'.eval = ev at ec ef e43 ⊢; simp [execOp, go_sem, *])
            · refine stepG_run hGg hBg hstab rfl ?_
              intro a' w' hg hs hd hb
              have e39 : a'.eval (.tmp 39) = .slice (some ⟨bN, oN, none⟩) gn gc := hd ⟨1, Ground.data⟩ (by simp) rfl rfl
              have e44 : a'.eval (.tmp 44) = .int .i64 (ni : Int) := hd ⟨6, Ground.data⟩ (by simp) rfl rfl
              have ec : ∀ v, a'.eval (.const v) = v := fun _ => rfl
              have ef : ∀ g, a'.eval (.func g) = .func (.func g) #[] #[] := fun _ => rfl
              clear hd hs
              refine wpv (v := .pointer (some ⟨bN, oN + ni * 4, none⟩)) ?_ ⟨_, rfl, Grow.rfl' _, rfl⟩
              (generalize a'.eval = ev at ec ef e39 e44 ⊢; simp [execOp, go_sem, *])
            · refine stepG_run hGg hBg hstab rfl ?_
              intro a' w' hg hs hd hb
              have e45 : a'.eval (.tmp 45) = .pointer (some ⟨bN, oN + ni * 4, none⟩) := hd ⟨7, Ground.data⟩ (by simp) rfl rfl
              have ec : ∀ v, a'.eval (.const v) = v := fun _ => rfl
              have ef : ∀ g, a'.eval (.func g) = .func (.func g) #[] #[] := fun _ => rfl
              have q0 := cell_later hg Q0.out; have q1 := cell_later hg Q1.out; have q2 := cell_later hg Q2.out; have q3 := cell_later hg Q3.out
              clear hd hs
              refine wpv (v := .agg #[.int .i64 yk, .int .i64 ya, .int .i64 yb, .int .i64 yd]) ?_ ⟨_, rfl, Grow.rfl' _, rfl⟩
              (generalize a'.eval = ev at ec ef e45 ⊢; simp [execOp, go_sem, *])
            · refine stepG_run hGg hBg hstab rfl ?_
              intro a' w' hg hs hd hb
              have ec : ∀ v, a'.eval (.const v) = v := fun _ => rfl
              have ef : ∀ g, a'.eval (.func g) = .func (.func g) #[] #[] := fun _ => rfl
              clear hd hs
              refine wpv (v := .pointer (some ⟨w'.heap.size, 0, none⟩)) (w' := w'.alloc (.cells #[.int .i64 0, .int .i64 0, .int .i64 0, .int .i64 0] 63)) ?_ ⟨_, rfl, Grow.alloc' _ _, ⟨w'.heap.size, rfl, BlkN.new w', (show Grow wk w' from hg).size⟩⟩
              (generalize a'.eval = ev at ec ef ⊢; simp [execOp, go_sem, *])
          · intro a' w' hg hs hd
            obtain ⟨nb6, e6, hk6, hb6⟩ : NewN wk.heap.size (a'.eval (.tmp 6)) w' := hd 9 (by omega) rfl
            have e46 : a'.eval (.tmp 46) = .agg #[.int .i64 yk, .int .i64 ya, .int .i64 yb, .int .i64 yd] := hd 8 (by omega) rfl
            have ec : ∀ v, a'.eval (.const v) = v := fun _ => rfl
            have ef : ∀ g, a'.eval (.func g) = .func (.func g) #[] #[] := fun _ => rfl
            refine wp_store_nd _ _ rfl (t := ⟨yk, ya, yb, yd⟩) e6 e46 hk6 wk hg hb6 ?_
            intro w4 hg4 hb4
            have z6 : a'.tmps.getD 6 undef = .pointer (some ⟨nb6, 0, none⟩) := e6
            have p1 := cell_later hg4 P1.out
            have p0 := cell_later hg4 P0.out
            have G4 := hide (Grow.trans' HG2.out hg4)
            have GA4 := hide (Grow.trans' GA.out hg4)
            have KN4 := hide hb4
            clear e6 e46 hk6 hb6 ec ef hg HGG HBG HG0 HB0 hGg hBg hstab hg4 hb4 Q0 Q1 Q2 Q3
            rw [frame_eq hs [false, false, false, false, false, false, true, false, false, false, false, false, false, false, false, false, false, false, false, false, false, false, false, false, false, false, false, false, false, false, false, false, false, false, false, false, false, false, true, true, true, true, true, true, true, true, true, false, false, false, false, false, false, false, false, false, false, false, false, false, false, false, false, false, false, false, false, false, false, false, false, false, false, false, false, false, false, false] (by kernel_rfl)]; simp only [mergeL, z6]; clear hs hd z6; generalize a'.tmps = TT at *; try go_frame
            obtain ⟨n0, n1, n2, n3⟩ := KN4.out
            dsimp only at n0 n1 n2 n3
            by_cases hp : xp = -1
            · subst hp
              have HY : Hid (∀ h : k < D.length, routeOk N E (D[k]'h) = true) := hide (fun h => by rw [HX.out]; exact route_out)
              go_wp2_with fail
              go_roundw
              case rel =>
                refine ⟨k + 1, by omega, by go_num, G4.out, fun q h hq => ?_⟩
                by_cases hqj : q < k
                · exact HA.out q h hqj
                · have : q = k := by omega
                  subst this
                  exact HY.out h
              case measure => simp [intOf]; omega
            · have hpx : (xp == -1) = false := by simpa using hp
              have HP := hide hp
              by_cases hk6 : yk = 6 ∨ yk = 7
              · have hpo := HPO.out
                rw [port_in HP.out] at hpo
                have hlen := of_decide_eq_true hpo
                obtain ⟨jj, hjj⟩ := List.length_eq_one_iff.1 hlen
                have hjE : ∃ e ∈ E, e.f = jj := by
                  have : jj ∈ prevP E ⟨(ni : Int), xp⟩ := by rw [hjj]; simp
                  obtain ⟨e, he, hej⟩ := List.mem_map.1 this
                  exact ⟨e, (List.mem_filter.1 he).1, hej⟩
                obtain ⟨e, he, hej⟩ := hjE
                have hin := HIN.out e he
                obtain ⟨nj, rfl⟩ : ∃ nj : Nat, jj = nj := ⟨jj.toNat, by omega⟩
                have hjN : nj < N.length := by omega
                obtain ⟨m0, m1, m2, m3⟩ := (HR2.out.later GA4.out).at nj hjN
                rw [← nth_get N nj hjN] at m0 m1 m2 m3
                have hro : ∀ hk : (nth N ((ni : Nat) : Int).toNat).k = 6 ∨ (nth N ((ni : Nat) : Int).toNat).k = 7, routeOk N E ⟨(ni : Int), xp⟩ = decide ((nth N nj).k = 5) := fun hk => by
                  have := route_in (N := N) (E := E) (l := ⟨(ni : Int), xp⟩) (j := (nj : Int)) HP.out hk hjj
                  rw [this]
                  rfl
                obtain ⟨jk, hjk⟩ : ∃ jk, jk = (nth N nj).k := ⟨_, rfl⟩
                rw [← hjk] at m0 hro
                have HRO := hide hro
                have M0 := hide m0
                have P1' := hide p1
                have P0' := hide p0
                have HJJ := hide hjj
                have hnn := hN.out
                have hj5 : (0 : Int) ≤ (nj : Int) := by omega
                have hj6 : (nj : Int) < (gn : Int) := by omega
                clear hpo hlen he hej hin hjN hjk hro m0 m1 m2 m3 hjj hnn
                rcases hk6 with rfl | rfl
                · go_wp2_with fail
                  clear n0 n1 n2 n3 p0 p1 hpx hp
                  let FF : Nat → Value → World → Prop := fun i vF wF => match i with | 0 => vF = .agg #[.slice (some ⟨bN, oN, none⟩) gn gc, .slice gt gm gq] | 1 => vF = .slice (some ⟨b, o, none⟩) m c | 2 => vF = .int .i64 (k : Int) | 3 => vF = .pointer (some ⟨b, o + k * 2, none⟩) | 4 => vF = .agg #[.int .i64 (ni : Int), .int .i64 xp] | 5 => IsRowI [(nj : Int)] vF wF | 6 => IsRowI [(nj : Int)] vF wF | _ => True
                  have hstab : ∀ k v w1 w2, Grow w1 w2 → FF k v w1 → FF k v w2 := by
                    intro k v w1 w2 hg h
                    match k with
                    | 0 => exact h
                    | 1 => exact h
                    | 2 => exact h
                    | 3 => exact h
                    | 4 => exact h
                    | 5 => exact IsRowI.later hg h
                    | 6 => exact IsRowI.later hg h
                    | k + 7 => exact trivial
                  refine wp_region_invK FF (fun _ => none) (by kernel_rfl) (by kernel_rfl) ?_ ?_
                  · refine ⟨?_, ?_, ?_, ?_, ?_, ?_, ?_, trivial⟩
                    · refine stepK_run hstab trivial (by intro j b h; cases h) ?_
                      intro a' w' hg hs hd
                      have e1 : a'.eval (.tmp 1) = .pointer (some ⟨P, 0, none⟩) := hs.rest 1 rfl
                      have ec : ∀ v, a'.eval (.const v) = v := fun _ => rfl
                      have ef : ∀ g, a'.eval (.func g) = .func (.func g) #[] #[] := fun _ => rfl
                      clear hd hs
                      obtain ⟨k0, k1⟩ := KG.out.later (Grow.trans' GA4.out hg); dsimp only at k0 k1
                      refine wpv (v := .agg #[.slice (some ⟨bN, oN, none⟩) gn gc, .slice gt gm gq]) ?_ ⟨_, rfl, Grow.rfl' _, rfl⟩
                      (generalize a'.eval = ev at ec ef e1 ⊢; simp [execOp, go_sem, *])
                    · refine stepK_run hstab trivial (by intro j b h; cases h) ?_
                      intro a' w' hg hs hd
                      have e3 : a'.eval (.tmp 3) = .slice (some ⟨b, o, none⟩) m c := hs.rest 3 rfl
                      have ec : ∀ v, a'.eval (.const v) = v := fun _ => rfl
                      have ef : ∀ g, a'.eval (.func g) = .func (.func g) #[] #[] := fun _ => rfl
                      clear hd hs
                      refine wpv (v := .slice (some ⟨b, o, none⟩) m c) ?_ ⟨_, rfl, Grow.rfl' _, rfl⟩
                      (generalize a'.eval = ev at ec ef e3 ⊢; simp [execOp, go_sem, *])
                    · refine stepK_run hstab trivial (by intro j b h; cases h) ?_
                      intro a' w' hg hs hd
                      have e5 : a'.eval (.tmp 5) = .int .i64 (k : Int) := hs.rest 5 rfl
                      have ec : ∀ v, a'.eval (.const v) = v := fun _ => rfl
                      have ef : ∀ g, a'.eval (.func g) = .func (.func g) #[] #[] := fun _ => rfl
                      clear hd hs
                      refine wpv (v := .int .i64 (k : Int)) ?_ ⟨_, rfl, Grow.rfl' _, rfl⟩
                      (generalize a'.eval = ev at ec ef e5 ⊢; simp [execOp, go_sem, *])
                    · refine stepK_run hstab trivial (by intro j b h; cases h) ?_
                      intro a' w' hg hs hd
                      have e64 : a'.eval (.tmp 64) = .slice (some ⟨b, o, none⟩) m c := hd ⟨1, Ground.data⟩ (by simp) rfl rfl
                      have e65 : a'.eval (.tmp 65) = .int .i64 (k : Int) := hd ⟨2, Ground.data⟩ (by simp) rfl rfl
                      have ec : ∀ v, a'.eval (.const v) = v := fun _ => rfl
                      have ef : ∀ g, a'.eval (.func g) = .func (.func g) #[] #[] := fun _ => rfl
                      clear hd hs
                      refine wpv (v := .pointer (some ⟨b, o + k * 2, none⟩)) ?_ ⟨_, rfl, Grow.rfl' _, rfl⟩
                      (generalize a'.eval = ev at ec ef e64 e65 ⊢; simp [execOp, go_sem, *])
                    · refine stepK_run hstab trivial (by intro j b h; cases h) ?_
                      intro a' w' hg hs hd
                      have e66 : a'.eval (.tmp 66) = .pointer (some ⟨b, o + k * 2, none⟩) := hd ⟨3, Ground.data⟩ (by simp) rfl rfl
                      have ec : ∀ v, a'.eval (.const v) = v := fun _ => rfl
                      have ef : ∀ g, a'.eval (.func g) = .func (.func g) #[] #[] := fun _ => rfl
                      clear hd hs
                      have p1 := cell_later hg P1'.out; have p0 := cell_later hg P0'.out
                      refine wpv (v := .agg #[.int .i64 (ni : Int), .int .i64 xp]) ?_ ⟨_, rfl, Grow.rfl' _, rfl⟩
                      (generalize a'.eval = ev at ec ef e66 ⊢; simp [execOp, go_sem, *])
                    · refine stepK_run hstab trivial (by intro j b h; cases h) ?_
                      intro a' w' hg hs hd
                      have e63 : a'.eval (.tmp 63) = .agg #[.slice (some ⟨bN, oN, none⟩) gn gc, .slice gt gm gq] := hd ⟨0, Ground.data⟩ (by simp) rfl rfl
                      have e67 : a'.eval (.tmp 67) = .agg #[.int .i64 (ni : Int), .int .i64 xp] := hd ⟨4, Ground.data⟩ (by simp) rfl rfl
                      have ec : ∀ v, a'.eval (.const v) = v := fun _ => rfl
                      have ef : ∀ g, a'.eval (.func g) = .func (.func g) #[] #[] := fun _ => rfl
                      clear hd hs
                      refine wpc ?_ (Calls.mono (rowI_of (args := [_, _]) (by rw [← HJJ.out]; exact rprev_raw (some ⟨bN, oN, none⟩) gn gc gt gm gq E (ni : Int) xp w' hm3 (HE.out.later (Grow.trans' GA4.out hg)))) fun e w2 ⟨v, he, hb, hv⟩ => ⟨v, he, _, rfl, hb, hv⟩)
                      (generalize a'.eval = ev at ec ef e63 e67 ⊢; simp [execOp, go_sem, *])
                    · refine stepK_run hstab trivial (by intro j b h; cases h) ?_
                      intro a' w' hg hs hd
                      have hq : IsRowI [(nj : Int)] (a'.eval (.tmp 68)) w' := hd ⟨5, Ground.data⟩ (by simp) rfl rfl
                      have ec : ∀ v, a'.eval (.const v) = v := fun _ => rfl
                      have ef : ∀ g, a'.eval (.func g) = .func (.func g) #[] #[] := fun _ => rfl
                      clear hd hs
                      refine wpv (v := a'.eval (.tmp 68)) ?_ ⟨_, rfl, Grow.rfl' _, hq⟩
                      simp [execOp, go_sem]
                  · intro a' w' hg hs hd
                    have G5 := hide (Grow.trans' G4.out hg)
                    have GA5 := hide (Grow.trans' GA4.out hg)
                    have m0 := cell_later hg M0.out
                    obtain ⟨k0, k1⟩ := KG.out.later GA5.out
                    dsimp only at k0 k1
                    obtain ⟨sl, nl, cl, e7, h7⟩ : IsRowI [(nj : Int)] (a'.tmps.getD 7 undef) w' := hd 6 (by simp) (by intro k h; cases h)
                    obtain ⟨bL, oL, rfl, hrL⟩ := h7.2.2.resolve_left (by simp)
                    have c0 := hrL.at 0 (by simp)
                    have hnl : nl = 1 := h7.1.symm
                    subst hnl
                    simp only [List.getElem_cons_zero, Nat.add_zero] at c0
                    clear G4 GA4 P0' P1' hg h7 hrL
                    have fz63 : a'.tmps.getD 63 undef = .agg #[.slice (some ⟨bN, oN, none⟩) gn gc, .slice gt gm gq] := hd 0 (by simp) (by intro k h; cases h); have fz64 : a'.tmps.getD 64 undef = .slice (some ⟨b, o, none⟩) m c := hd 1 (by simp) (by intro k h; cases h); have fz65 : a'.tmps.getD 65 undef = .int .i64 (k : Int) := hd 2 (by simp) (by intro k h; cases h); have fz66 : a'.tmps.getD 66 undef = .pointer (some ⟨b, o + k * 2, none⟩) := hd 3 (by simp) (by intro k h; cases h); have fz67 : a'.tmps.getD 67 undef = .agg #[.int .i64 (ni : Int), .int .i64 xp] := hd 4 (by simp) (by intro k h; cases h); rw [frame_eq hs [false, false, false, false, false, false, false, true, false, false, false, false, false, false, false, false, false, false, false, false, false, false, false, false, false, false, false, false, false, false, false, false, false, false, false, false, false, false, false, false, false, false, false, false, false, false, false, false, false, false, false, false, false, false, false, false, false, false, false, false, false, false, false, true, true, true, true, true, true, false, false, false, false, false, false, false, false, false] (by kernel_rfl)]; simp only [mergeL, e7, fz63, fz64, fz65, fz66, fz67]; clear hs hd hstab fz63 fz64 fz65 fz66 fz67; generalize a'.tmps = TT at *
                    clear e7
                    generalize w' = w5 at *
                    go_wp2_with fail
                    go_quiet (fail)
                    have G6 := hide (Grow.trans' G5.out (below_drewN (Below.refl _ _) nq))
                    clear c0 m0 k0 k1 G5 GA5
                    generalize w5.drewN nq = w6 at *
                    cases hq : (jk == 5)
                    · have HT : Hid (r = 15) := hide (by
                        rw [← HR.out]
                        unfold errPo
                        rw [← HDD.out, if_neg (fun h => h HALL.out), if_pos (not_all HKD.out (by rw [HX.out, HRO.out (by rw [HKI.out]; simp)]; exact hq))])
                      go_wp2_with fail
                      go_ret
                      exact ⟨ret_int HT.out.symm, Grow.trans' GRT.out (Grow.trans' GGi.out G6.out)⟩
                    · have HY : Hid (∀ h : k < D.length, routeOk N E (D[k]'h) = true) := hide (fun h => by rw [HX.out, HRO.out (by rw [HKI.out]; simp)]; exact hq)
                      go_wp2_with fail
                      go_roundw
                      case rel =>
                        refine ⟨k + 1, by omega, by go_num, G6.out, fun q h hq => ?_⟩
                        by_cases hqj : q < k
                        · exact HA.out q h hqj
                        · have : q = k := by omega
                          subst this
                          exact HY.out h
                      case measure => simp [intOf]; omega
                · go_wp2_with fail
                  clear n0 n1 n2 n3 p0 p1 hpx hp
                  let FF : Nat → Value → World → Prop := fun i vF wF => match i with | 0 => vF = .agg #[.slice (some ⟨bN, oN, none⟩) gn gc, .slice gt gm gq] | 1 => vF = .slice (some ⟨b, o, none⟩) m c | 2 => vF = .int .i64 (k : Int) | 3 => vF = .pointer (some ⟨b, o + k * 2, none⟩) | 4 => vF = .agg #[.int .i64 (ni : Int), .int .i64 xp] | 5 => IsRowI [(nj : Int)] vF wF | 6 => IsRowI [(nj : Int)] vF wF | _ => True
                  have hstab : ∀ k v w1 w2, Grow w1 w2 → FF k v w1 → FF k v w2 := by
                    intro k v w1 w2 hg h
                    match k with
                    | 0 => exact h
                    | 1 => exact h
                    | 2 => exact h
                    | 3 => exact h
                    | 4 => exact h
                    | 5 => exact IsRowI.later hg h
                    | 6 => exact IsRowI.later hg h
                    | k + 7 => exact trivial
                  refine wp_region_invK FF (fun _ => none) (by kernel_rfl) (by kernel_rfl) ?_ ?_
                  · refine ⟨?_, ?_, ?_, ?_, ?_, ?_, ?_, trivial⟩
                    · refine stepK_run hstab trivial (by intro j b h; cases h) ?_
                      intro a' w' hg hs hd
                      have e1 : a'.eval (.tmp 1) = .pointer (some ⟨P, 0, none⟩) := hs.rest 1 rfl
                      have ec : ∀ v, a'.eval (.const v) = v := fun _ => rfl
                      have ef : ∀ g, a'.eval (.func g) = .func (.func g) #[] #[] := fun _ => rfl
                      clear hd hs
                      obtain ⟨k0, k1⟩ := KG.out.later (Grow.trans' GA4.out hg); dsimp only at k0 k1
                      refine wpv (v := .agg #[.slice (some ⟨bN, oN, none⟩) gn gc, .slice gt gm gq]) ?_ ⟨_, rfl, Grow.rfl' _, rfl⟩
                      (generalize a'.eval = ev at ec ef e1 ⊢; simp [execOp, go_sem, *])
                    · refine stepK_run hstab trivial (by intro j b h; cases h) ?_
                      intro a' w' hg hs hd
                      have e3 : a'.eval (.tmp 3) = .slice (some ⟨b, o, none⟩) m c := hs.rest 3 rfl
                      have ec : ∀ v, a'.eval (.const v) = v := fun _ => rfl
                      have ef : ∀ g, a'.eval (.func g) = .func (.func g) #[] #[] := fun _ => rfl
                      clear hd hs
                      refine wpv (v := .slice (some ⟨b, o, none⟩) m c) ?_ ⟨_, rfl, Grow.rfl' _, rfl⟩
                      (generalize a'.eval = ev at ec ef e3 ⊢; simp [execOp, go_sem, *])
                    · refine stepK_run hstab trivial (by intro j b h; cases h) ?_
                      intro a' w' hg hs hd
                      have e5 : a'.eval (.tmp 5) = .int .i64 (k : Int) := hs.rest 5 rfl
                      have ec : ∀ v, a'.eval (.const v) = v := fun _ => rfl
                      have ef : ∀ g, a'.eval (.func g) = .func (.func g) #[] #[] := fun _ => rfl
                      clear hd hs
                      refine wpv (v := .int .i64 (k : Int)) ?_ ⟨_, rfl, Grow.rfl' _, rfl⟩
                      (generalize a'.eval = ev at ec ef e5 ⊢; simp [execOp, go_sem, *])
                    · refine stepK_run hstab trivial (by intro j b h; cases h) ?_
                      intro a' w' hg hs hd
                      have e64 : a'.eval (.tmp 64) = .slice (some ⟨b, o, none⟩) m c := hd ⟨1, Ground.data⟩ (by simp) rfl rfl
                      have e65 : a'.eval (.tmp 65) = .int .i64 (k : Int) := hd ⟨2, Ground.data⟩ (by simp) rfl rfl
                      have ec : ∀ v, a'.eval (.const v) = v := fun _ => rfl
                      have ef : ∀ g, a'.eval (.func g) = .func (.func g) #[] #[] := fun _ => rfl
                      clear hd hs
                      refine wpv (v := .pointer (some ⟨b, o + k * 2, none⟩)) ?_ ⟨_, rfl, Grow.rfl' _, rfl⟩
                      (generalize a'.eval = ev at ec ef e64 e65 ⊢; simp [execOp, go_sem, *])
                    · refine stepK_run hstab trivial (by intro j b h; cases h) ?_
                      intro a' w' hg hs hd
                      have e66 : a'.eval (.tmp 66) = .pointer (some ⟨b, o + k * 2, none⟩) := hd ⟨3, Ground.data⟩ (by simp) rfl rfl
                      have ec : ∀ v, a'.eval (.const v) = v := fun _ => rfl
                      have ef : ∀ g, a'.eval (.func g) = .func (.func g) #[] #[] := fun _ => rfl
                      clear hd hs
                      have p1 := cell_later hg P1'.out; have p0 := cell_later hg P0'.out
                      refine wpv (v := .agg #[.int .i64 (ni : Int), .int .i64 xp]) ?_ ⟨_, rfl, Grow.rfl' _, rfl⟩
                      (generalize a'.eval = ev at ec ef e66 ⊢; simp [execOp, go_sem, *])
                    · refine stepK_run hstab trivial (by intro j b h; cases h) ?_
                      intro a' w' hg hs hd
                      have e63 : a'.eval (.tmp 63) = .agg #[.slice (some ⟨bN, oN, none⟩) gn gc, .slice gt gm gq] := hd ⟨0, Ground.data⟩ (by simp) rfl rfl
                      have e67 : a'.eval (.tmp 67) = .agg #[.int .i64 (ni : Int), .int .i64 xp] := hd ⟨4, Ground.data⟩ (by simp) rfl rfl
                      have ec : ∀ v, a'.eval (.const v) = v := fun _ => rfl
                      have ef : ∀ g, a'.eval (.func g) = .func (.func g) #[] #[] := fun _ => rfl
                      clear hd hs
                      refine wpc ?_ (Calls.mono (rowI_of (args := [_, _]) (by rw [← HJJ.out]; exact rprev_raw (some ⟨bN, oN, none⟩) gn gc gt gm gq E (ni : Int) xp w' hm3 (HE.out.later (Grow.trans' GA4.out hg)))) fun e w2 ⟨v, he, hb, hv⟩ => ⟨v, he, _, rfl, hb, hv⟩)
                      (generalize a'.eval = ev at ec ef e63 e67 ⊢; simp [execOp, go_sem, *])
                    · refine stepK_run hstab trivial (by intro j b h; cases h) ?_
                      intro a' w' hg hs hd
                      have hq : IsRowI [(nj : Int)] (a'.eval (.tmp 68)) w' := hd ⟨5, Ground.data⟩ (by simp) rfl rfl
                      have ec : ∀ v, a'.eval (.const v) = v := fun _ => rfl
                      have ef : ∀ g, a'.eval (.func g) = .func (.func g) #[] #[] := fun _ => rfl
                      clear hd hs
                      refine wpv (v := a'.eval (.tmp 68)) ?_ ⟨_, rfl, Grow.rfl' _, hq⟩
                      simp [execOp, go_sem]
                  · intro a' w' hg hs hd
                    have G5 := hide (Grow.trans' G4.out hg)
                    have GA5 := hide (Grow.trans' GA4.out hg)
                    have m0 := cell_later hg M0.out
                    obtain ⟨k0, k1⟩ := KG.out.later GA5.out
                    dsimp only at k0 k1
                    obtain ⟨sl, nl, cl, e7, h7⟩ : IsRowI [(nj : Int)] (a'.tmps.getD 7 undef) w' := hd 6 (by simp) (by intro k h; cases h)
                    obtain ⟨bL, oL, rfl, hrL⟩ := h7.2.2.resolve_left (by simp)
                    have c0 := hrL.at 0 (by simp)
                    have hnl : nl = 1 := h7.1.symm
                    subst hnl
                    simp only [List.getElem_cons_zero, Nat.add_zero] at c0
                    clear G4 GA4 P0' P1' hg h7 hrL
                    have fz63 : a'.tmps.getD 63 undef = .agg #[.slice (some ⟨bN, oN, none⟩) gn gc, .slice gt gm gq] := hd 0 (by simp) (by intro k h; cases h); have fz64 : a'.tmps.getD 64 undef = .slice (some ⟨b, o, none⟩) m c := hd 1 (by simp) (by intro k h; cases h); have fz65 : a'.tmps.getD 65 undef = .int .i64 (k : Int) := hd 2 (by simp) (by intro k h; cases h); have fz66 : a'.tmps.getD 66 undef = .pointer (some ⟨b, o + k * 2, none⟩) := hd 3 (by simp) (by intro k h; cases h); have fz67 : a'.tmps.getD 67 undef = .agg #[.int .i64 (ni : Int), .int .i64 xp] := hd 4 (by simp) (by intro k h; cases h); rw [frame_eq hs [false, false, false, false, false, false, false, true, false, false, false, false, false, false, false, false, false, false, false, false, false, false, false, false, false, false, false, false, false, false, false, false, false, false, false, false, false, false, false, false, false, false, false, false, false, false, false, false, false, false, false, false, false, false, false, false, false, false, false, false, false, false, false, true, true, true, true, true, true, false, false, false, false, false, false, false, false, false] (by kernel_rfl)]; simp only [mergeL, e7, fz63, fz64, fz65, fz66, fz67]; clear hs hd hstab fz63 fz64 fz65 fz66 fz67; generalize a'.tmps = TT at *
                    clear e7
                    generalize w' = w5 at *
                    go_wp2_with fail
                    go_quiet (fail)
                    have G6 := hide (Grow.trans' G5.out (below_drewN (Below.refl _ _) nq))
                    clear c0 m0 k0 k1 G5 GA5
                    generalize w5.drewN nq = w6 at *
                    cases hq : (jk == 5)
                    · have HT : Hid (r = 15) := hide (by
                        rw [← HR.out]
                        unfold errPo
                        rw [← HDD.out, if_neg (fun h => h HALL.out), if_pos (not_all HKD.out (by rw [HX.out, HRO.out (by rw [HKI.out]; simp)]; exact hq))])
                      go_wp2_with fail
                      go_ret
                      exact ⟨ret_int HT.out.symm, Grow.trans' GRT.out (Grow.trans' GGi.out G6.out)⟩
                    · have HY : Hid (∀ h : k < D.length, routeOk N E (D[k]'h) = true) := hide (fun h => by rw [HX.out, HRO.out (by rw [HKI.out]; simp)]; exact hq)
                      go_wp2_with fail
                      go_roundw
                      case rel =>
                        refine ⟨k + 1, by omega, by go_num, G6.out, fun q h hq => ?_⟩
                        by_cases hqj : q < k
                        · exact HA.out q h hqj
                        · have : q = k := by omega
                          subst this
                          exact HY.out h
                      case measure => simp [intOf]; omega
              · have HY : Hid (∀ h : k < D.length, routeOk N E (D[k]'h) = true) := hide (fun h => by
                  rw [HX.out]
                  exact route_no (by rw [HKI.out]; omega) (by rw [HKI.out]; omega))
                have hk6' : ¬ yk = 6 := by omega
                have hk7' : ¬ yk = 7 := by omega
                have hb6 : (yk != 6) = true := by simpa using hk6'
                have hb7 : (yk != 7) = true := by simpa using hk7'
                clear hk6
                go_wp2_with fail
                go_roundw
                case rel =>
                  refine ⟨k + 1, by omega, by go_num, G4.out, fun q h hq => ?_⟩
                  by_cases hqj : q < k
                  · exact HA.out q h hqj
                  · have : q = k := by omega
                    subst this
                    exact HY.out h
                case measure => simp [intOf]; omega
        · have hj3 : ¬ (k : Int) < (m : Int) := by omega
          have HT : Hid (r = 0) := hide (by
            rw [← HR.out]
            unfold errPo
            rw [← HDD.out, if_neg (fun h => h HALL.out), if_neg (fun h => h (all_upto fun q hq => HA.out q hq (by rw [HDi.out.1] at hq; omega)))])
          clear hg
          go_wp2_with fail
          go_ret
          exact ⟨ret_int HT.out.symm, Grow.trans' GRT.out (Grow.trans' GGi.out HG2.out)⟩

end Go.Proofs.YtehianjfpmbfpaaGreat
end
