/-
  What the document's own edges does to the world: of every graph it tells what is wrong with its edges; what was there stays as it was.
-/
import Derived.Test.YtehianjfpmbfpaaGreatVSm
import Derived.Test.YtehianjfpmbfpaaGreatVPl
import Derived.Test.YtehianjfpmbfpaaGreatHIs
import Derived.Test.YtehianjfpmbfpaaGreatHNx
namespace Go.Proofs.YtehianjfpmbfpaaGreat
set_option maxRecDepth 100000
open Go.RowKit Go.Sort
set_option linter.unusedVariables false
set_option linter.unusedSimpArgs false

/-- What is wrong with edges. -/
def errEd (N : List Nd) (E : List Ed) : Int := if ¬ E.all (edgeB N) = true then 11 else if ¬ E.all (depE N) = true then 12 else 0
theorem all_upto {α : Type} {p : α → Bool} {d : List α} (h : ∀ j (hj : j < d.length), p d[j] = true) : d.all p = true := List.all_eq_true.2 fun x hx => by
  obtain ⟨j, hj, e⟩ := List.getElem_of_mem hx
  rw [← e]
  exact h j hj
theorem not_all {α : Type} {p : α → Bool} {d : List α} {j : Nat} (hj : j < d.length) (h : p d[j] = false) : ¬ d.all p = true := fun hc => by
  have := List.all_eq_true.1 hc d[j] (List.getElem_mem hj)
  rw [h] at this
  cases this
theorem edge_un1 {N : List Nd} {x : Ed} (h : isP N ⟨x.f, -1⟩ = false) : edgeB N x = false := by unfold edgeB; rw [h]; rfl
theorem edge_un2 {N : List Nd} {x : Ed} (h : isP N ⟨x.t, x.p⟩ = false) : edgeB N x = false := by unfold edgeB; rw [h]; simp
theorem edge_un3 {N : List Nd} {x : Ed} (h : x.p = -1) : edgeB N x = false := by unfold edgeB; simp [h]
theorem edge_yes {N : List Nd} {x : Ed} (h1 : isP N ⟨x.f, -1⟩ = true) (h2 : isP N ⟨x.t, x.p⟩ = true) (h : ¬ x.p = -1) : edgeB N x = true := by unfold edgeB; simp [h1, h2, h]
set_option maxHeartbeats 16000000 in
theorem redges_raw (gs : Option Addr) (gn gc : Nat) (gt : Option Addr) (gm gq : Nat) (N : List Nd) (E : List Ed) (w : World) (hn : gn ≤ 20) (hm : gm ≤ 40) (hg : IsNds w gs gn gc N) (he : IsEds w gt gm gq E) {r : Int} (hr : errEd N E = r) :
    Calls Tryz.prog 52 #[.agg #[.slice gs gn gc, .slice gt gm gq]] w fun e w' => e = .returned (.int .i64 r) ∧ Grow w w' := by
  have HR := hide hr
  have HNn := hide hn
  have hN : Hid (N.length = gn) := hide hg.1
  have GG : Hid (Grow w (w.alloc (.cells #[.slice gs gn gc, .slice gt gm gq] 25))) := hide (Grow.alloc' _ _)
  have KG : Hid (BoxG (w.alloc (.cells #[.slice gs gn gc, .slice gt gm gq] 25)) w.heap.size ⟨gs, gn, gc, gt, gm, gq, [], []⟩) := hide (BoxG.new w ⟨gs, gn, gc, gt, gm, gq, [], []⟩)
  have HN := hide (hg.later GG.out)
  have HE := hide (he.later GG.out)
  clear hg he hr hn
  go_enter Tryz.func52, Tryz.ntmps52
  go_wp2_with fail
  generalize (w.alloc (.cells #[.slice gs gn gc, .slice gt gm gq] 25)) = w0 at *
  generalize w.heap.size = P at *
  go_loopw [3] (fun i wr => ∃ j : Nat, j ≤ gm ∧ i = .int .i64 (j : Int) ∧ Grow w0 wr ∧ ∀ q (h : q < E.length), q < j → edgeB N E[q] = true) (fun i _ => gm - (intOf i).toNat)
  case atStart => exact ⟨0, Nat.zero_le _, rfl, Grow.rfl' _, fun q _ h => by omega⟩
  case round =>
    obtain ⟨j, hj, rfl, hg, hall⟩ := hrel
    generalize wr = wi at *
    have HG2 := hide hg
    have HA := hide hall
    obtain ⟨k0, k1⟩ := KG.out.later hg
    dsimp only at k0 k1
    clear hall
    by_cases hjt : j < gm
    · have hkd : j < E.length := by rw [HE.out.1]; exact hjt
      have hne : ¬ E = [] := fun h => by rw [h] at hkd; simp at hkd
      obtain ⟨bE, oE, rfl, hr1⟩ := HE.out.2.2.resolve_left hne
      obtain ⟨p0, p1, p2⟩ := (hr1.later hg).at j hkd
      obtain ⟨x, hx⟩ : ∃ x, x = E[j] := ⟨_, rfl⟩
      rw [← hx] at p0 p1 p2
      have HX : Hid (∀ h : j < E.length, E[j]'h = x) := hide (fun h => hx.symm)
      have HKD := hide hkd
      obtain ⟨xf, xt, xp⟩ := x
      dsimp only at p0 p1 p2
      have hj1 : (0 : Int) ≤ (j : Int) := by omega
      have hj2 : (j : Int) < (gm : Int) := by omega
      obtain ⟨a, ha⟩ : ∃ a, isP N ⟨xf, -1⟩ = a := ⟨_, rfl⟩
      obtain ⟨b, hb⟩ : ∃ b, isP N ⟨xt, xp⟩ = b := ⟨_, rfl⟩
      have C1 := hide (fun w' (h : Grow w0 w') => ris_raw gs gn gc (some ⟨bE, oE, none⟩) gm gq N xf (-1) w' HNn.out (HN.out.later h))
      have C2 := hide (fun w' (h : Grow w0 w') => ris_raw gs gn gc (some ⟨bE, oE, none⟩) gm gq N xt xp w' HNn.out (HN.out.later h))
      rw [ha] at C1
      rw [hb] at C2
      have HAa := hide ha
      have HBb := hide hb
      have K0 := hide (KG.out.later hg)
      clear hne hr1 hkd hx hg ha hb
      go_wp2_with (refine wpList_putE rfl _ _ rfl wi.heap.size ⟨xf, xt, xp⟩ rfl rfl ⟨_, (MapKept.heap_alloc wi _).1, rfl⟩ wi (Grow.alloc' _ _) (Nat.le_refl _) ?_)
      intro w4 hg4 hb4
      have G4 := hide (Grow.trans' HG2.out hg4)
      have KE4 := hide hb4
      obtain ⟨e0, e1, e2⟩ := hb4
      dsimp only at e0 e1 e2
      have K4 := hide (K0.out.later hg4)
      obtain ⟨h0, h1⟩ := K0.out.later hg4
      dsimp only at h0 h1
      generalize wi.heap.size = EB at *
      clear k0 k1 p0 p1 p2 hg4 K0
      go_wp2_with fail
      refine (C1.out _ G4.out).mono ?_
      rintro _ w5 ⟨rfl, hb⟩
      have G5 := hide (Grow.trans' G4.out hb)
      have KE5 := hide (KE4.out.later hb)
      have K5 := hide (K4.out.later hb)
      obtain ⟨e0', e1', e2'⟩ := KE4.out.later hb
      dsimp only at e0' e1' e2'
      obtain ⟨h0', h1'⟩ := K4.out.later hb
      dsimp only at h0' h1'
      clear hb e0 e1 e2 h0 h1 G4 KE4 K4
      go_wp2_with fail
      refine (C2.out _ G5.out).mono ?_
      rintro _ w6 ⟨rfl, hb⟩
      have G6 := hide (Grow.trans' G5.out hb)
      obtain ⟨e0, e1, e2⟩ := KE5.out.later hb
      dsimp only at e0 e1 e2
      obtain ⟨h0, h1⟩ := K5.out.later hb
      dsimp only at h0 h1
      clear hb e0' e1' e2' h0' h1' G5 KE5 K5
      cases a
      · have HT : Hid (r = 11) := hide (by rw [← HR.out]; unfold errEd; rw [if_pos (not_all HKD.out (by rw [HX.out]; exact edge_un1 HAa.out))])
        go_wp2_with fail
        go_ret
        exact ⟨ret_int HT.out.symm, Grow.trans' GG.out G6.out⟩
      · cases b
        · have HT : Hid (r = 11) := hide (by rw [← HR.out]; unfold errEd; rw [if_pos (not_all HKD.out (by rw [HX.out]; exact edge_un2 HBb.out))])
          go_wp2_with fail
          go_ret
          exact ⟨ret_int HT.out.symm, Grow.trans' GG.out G6.out⟩
        · by_cases hp : xp = -1
          · have HT : Hid (r = 11) := hide (by rw [← HR.out]; unfold errEd; rw [if_pos (not_all HKD.out (by rw [HX.out]; exact edge_un3 hp))])
            rw [hp] at e2
            clear hp
            go_wp2_with fail
            go_ret
            exact ⟨ret_int HT.out.symm, Grow.trans' GG.out G6.out⟩
          · have HY : Hid (∀ h : j < E.length, edgeB N (E[j]'h) = true) := hide (fun h => by rw [HX.out]; exact edge_yes HAa.out HBb.out hp)
            go_wp2_with fail
            go_roundw
            case rel =>
              refine ⟨j + 1, by omega, by go_num, G6.out, fun q h hq => ?_⟩
              by_cases hqj : q < j
              · exact HA.out q h hqj
              · have : q = j := by omega
                subst this
                exact HY.out h
            case measure => simp [intOf]; omega
    · have hj2 : ¬ (j : Int) < (gm : Int) := by omega
      have HALL : Hid (E.all (edgeB N) = true) := hide (all_upto fun q hq => HA.out q hq (by rw [HE.out.1] at hq; omega))
      have KGi := hide (KG.out.later hg)
      have HNi := hide (HN.out.later hg)
      have HEi := hide (HE.out.later hg)
      have GGi := hide (Grow.trans' GG.out hg)
      clear hg HA HG2 KG HN HE GG
      go_wp2_with fail
      clear k0 k1
      go_loopw [7] (fun i wr => ∃ j : Nat, j ≤ gm ∧ i = .int .i64 (j : Int) ∧ Grow wi wr ∧ ∀ q (h : q < E.length), q < j → depE N E[q] = true) (fun i _ => gm - (intOf i).toNat)
      case atStart => exact ⟨0, Nat.zero_le _, rfl, Grow.rfl' _, fun q _ h => by omega⟩
      case round =>
        obtain ⟨j2, hj3, rfl, hg, hall⟩ := hrel
        generalize wr = wk at *
        have HG2 := hide hg
        have HA := hide hall
        obtain ⟨k0, k1⟩ := KGi.out.later hg
        dsimp only at k0 k1
        clear hall
        by_cases hjt : j2 < gm
        · have hkd : j2 < E.length := by rw [HEi.out.1]; exact hjt
          have hne : ¬ E = [] := fun h => by rw [h] at hkd; simp at hkd
          obtain ⟨bE, oE, rfl, hr1⟩ := HEi.out.2.2.resolve_left hne
          obtain ⟨p0, p1, p2⟩ := (hr1.later hg).at j2 hkd
          obtain ⟨⟨f0, f1, -⟩, ⟨t0, t1, -⟩, -⟩ := edge_is (List.all_eq_true.1 HALL.out E[j2] (List.getElem_mem hkd))
          have hdp : depE N E[j2] = decide ((nth N E[j2].f.toNat).d = inDP (nth N E[j2].t.toNat)) := rfl
          obtain ⟨x, hx⟩ : ∃ x, x = E[j2] := ⟨_, rfl⟩
          rw [← hx] at p0 p1 p2 f0 f1 t0 t1 hdp
          have HX : Hid (∀ h : j2 < E.length, E[j2]'h = x) := hide (fun h => hx.symm)
          have HKD := hide hkd
          obtain ⟨xf, xt, xp⟩ := x
          dsimp only at p0 p1 p2 f0 f1 t0 t1 hdp
          obtain ⟨i, rfl⟩ : ∃ i : Nat, xf = i := ⟨xf.toNat, by omega⟩
          obtain ⟨t, rfl⟩ : ∃ t : Nat, xt = t := ⟨xt.toNat, by omega⟩
          have hiN : i < N.length := by omega
          have htN : t < N.length := by omega
          have hneN : ¬ N = [] := fun h => by rw [h] at hiN; simp at hiN
          obtain ⟨bN, oN, rfl, hr2⟩ := HNi.out.2.2.resolve_left hneN
          obtain ⟨m0, m1, m2, m3⟩ := (hr2.later hg).at i hiN
          obtain ⟨q0, q1, q2, q3⟩ := (hr2.later hg).at t htN
          rw [← nth_get N i hiN] at m0 m1 m2 m3
          rw [← nth_get N t htN] at q0 q1 q2 q3
          rw [show (i : Int).toNat = i by omega, show (t : Int).toNat = t by omega] at hdp
          have hti : i = t → (nth N i).d = (nth N t).d := fun h => by rw [h]
          obtain ⟨y, hy⟩ : ∃ y, y = nth N t := ⟨_, rfl⟩
          obtain ⟨yi, hyi⟩ : ∃ yi, yi = (nth N i).d := ⟨_, rfl⟩
          rw [← hy] at q0 q1 q2 q3 hdp
          rw [← hyi] at m3 hdp
          obtain ⟨z, hz⟩ : ∃ z, inDP y = z := ⟨_, rfl⟩
          rw [hz] at hdp
          obtain ⟨yk, ya, yb, yd⟩ := y
          dsimp only at q0 q1 q2 q3
          have C3 := hide (fun w => rinD_at yk ya yb yd hz w)
          have HDP := hide hdp
          have hj4 : (0 : Int) ≤ (j2 : Int) := by omega
          have hj5 : (j2 : Int) < (gm : Int) := by omega
          have hnn := hN.out
          have hi3 : (0 : Int) ≤ (i : Int) := by omega
          have hi4 : (i : Int) < (gn : Int) := by omega
          have ht3 : (0 : Int) ≤ (t : Int) := by omega
          have ht4 : (t : Int) < (gn : Int) := by omega
          have M3 := hide m3
          have Q0 := hide q0
          have Q1 := hide q1
          have Q2 := hide q2
          have Q3 := hide q3
          have KK := hide (KGi.out.later hg)
          clear hne hr1 hkd hx hg hneN hr2 hdp hz hy hyi hti m0 m1 m2 m3 q0 q1 q2 q3 f0 f1 t0 t1 hnn hiN htN
          go_wp2_with (refine wpList_putE rfl _ _ rfl wk.heap.size ⟨(i : Int), (t : Int), xp⟩ rfl rfl ⟨_, (MapKept.heap_alloc wk _).1, rfl⟩ wk (Grow.alloc' _ _) (Nat.le_refl _) ?_)
          intro w4 hg4 hb4
          have G4 := hide (Grow.trans' HG2.out hg4)
          obtain ⟨e0, e1, e2⟩ := hb4
          dsimp only at e0 e1 e2
          obtain ⟨h0, h1⟩ := KK.out.later hg4
          dsimp only at h0 h1
          have m3 := cell_later hg4 M3.out
          have q0 := cell_later hg4 Q0.out
          have q1 := cell_later hg4 Q1.out
          have q2 := cell_later hg4 Q2.out
          have q3 := cell_later hg4 Q3.out
          generalize wk.heap.size = EB at *
          clear k0 k1 p0 p1 p2 hg4 KK Q0 Q1 Q2 Q3 M3
          go_wp2_with fail
          have s0 := cell_regrown e0
          have s1 := cell_regrown e1
          have s2 := cell_regrown e2
          have s3 := cell_regrown h0
          have s4 := cell_regrown h1
          have s5 := cell_regrown m3
          have s6 := cell_regrown q0
          have s7 := cell_regrown q1
          have s8 := cell_regrown q2
          have s9 := cell_regrown q3
          have R1 := hide (fun dd os => Calls.regrown_of (C3.out (grow (redrawn w4 dd) os)))
          refine wp_region_quiet_below (by kernel_rfl) (by kernel_rfl) ?_
          repeat (go_big_quiet_step ((go_at_call 42; exact R1.out _ _)))
          refine wpQuiet_nil ?_
          intro _ hw'
          obtain ⟨⟨dq, osq⟩, hw''⟩ := hw'
          subst hw''
          have G5 := hide (Grow.trans' G4.out (below_regrown w4 dq osq))
          clear s0 s1 s2 s3 s4 s5 s6 s7 s8 s9 e0 e1 e2 h0 h1 m3 q0 q1 q2 q3 C3 R1 G4
          generalize grow (redrawn w4 dq) osq = w5 at *
          cases hq : (yi == z)
          · have HT : Hid (r = 12) := hide (by
              rw [← HR.out]
              unfold errEd
              rw [if_neg (fun h => h HALL.out), if_pos (not_all HKD.out (by rw [HX.out, HDP.out]; exact hq))])
            go_wp2_with fail
            go_ret
            exact ⟨ret_int HT.out.symm, Grow.trans' GGi.out G5.out⟩
          · have HY : Hid (∀ h : j2 < E.length, depE N (E[j2]'h) = true) := hide (fun h => by rw [HX.out, HDP.out]; exact hq)
            go_wp2_with fail
            go_roundw
            case rel =>
              refine ⟨j2 + 1, by omega, by go_num, G5.out, fun q h hq => ?_⟩
              by_cases hqj : q < j2
              · exact HA.out q h hqj
              · have : q = j2 := by omega
                subst this
                exact HY.out h
            case measure => simp [intOf]; omega
        · have hj5 : ¬ (j2 : Int) < (gm : Int) := by omega
          have HT : Hid (r = 0) := hide (by
            rw [← HR.out]
            unfold errEd
            rw [if_neg (fun h => h HALL.out), if_neg (fun h => h (all_upto fun q hq => HA.out q hq (by rw [HEi.out.1] at hq; omega)))])
          clear hg
          go_wp2_with fail
          go_ret
          exact ⟨ret_int HT.out.symm, Grow.trans' GGi.out HG2.out⟩

end Go.Proofs.YtehianjfpmbfpaaGreat
