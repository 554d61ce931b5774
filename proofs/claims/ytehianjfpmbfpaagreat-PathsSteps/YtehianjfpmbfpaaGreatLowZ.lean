/-
  What those and lowest do to the world: of every row those that may be, and its chain, in a row of the call's own; what was there stays as it was.
-/
import Derived.Test.YtehianjfpmbfpaaGreatCovZ
import Derived.Test.YtehianjfpmbfpaaGreatMy
import Derived.Test.YtehianjfpmbfpaaGreatSrtGZ
namespace Go.Proofs.YtehianjfpmbfpaaGreat
open Go.RowKit
set_option linter.unusedVariables false

theorem filter_take_succ {α : Type} (p : α → Bool) (d : List α) (k : Nat) (h : k < d.length) : (d.take (k + 1)).filter p = (d.take k).filter p ++ (if p d[k] = true then [d[k]] else []) := by
  rw [List.take_succ_eq_append_getElem h, List.filter_append]
  by_cases hp : p d[k] = true <;> simp [hp]

set_option maxHeartbeats 1000000 in
theorem thoseT_any (s : Option Addr) (n cap : Nat) (d : List Tm) (w : World) (hbig : n ≤ 100000000000) (hd : IsTms w s n cap d) :
    Calls Tryz.prog 90 #[.agg #[.func (.func 87) #[] #[], .func (.func 88) #[] #[], .func (.func 89) #[] #[]], .slice s n cap] w
      fun e w' => ∃ s' m cap', e = .returned (.slice s' m cap') ∧ Grow w w' ∧ OwnSV w' w.heap.size s' m cap' (d.filter kinT.may) := by
  have HB := hide (OBoxT.new w)
  have G0 := hide (Grow.alloc' w (.cells #[.func (.func 87) #[] #[], .func (.func 88) #[] #[], .func (.func 89) #[] #[]] 112))
  have HD := hide (hd.later G0.out)
  have HN := hide hd.1
  clear hd
  go_enter Tryz.func90, Tryz.ntmps90
  go_wp2_with fail
  have hz0 : (w.alloc (.cells #[.func (.func 87) #[] #[], .func (.func 88) #[] #[], .func (.func 89) #[] #[]] 112)).heap.size = w.heap.size + 1 := by simp
  generalize w.alloc (.cells #[.func (.func 87) #[] #[], .func (.func 88) #[] #[], .func (.func 89) #[] #[]] 112) = w0 at *
  have HZ := hide hz0
  clear hz0
  go_loopw [5, 10] (fun v i wr => ∃ (k : Nat) (s' : Option Addr) (m cap' : Nat), k ≤ n ∧ v = .slice s' m cap' ∧ i = .int .i64 k ∧ Grow w0 wr ∧ OwnSV wr w0.heap.size s' m cap' ((d.take k).filter kinT.may)) (fun _ i _ => n - (intOf i).toNat)
  case atStart => exact ⟨0, none, 0, 0, Nat.zero_le _, rfl, rfl, Grow.rfl' _, OwnSV.nil _ _⟩
  case round =>
    obtain ⟨k, s', m, cap', hk, rfl, rfl, hg, hO⟩ := hrel
    have HG := hide hg
    have HO := hide hO
    clear hO
    by_cases hlt : k < n
    · have hkd : k < d.length := by rw [HN.out]; exact hlt
      have hne : ¬ d = [] := fun h => by rw [h] at hkd; simp at hkd
      obtain ⟨b, o, rfl, hr1⟩ := HD.out.2.2.resolve_left hne
      obtain ⟨p0, p1, p2, p3, p4⟩ := (hr1.later hg).at k hkd
      obtain ⟨y, hy⟩ : ∃ y, y = d[k] := ⟨_, rfl⟩
      rw [← hy] at p0 p1 p2 p3 p4
      have hi1 : (0 : Int) ≤ (k : Int) := by omega
      have hi2 : (k : Int) < (n : Int) := by omega
      have HY := hide hy
      have HE := hide (filter_take_succ kinT.may d k hkd)
      have KB := hide (HB.out.later hg)
      have hBl : w.heap.size < wr.heap.size := KB.out.lt
      obtain ⟨o0, o1, o2⟩ := KB.out
      have hml : m ≤ n := by
        have h1 := HO.out.1
        have h2 := List.length_filter_le kinT.may (d.take k)
        rw [List.length_take] at h2
        omega
      clear hne hr1 hy hg
      go_wp2_with fail
      have KX : Hid (Box (wr.alloc (.cells #[.int .i64 y.e, .int .i64 y.d, .int .i64 y.x, .int .i64 y.y, .int .i64 y.z] 43)) wr.heap.size y) := hide (Box.new _ _)
      have G1 := hide (Grow.alloc' wr (.cells #[.int .i64 y.e, .int .i64 y.d, .int .i64 y.x, .int .i64 y.y, .int .i64 y.z] 43))
      generalize wr.alloc (.cells #[.int .i64 y.e, .int .i64 y.d, .int .i64 y.x, .int .i64 y.y, .int .i64 y.z] 43) = W1 at *
      refine (may_any y W1).mono ?_
      rintro e w1 ⟨rfl, hb⟩
      have G2 := hide (Grow.trans' (Grow.trans' HG.out G1.out) hb)
      have HO1 := hide ((HO.out.later G1.out).later hb)
      obtain ⟨x0, x1, x2, x3, x4⟩ := KX.out.later hb
      have hz1 : w0.heap.size ≤ w1.heap.size := G2.out.size
      clear hb G1 o0 o1 o2 HO KX p0 p1 p2 p3 p4
      cases hp : kinT.may y
      · have hp' : mayB y = false := hp
        rw [hp']
        go_wp2_with fail
        go_roundw
        case rel =>
          refine ⟨k + 1, s', m, cap', by omega, rfl, by go_num, G2.out, ?_⟩
          rw [HE.out, ← HY.out, hp]
          simpa using HO1.out
        case measure => simp [intOf]; omega
      · have hp' : mayB y = true := hp
        rw [hp']
        go_wp2_with (at_builtin; refine wpList_apv_tm rfl _ _ rfl w0.heap.size s' cap' ((d.take k).filter kinT.may) [y] m rfl (HO1.out.later (Grow.alloc' _ _)) w1.heap.size 0 1 1 rfl rfl (by omega) (RowT_one w1 y) ?hl ?hb ?_)
        case hl => rw [HO1.out.1]; omega
        case hb => simp; omega
        intro g' c' w2 O2 gb
        have G3 := hide (gb.grow (Grow.trans' G2.out (Grow.alloc' _ _)) (Nat.le_refl _))
        have HO2 := hide O2
        clear gb O2
        go_wp2_with fail
        go_roundw
        case rel =>
          refine ⟨k + 1, some ⟨g', 0, none⟩, m + 1, c', by omega, rfl, by go_num, G3.out, ?_⟩
          rw [HE.out, ← HY.out, hp]
          refine OwnSV.of (by simpa using HO2.out) ?_
          have := HO1.out.1
          simp [this]
        case measure => simp [intOf]; omega
    · have hkn : k = n := by omega
      subst hkn
      go_wp2_with fail
      go_ret
      refine ⟨s', m, cap', rfl, Grow.trans' G0.out HG.out, ?_⟩
      have h1 := HO.out
      rw [List.take_of_length_le (by rw [HN.out]; omega)] at h1
      exact h1.rebase (by rw [HZ.out]; omega)
set_option maxHeartbeats 1000000 in
theorem lowT_any (s : Option Addr) (n cap : Nat) (d : List Tm) (w : World) (hbig : n ≤ 100000000000) (hd : IsTms w s n cap d) :
    Calls Tryz.prog 68 #[.agg #[.func (.func 87) #[] #[], .func (.func 88) #[] #[], .func (.func 89) #[] #[]], .slice s n cap] w
      fun e w' => ∃ s' m cap', e = .returned (.slice s' m cap') ∧ Grow w w' ∧ OwnSV w' w.heap.size s' m cap' (chainO kinT d) := by
  have HB := hide (OBoxT.new w)
  have G0 := hide (Grow.alloc' w (.cells #[.func (.func 87) #[] #[], .func (.func 88) #[] #[], .func (.func 89) #[] #[]] 112))
  have HD := hide (hd.later G0.out)
  have HN := hide hd.1
  clear hd
  go_enter Tryz.func68, Tryz.ntmps68
  go_wp2_with fail
  generalize w.alloc (.cells #[.func (.func 87) #[] #[], .func (.func 88) #[] #[], .func (.func 89) #[] #[]] 112) = w0 at *
  refine (thoseT_any s n cap d w0 hbig HD.out).mono ?_
  rintro e w1 ⟨s1, m1, c1, rfl, hb, hO⟩
  have hm1 : m1 ≤ n := by
    have h1 := hO.1
    have h2 := List.length_filter_le kinT.may d
    have h3 := HN.out
    omega
  have HB1 := hide (HB.out.later hb)
  have hBl : w.heap.size < w1.heap.size := HB1.out.lt
  obtain ⟨o0, o1, o2⟩ := HB1.out
  have G1 := hide hb
  have CS := hide (sortT_any s1 m1 c1 w0.heap.size (d.filter kinT.may) w1 (by omega) hb.size hO)
  clear hb hO HD
  go_wp2_with fail
  refine (CS.out).mono ?_
  rintro e w2 ⟨rfl, hb, l', hperm, hsort, hI⟩
  have hl' : l'.length = m1 := hI.1
  have G2 : Hid (Grow w0 w2) := hide (G1.out.trans hb)
  have KB := hide (HB.out.later G2.out)
  have HI := hide hI
  have HC := hide (chainO_eq kinT (greedy_chain kinT hperm hsort))
  clear hb hI hperm hsort CS o0 o1 o2 HB1 G1 hBl
  have HL := hide hl'
  go_wp2_with fail
  go_loopw [6, 18] (fun v i wr => ∃ (k : Nat) (s' : Option Addr) (m cap' : Nat), k ≤ m1 ∧ v = .slice s' m cap' ∧ i = .int .i64 k ∧ Grow w2 wr ∧ OwnSV wr w2.heap.size s' m cap' (greedyO kinT (l'.take k))) (fun _ i _ => m1 - (intOf i).toNat)
  case atStart => exact ⟨0, none, 0, 0, Nat.zero_le _, rfl, rfl, Grow.rfl' _, OwnSV.nil _ _⟩
  case round =>
    obtain ⟨k, s', m, cap', hk, rfl, rfl, hg, hO⟩ := hrel
    have HG := hide hg
    have HO := hide hO
    clear hO
    by_cases hlt : k < m1
    · have hkd : k < l'.length := by rw [HL.out]; exact hlt
      have hne : ¬ l' = [] := fun h => by rw [h] at hkd; simp at hkd
      obtain ⟨b, o, rfl, hr1⟩ := HI.out.2.2.resolve_left hne
      obtain ⟨p0, p1, p2, p3, p4⟩ := (hr1.later hg).at k hkd
      obtain ⟨y, hy⟩ : ∃ y, y = l'[k] := ⟨_, rfl⟩
      rw [← hy] at p0 p1 p2 p3 p4
      have hi1 : (0 : Int) ≤ (k : Int) := by omega
      have hi2 : (k : Int) < (m1 : Int) := by omega
      have HY := hide hy
      have HE := hide (greedy_step kinT l' k hkd)
      have KB1 := hide (KB.out.later hg)
      have hBl : w.heap.size < wr.heap.size := KB1.out.lt
      obtain ⟨o0, o1, o2⟩ := KB1.out
      have hml : m ≤ m1 := by
        have h1 := HO.out.1
        have h2 := greedy_len kinT (l'.take k)
        rw [List.length_take] at h2
        omega
      have KX : Hid (Box (wr.alloc (.cells #[.int .i64 y.e, .int .i64 y.d, .int .i64 y.x, .int .i64 y.y, .int .i64 y.z] 43)) wr.heap.size y) := hide (Box.new _ _)
      have G1 := hide (Grow.alloc' wr (.cells #[.int .i64 y.e, .int .i64 y.d, .int .i64 y.x, .int .i64 y.y, .int .i64 y.z] 43))
      clear hne hr1 hy hg
      go_wp2_with fail
      generalize wr.alloc (.cells #[.int .i64 y.e, .int .i64 y.d, .int .i64 y.x, .int .i64 y.y, .int .i64 y.z] 43) = W1 at *
      have CC := hide (covT_any s' m cap' (greedyO kinT (l'.take k)) y W1 (by omega) (HO.out.later G1.out).is)
      generalize hp : coverB kinT (greedyO kinT (l'.take k)) y = p at CC
      have HP := hide hp
      clear hp
      refine (CC.out).mono ?_
      rintro e w3 ⟨rfl, hb⟩
      have G3 := hide (Grow.trans' (Grow.trans' HG.out G1.out) hb)
      have HO1 := hide ((HO.out.later G1.out).later hb)
      obtain ⟨x0, x1, x2, x3, x4⟩ := KX.out.later hb
      have hz1 : w2.heap.size ≤ w3.heap.size := G3.out.size
      clear hb G1 o0 o1 o2 HO KX CC p0 p1 p2 p3 p4
      cases p
      · go_wp2_with (at_builtin; refine wpList_apv_tm rfl _ _ rfl w2.heap.size s' cap' (greedyO kinT (l'.take k)) [y] m rfl (HO1.out.later (Grow.alloc' _ _)) w3.heap.size 0 1 1 rfl rfl (by omega) (RowT_one w3 y) ?hl ?hb ?_)
        case hl => rw [HO1.out.1]; omega
        case hb => simp; omega
        intro g' c' w4 O2 gb
        have G4 := hide (gb.grow (Grow.trans' G3.out (Grow.alloc' _ _)) (Nat.le_refl _))
        have HO2 := hide O2
        clear gb O2
        go_wp2_with fail
        go_roundw
        case rel =>
          refine ⟨k + 1, some ⟨g', 0, none⟩, m + 1, c', by omega, rfl, by go_num, G4.out, ?_⟩
          rw [HE.out, ← HY.out]
          unfold pushO
          rw [HP.out, if_neg (by simp)]
          refine OwnSV.of HO2.out ?_
          have := HO1.out.1
          simp [this]
        case measure => simp [intOf]; omega
      · go_wp2_with fail
        go_roundw
        case rel =>
          refine ⟨k + 1, s', m, cap', by omega, rfl, by go_num, G3.out, ?_⟩
          rw [HE.out, ← HY.out]
          unfold pushO
          rw [HP.out, if_pos rfl]
          exact HO1.out
        case measure => simp [intOf]; omega
    · have hkn : k = m1 := by omega
      subst hkn
      go_wp2_with fail
      go_ret
      refine ⟨s', m, cap', rfl, Grow.trans' (Grow.trans' G0.out G2.out) HG.out, ?_⟩
      have h1 := HO.out
      rw [List.take_of_length_le (by rw [HL.out]; omega), HC.out] at h1
      exact h1.rebase (Grow.trans' G0.out G2.out).size
set_option maxHeartbeats 1000000 in
theorem thoseM_any (s : Option Addr) (n cap : Nat) (d : List Sm) (w : World) (hbig : n ≤ 100000000000) (hd : IsSms w s n cap d) :
    Calls Tryz.prog 137 #[.agg #[.func (.func 93) #[] #[], .func (.func 119) #[] #[], .func (.func 120) #[] #[]], .slice s n cap] w
      fun e w' => ∃ s' m cap', e = .returned (.slice s' m cap') ∧ Grow w w' ∧ OwnMV w' w.heap.size s' m cap' (d.filter kinS.may) := by
  have HB := hide (OBoxM.new w)
  have G0 := hide (Grow.alloc' w (.cells #[.func (.func 93) #[] #[], .func (.func 119) #[] #[], .func (.func 120) #[] #[]] 130))
  have HD := hide (hd.later G0.out)
  have HN := hide hd.1
  clear hd
  go_enter Tryz.func137, Tryz.ntmps137
  go_wp2_with fail
  have hz0 : (w.alloc (.cells #[.func (.func 93) #[] #[], .func (.func 119) #[] #[], .func (.func 120) #[] #[]] 130)).heap.size = w.heap.size + 1 := by simp
  generalize w.alloc (.cells #[.func (.func 93) #[] #[], .func (.func 119) #[] #[], .func (.func 120) #[] #[]] 130) = w0 at *
  have HZ := hide hz0
  clear hz0
  go_loopw [5, 10] (fun v i wr => ∃ (k : Nat) (s' : Option Addr) (m cap' : Nat), k ≤ n ∧ v = .slice s' m cap' ∧ i = .int .i64 k ∧ Grow w0 wr ∧ OwnMV wr w0.heap.size s' m cap' ((d.take k).filter kinS.may)) (fun _ i _ => n - (intOf i).toNat)
  case atStart => exact ⟨0, none, 0, 0, Nat.zero_le _, rfl, rfl, Grow.rfl' _, OwnMV.nil _ _⟩
  case round =>
    obtain ⟨k, s', m, cap', hk, rfl, rfl, hg, hO⟩ := hrel
    have HG := hide hg
    have HO := hide hO
    clear hO
    by_cases hlt : k < n
    · have hkd : k < d.length := by rw [HN.out]; exact hlt
      have hne : ¬ d = [] := fun h => by rw [h] at hkd; simp at hkd
      obtain ⟨b, o, rfl, hr1⟩ := HD.out.2.2.resolve_left hne
      obtain ⟨p0, p1, p2, p3, p4, p5, p6⟩ := (hr1.later hg).at k hkd
      obtain ⟨y, hy⟩ : ∃ y, y = d[k] := ⟨_, rfl⟩
      rw [← hy] at p0 p1 p2 p3 p4 p5 p6
      have hi1 : (0 : Int) ≤ (k : Int) := by omega
      have hi2 : (k : Int) < (n : Int) := by omega
      have HY := hide hy
      have HE := hide (filter_take_succ kinS.may d k hkd)
      have KB := hide (HB.out.later hg)
      have hBl : w.heap.size < wr.heap.size := KB.out.lt
      obtain ⟨o0, o1, o2⟩ := KB.out
      have hml : m ≤ n := by
        have h1 := HO.out.1
        have h2 := List.length_filter_le kinS.may (d.take k)
        rw [List.length_take] at h2
        omega
      clear hne hr1 hy hg
      go_wp2_with fail
      have KX : Hid (SBox (wr.alloc (.cells #[.int .i64 y.f, .int .i64 y.t, .int .i64 y.k, .int .i64 y.ep, .int .i64 y.x, .int .i64 y.y, .int .i64 y.z] 68)) wr.heap.size y) := hide (SBox.new _ _)
      have G1 := hide (Grow.alloc' wr (.cells #[.int .i64 y.f, .int .i64 y.t, .int .i64 y.k, .int .i64 y.ep, .int .i64 y.x, .int .i64 y.y, .int .i64 y.z] 68))
      generalize wr.alloc (.cells #[.int .i64 y.f, .int .i64 y.t, .int .i64 y.k, .int .i64 y.ep, .int .i64 y.x, .int .i64 y.y, .int .i64 y.z] 68) = W1 at *
      refine (sMay_any y W1).mono ?_
      rintro e w1 ⟨rfl, hb⟩
      have G2 := hide (Grow.trans' (Grow.trans' HG.out G1.out) hb)
      have HO1 := hide ((HO.out.later G1.out).later hb)
      obtain ⟨x0, x1, x2, x3, x4, x5, x6⟩ := KX.out.later hb
      have hz1 : w0.heap.size ≤ w1.heap.size := G2.out.size
      clear hb G1 o0 o1 o2 HO KX p0 p1 p2 p3 p4 p5 p6
      cases hp : kinS.may y
      · have hp' : mayS y = false := hp
        rw [hp']
        go_wp2_with fail
        go_roundw
        case rel =>
          refine ⟨k + 1, s', m, cap', by omega, rfl, by go_num, G2.out, ?_⟩
          rw [HE.out, ← HY.out, hp]
          simpa using HO1.out
        case measure => simp [intOf]; omega
      · have hp' : mayS y = true := hp
        rw [hp']
        go_wp2_with (at_builtin; refine wpList_apv_sm rfl _ _ rfl w0.heap.size s' cap' ((d.take k).filter kinS.may) [y] m rfl (HO1.out.later (Grow.alloc' _ _)) w1.heap.size 0 1 1 rfl rfl (by omega) (RowM_one w1 y) ?hl ?hb ?_)
        case hl => rw [HO1.out.1]; omega
        case hb => simp; omega
        intro g' c' w2 O2 gb
        have G3 := hide (gb.grow (Grow.trans' G2.out (Grow.alloc' _ _)) (Nat.le_refl _))
        have HO2 := hide O2
        clear gb O2
        go_wp2_with fail
        go_roundw
        case rel =>
          refine ⟨k + 1, some ⟨g', 0, none⟩, m + 1, c', by omega, rfl, by go_num, G3.out, ?_⟩
          rw [HE.out, ← HY.out, hp]
          refine OwnMV.of (by simpa using HO2.out) ?_
          have := HO1.out.1
          simp [this]
        case measure => simp [intOf]; omega
    · have hkn : k = n := by omega
      subst hkn
      go_wp2_with fail
      go_ret
      refine ⟨s', m, cap', rfl, Grow.trans' G0.out HG.out, ?_⟩
      have h1 := HO.out
      rw [List.take_of_length_le (by rw [HN.out]; omega)] at h1
      exact h1.rebase (by rw [HZ.out]; omega)
set_option maxHeartbeats 1000000 in
theorem lowM_any (s : Option Addr) (n cap : Nat) (d : List Sm) (w : World) (hbig : n ≤ 100000000000) (hd : IsSms w s n cap d) :
    Calls Tryz.prog 121 #[.agg #[.func (.func 93) #[] #[], .func (.func 119) #[] #[], .func (.func 120) #[] #[]], .slice s n cap] w
      fun e w' => ∃ s' m cap', e = .returned (.slice s' m cap') ∧ Grow w w' ∧ OwnMV w' w.heap.size s' m cap' (chainO kinS d) := by
  have HB := hide (OBoxM.new w)
  have G0 := hide (Grow.alloc' w (.cells #[.func (.func 93) #[] #[], .func (.func 119) #[] #[], .func (.func 120) #[] #[]] 130))
  have HD := hide (hd.later G0.out)
  have HN := hide hd.1
  clear hd
  go_enter Tryz.func121, Tryz.ntmps121
  go_wp2_with fail
  generalize w.alloc (.cells #[.func (.func 93) #[] #[], .func (.func 119) #[] #[], .func (.func 120) #[] #[]] 130) = w0 at *
  refine (thoseM_any s n cap d w0 hbig HD.out).mono ?_
  rintro e w1 ⟨s1, m1, c1, rfl, hb, hO⟩
  have hm1 : m1 ≤ n := by
    have h1 := hO.1
    have h2 := List.length_filter_le kinS.may d
    have h3 := HN.out
    omega
  have HB1 := hide (HB.out.later hb)
  have hBl : w.heap.size < w1.heap.size := HB1.out.lt
  obtain ⟨o0, o1, o2⟩ := HB1.out
  have G1 := hide hb
  have CS := hide (sortM_any s1 m1 c1 w0.heap.size (d.filter kinS.may) w1 (by omega) hb.size hO)
  clear hb hO HD
  go_wp2_with fail
  refine (CS.out).mono ?_
  rintro e w2 ⟨rfl, hb, l', hperm, hsort, hI⟩
  have hl' : l'.length = m1 := hI.1
  have G2 : Hid (Grow w0 w2) := hide (G1.out.trans hb)
  have KB := hide (HB.out.later G2.out)
  have HI := hide hI
  have HC := hide (chainO_eq kinS (greedy_chain kinS hperm hsort))
  clear hb hI hperm hsort CS o0 o1 o2 HB1 G1 hBl
  have HL := hide hl'
  go_wp2_with fail
  go_loopw [6, 18] (fun v i wr => ∃ (k : Nat) (s' : Option Addr) (m cap' : Nat), k ≤ m1 ∧ v = .slice s' m cap' ∧ i = .int .i64 k ∧ Grow w2 wr ∧ OwnMV wr w2.heap.size s' m cap' (greedyO kinS (l'.take k))) (fun _ i _ => m1 - (intOf i).toNat)
  case atStart => exact ⟨0, none, 0, 0, Nat.zero_le _, rfl, rfl, Grow.rfl' _, OwnMV.nil _ _⟩
  case round =>
    obtain ⟨k, s', m, cap', hk, rfl, rfl, hg, hO⟩ := hrel
    have HG := hide hg
    have HO := hide hO
    clear hO
    by_cases hlt : k < m1
    · have hkd : k < l'.length := by rw [HL.out]; exact hlt
      have hne : ¬ l' = [] := fun h => by rw [h] at hkd; simp at hkd
      obtain ⟨b, o, rfl, hr1⟩ := HI.out.2.2.resolve_left hne
      obtain ⟨p0, p1, p2, p3, p4, p5, p6⟩ := (hr1.later hg).at k hkd
      obtain ⟨y, hy⟩ : ∃ y, y = l'[k] := ⟨_, rfl⟩
      rw [← hy] at p0 p1 p2 p3 p4 p5 p6
      have hi1 : (0 : Int) ≤ (k : Int) := by omega
      have hi2 : (k : Int) < (m1 : Int) := by omega
      have HY := hide hy
      have HE := hide (greedy_step kinS l' k hkd)
      have KB1 := hide (KB.out.later hg)
      have hBl : w.heap.size < wr.heap.size := KB1.out.lt
      obtain ⟨o0, o1, o2⟩ := KB1.out
      have hml : m ≤ m1 := by
        have h1 := HO.out.1
        have h2 := greedy_len kinS (l'.take k)
        rw [List.length_take] at h2
        omega
      have KX : Hid (SBox (wr.alloc (.cells #[.int .i64 y.f, .int .i64 y.t, .int .i64 y.k, .int .i64 y.ep, .int .i64 y.x, .int .i64 y.y, .int .i64 y.z] 68)) wr.heap.size y) := hide (SBox.new _ _)
      have G1 := hide (Grow.alloc' wr (.cells #[.int .i64 y.f, .int .i64 y.t, .int .i64 y.k, .int .i64 y.ep, .int .i64 y.x, .int .i64 y.y, .int .i64 y.z] 68))
      clear hne hr1 hy hg
      go_wp2_with fail
      generalize wr.alloc (.cells #[.int .i64 y.f, .int .i64 y.t, .int .i64 y.k, .int .i64 y.ep, .int .i64 y.x, .int .i64 y.y, .int .i64 y.z] 68) = W1 at *
      have CC := hide (covM_any s' m cap' (greedyO kinS (l'.take k)) y W1 (by omega) (HO.out.later G1.out).is)
      generalize hp : coverB kinS (greedyO kinS (l'.take k)) y = p at CC
      have HP := hide hp
      clear hp
      refine (CC.out).mono ?_
      rintro e w3 ⟨rfl, hb⟩
      have G3 := hide (Grow.trans' (Grow.trans' HG.out G1.out) hb)
      have HO1 := hide ((HO.out.later G1.out).later hb)
      obtain ⟨x0, x1, x2, x3, x4, x5, x6⟩ := KX.out.later hb
      have hz1 : w2.heap.size ≤ w3.heap.size := G3.out.size
      clear hb G1 o0 o1 o2 HO KX CC p0 p1 p2 p3 p4 p5 p6
      cases p
      · go_wp2_with (at_builtin; refine wpList_apv_sm rfl _ _ rfl w2.heap.size s' cap' (greedyO kinS (l'.take k)) [y] m rfl (HO1.out.later (Grow.alloc' _ _)) w3.heap.size 0 1 1 rfl rfl (by omega) (RowM_one w3 y) ?hl ?hb ?_)
        case hl => rw [HO1.out.1]; omega
        case hb => simp; omega
        intro g' c' w4 O2 gb
        have G4 := hide (gb.grow (Grow.trans' G3.out (Grow.alloc' _ _)) (Nat.le_refl _))
        have HO2 := hide O2
        clear gb O2
        go_wp2_with fail
        go_roundw
        case rel =>
          refine ⟨k + 1, some ⟨g', 0, none⟩, m + 1, c', by omega, rfl, by go_num, G4.out, ?_⟩
          rw [HE.out, ← HY.out]
          unfold pushO
          rw [HP.out, if_neg (by simp)]
          refine OwnMV.of HO2.out ?_
          have := HO1.out.1
          simp [this]
        case measure => simp [intOf]; omega
      · go_wp2_with fail
        go_roundw
        case rel =>
          refine ⟨k + 1, s', m, cap', by omega, rfl, by go_num, G3.out, ?_⟩
          rw [HE.out, ← HY.out]
          unfold pushO
          rw [HP.out, if_pos rfl]
          exact HO1.out
        case measure => simp [intOf]; omega
    · have hkn : k = m1 := by omega
      subst hkn
      go_wp2_with fail
      go_ret
      refine ⟨s', m, cap', rfl, Grow.trans' (Grow.trans' G0.out G2.out) HG.out, ?_⟩
      have h1 := HO.out
      rw [List.take_of_length_le (by rw [HL.out]; omega), HC.out] at h1
      exact h1.rebase (Grow.trans' G0.out G2.out).size

end Go.Proofs.YtehianjfpmbfpaaGreat
