/-
  What the law ChainCovers does: for every row of times, every time, every row of summaries and every summary it returns true, and what was there stays as it was.
-/
import Derived.Test.YtkpecibbpogedaaHd
import Derived.Test.YtkpecibbpogedaaRAt
import Derived.Test.YtkpecibbpogedaaRowC
namespace Go.Proofs.Ytkpecibbpogedaa
set_option maxRecDepth 100000
open Go.RowKit
set_option linter.unusedVariables false

/-- A row and a summary lie in a block. -/
def XBox (w : World) (b : Nat) (x : SumsA) : Prop :=
  w.cell? ⟨b, 0, none⟩ = some (.slice x.s x.n x.cap) ∧ w.cell? ⟨b, 1, none⟩ = some (.int .i64 x.m.f) ∧ w.cell? ⟨b, 2, none⟩ = some (.int .i64 x.m.t) ∧ w.cell? ⟨b, 3, none⟩ = some (.int .i64 x.m.k) ∧ w.cell? ⟨b, 4, none⟩ = some (.int .i64 x.m.ep)
    ∧ w.cell? ⟨b, 5, none⟩ = some (.int .i64 x.m.x) ∧ w.cell? ⟨b, 6, none⟩ = some (.int .i64 x.m.y) ∧ w.cell? ⟨b, 7, none⟩ = some (.int .i64 x.m.z)
theorem XBox.later {w w' : World} {b : Nat} {x : SumsA} (hg : Grow w w') (h : XBox w b x) : XBox w' b x := by
  obtain ⟨a, b, c, d, e, f, g, i⟩ := h
  exact ⟨cell_later hg a, cell_later hg b, cell_later hg c, cell_later hg d, cell_later hg e, cell_later hg f, cell_later hg g, cell_later hg i⟩

set_option maxHeartbeats 4000000 in
theorem ChainCovers_any (s : Option Addr) (n cap : Nat) (d : List Tm) (t : Tm) (x : SumsA) (w : World) (hd : IsTms w s n cap d) (hx : IsSms w x.s x.n x.cap x.l) :
    Calls Try.prog 6 #[.slice s n cap, .agg #[.int .i64 t.e, .int .i64 t.d, .int .i64 t.x, .int .i64 t.y, .int .i64 t.z], .agg #[.slice x.s x.n x.cap, .int .i64 x.m.f, .int .i64 x.m.t, .int .i64 x.m.k, .int .i64 x.m.ep, .int .i64 x.m.x, .int .i64 x.m.y, .int .i64 x.m.z]] w fun e w' => e = .returned (.bool true) ∧ Grow w w' := by
  have G0 : Hid (Grow w ((w.alloc (.cells #[.int .i64 t.e, .int .i64 t.d, .int .i64 t.x, .int .i64 t.y, .int .i64 t.z] 25)).alloc (.cells #[.slice x.s x.n x.cap, .int .i64 x.m.f, .int .i64 x.m.t, .int .i64 x.m.k, .int .i64 x.m.ep, .int .i64 x.m.x, .int .i64 x.m.y, .int .i64 x.m.z] 43))) := hide (Grow.trans' (Grow.alloc' _ _) (Grow.alloc' _ _))
  have HD := hide (hd.later G0.out)
  have HX := hide (hx.later G0.out)
  have KT : Hid (Box ((w.alloc (.cells #[.int .i64 t.e, .int .i64 t.d, .int .i64 t.x, .int .i64 t.y, .int .i64 t.z] 25)).alloc (.cells #[.slice x.s x.n x.cap, .int .i64 x.m.f, .int .i64 x.m.t, .int .i64 x.m.k, .int .i64 x.m.ep, .int .i64 x.m.x, .int .i64 x.m.y, .int .i64 x.m.z] 43)) w.heap.size t) := hide ((Box.new _ _).later (Grow.alloc' _ _))
  have KX : Hid (XBox ((w.alloc (.cells #[.int .i64 t.e, .int .i64 t.d, .int .i64 t.x, .int .i64 t.y, .int .i64 t.z] 25)).alloc (.cells #[.slice x.s x.n x.cap, .int .i64 x.m.f, .int .i64 x.m.t, .int .i64 x.m.k, .int .i64 x.m.ep, .int .i64 x.m.x, .int .i64 x.m.y, .int .i64 x.m.z] 43)) (w.heap.size + 1) x) := hide (by simp [XBox, go_sem])
  clear hd hx
  go_enter Try.func6, Try.ntmps6
  go_wp2_with fail
  generalize (w.alloc (.cells #[.int .i64 t.e, .int .i64 t.d, .int .i64 t.x, .int .i64 t.y, .int .i64 t.z] 25)).alloc (.cells #[.slice x.s x.n x.cap, .int .i64 x.m.f, .int .i64 x.m.t, .int .i64 x.m.k, .int .i64 x.m.ep, .int .i64 x.m.x, .int .i64 x.m.y, .int .i64 x.m.z] 43) = w0 at *
  refine (shown_any _).mono ?_
  rintro e w1 ⟨rfl, hb⟩
  have B1 := hide hb
  have C1 := hide (fewT_any s n cap d w1 (HD.out.later hb))
  clear hb
  go_wp2_with fail
  refine (C1.out).mono ?_
  rintro e w2 ⟨v, rfl, hb, s1, n1, c1, rfl, hI⟩
  obtain ⟨D, hD⟩ : ∃ D, D = d.take 60 := ⟨_, rfl⟩
  rw [← hD] at hI
  have hn1 : n1 ≤ 60 := by rw [← hI.1, hD, List.length_take]; omega
  have B2 := hide (Grow.trans' B1.out hb)
  have HI2 := hide hI
  clear hb hI hD C1 HD B1
  go_wp2_with fail
  have A2 : Hid (Grow w2 (w2.alloc (.cells #[] 25))) := hide (Grow.alloc' _ _)
  have L2 : Hid (OwnSV (w2.alloc (.cells #[] 25)) w2.heap.size (some ⟨w2.heap.size, 0, none⟩) 0 0 []) := hide (.of (OwnS.lit0 w2 _ (Nat.le_refl _)) rfl)
  go_loopw [8, 9] (fun v i wr => ∃ (k : Nat) (s' : Option Addr) (m cap' : Nat), k ≤ n1 ∧ v = .slice s' m cap' ∧ i = .int .i64 k ∧ Grow w2 wr ∧ OwnSV wr w2.heap.size s' m cap' ((D.take k).filter kinT.may)) (fun _ i _ => n1 - (intOf i).toNat)
  case atStart => exact ⟨0, _, 0, 0, Nat.zero_le _, rfl, rfl, A2.out, L2.out⟩
  case round =>
    obtain ⟨k, s', m, cap', hk, rfl, rfl, hg, hO⟩ := hrel
    have HG := hide hg
    have HO := hide hO
    have hml : m ≤ n1 := by
      have h1 := hO.1
      have h2 := List.length_filter_le kinT.may (D.take k)
      rw [List.length_take] at h2
      omega
    clear hO
    by_cases hlt : k < n1
    · have hkd : k < D.length := by rw [HI2.out.1]; exact hlt
      have hne : ¬ D = [] := fun h => by rw [h] at hkd; simp at hkd
      obtain ⟨b, o, rfl, hr1⟩ := HI2.out.2.2.resolve_left hne
      obtain ⟨p0, p1, p2, p3, p4⟩ := (hr1.later hg).at k hkd
      obtain ⟨y, hy⟩ : ∃ y, y = D[k] := ⟨_, rfl⟩
      rw [← hy] at p0 p1 p2 p3 p4
      have hi1 : (0 : Int) ≤ (k : Int) := by omega
      have hi2 : (k : Int) < (n1 : Int) := by omega
      have HY := hide hy
      have HE := hide (filter_take_succ kinT.may D k hkd)
      have P0 := hide (And.intro p0 (And.intro p1 (And.intro p2 (And.intro p3 p4))))
      clear hne hr1 hy hg
      cases hp : kinT.may y
      all_goals
        have C3 := hide (refMayT_at y hp wr)
        go_wp2_with fail
        refine (C3.out).mono ?_
        rintro e w3 ⟨rfl, hb⟩
        have B3 := hide hb
        have G3 := hide (Grow.trans' HG.out hb)
        have HO3 := hide (HO.out.later hb)
        have hz3 : w2.heap.size ≤ w3.heap.size := G3.out.size
        clear hb p0 p1 p2 p3 p4 C3
      · go_wp2_with fail
        go_roundw
        case rel =>
          refine ⟨k + 1, s', m, cap', by omega, rfl, by go_num, G3.out, ?_⟩
          rw [HE.out, ← HY.out, hp]
          simpa using HO3.out
        case measure => simp [intOf]; omega
      · obtain ⟨p0, p1, p2, p3, p4⟩ := P0.out
        have p0 := cell_later B3.out p0; have p1 := cell_later B3.out p1; have p2 := cell_later B3.out p2; have p3 := cell_later B3.out p3; have p4 := cell_later B3.out p4
        go_wp2_with (at_builtin; refine wpList_apv_tm rfl _ _ rfl w2.heap.size s' cap' ((D.take k).filter kinT.may) [y] m rfl (HO3.out.later (Grow.alloc' _ _)) w3.heap.size 0 1 1 rfl rfl (by omega) (RowT_one w3 y) ?hl ?hb ?_)
        case hl => rw [HO3.out.1]; omega
        case hb => simp; omega
        intro g' c' w4 O4 gb
        have G4 := hide (gb.grow (Grow.trans' G3.out (Grow.alloc' _ _)) (Nat.le_refl _))
        have HO4 := hide O4
        clear gb O4 p0 p1 p2 p3 p4
        go_wp2_with fail
        go_roundw
        case rel =>
          refine ⟨k + 1, some ⟨g', 0, none⟩, m + 1, c', by omega, rfl, by go_num, G4.out, ?_⟩
          rw [HE.out, ← HY.out, hp]
          refine OwnSV.of (by simpa using HO4.out) ?_
          have := HO3.out.1
          simp [this]
        case measure => simp [intOf]; omega
    · have hkn : k = n1 := by omega
      have hi2 : ¬ (k : Int) < (n1 : Int) := by omega
      have HO5 := hide (show OwnSV wr w2.heap.size s' m cap' (D.filter kinT.may) from by
        have h1 := HO.out
        rw [List.take_of_length_le (by rw [HI2.out.1]; omega)] at h1
        exact h1)
      have B5 := hide (Grow.trans' B2.out HG.out)
      have HI5 := hide (HI2.out.later HG.out)
      clear hg HO HG hkn
      obtain ⟨k0, -⟩ := KX.out.later B5.out
      have C6 := hide (fewM_any x.s x.n x.cap x.l wr (HX.out.later B5.out))
      go_wp2_with fail
      refine (C6.out).mono ?_
      rintro e w6 ⟨v, rfl, hb, s6, n6, c6, rfl, hI⟩
      obtain ⟨E, hE⟩ : ∃ E, E = x.l.take 60 := ⟨_, rfl⟩
      rw [← hE] at hI
      have hn6 : n6 ≤ 60 := by rw [← hI.1, hE, List.length_take]; omega
      have B6 := hide (Grow.trans' B5.out hb)
      have HI6 := hide (HI5.out.later hb)
      have HO6 := hide (HO5.out.later hb)
      have HJ6 := hide hI
      clear hb hI hE C6 B5 HI5 HO5 k0
      go_wp2_with fail
      have A6 : Hid (Grow w6 (w6.alloc (.cells #[] 34))) := hide (Grow.alloc' _ _)
      have L6 : Hid (OwnMV (w6.alloc (.cells #[] 34)) w6.heap.size (some ⟨w6.heap.size, 0, none⟩) 0 0 []) := hide (.of (OwnM.lit0 w6 _ (Nat.le_refl _)) rfl)
      go_loopw [12, 13] (fun v i wr => ∃ (k : Nat) (s'' : Option Addr) (m' cap'' : Nat), k ≤ n6 ∧ v = .slice s'' m' cap'' ∧ i = .int .i64 k ∧ Grow w6 wr ∧ OwnMV wr w6.heap.size s'' m' cap'' ((E.take k).filter kinS.may)) (fun _ i _ => n6 - (intOf i).toNat)
      case atStart => exact ⟨0, _, 0, 0, Nat.zero_le _, rfl, rfl, A6.out, L6.out⟩
      case round =>
        obtain ⟨k, s'', m', cap'', hk, rfl, rfl, hg, hO⟩ := hrel
        have HG := hide hg
        have HO := hide hO
        have hml : m' ≤ n6 := by
          have h1 := hO.1
          have h2 := List.length_filter_le kinS.may (E.take k)
          rw [List.length_take] at h2
          omega
        clear hO
        by_cases hlt2 : k < n6
        · have hkd : k < E.length := by rw [HJ6.out.1]; exact hlt2
          have hne : ¬ E = [] := fun h => by rw [h] at hkd; simp at hkd
          obtain ⟨b, o, rfl, hr1⟩ := HJ6.out.2.2.resolve_left hne
          obtain ⟨p0, p1, p2, p3, p4, p5, p6⟩ := (hr1.later hg).at k hkd
          obtain ⟨y, hy⟩ : ∃ y, y = E[k] := ⟨_, rfl⟩
          rw [← hy] at p0 p1 p2 p3 p4 p5 p6
          have hj1 : (0 : Int) ≤ (k : Int) := by omega
          have hj2 : (k : Int) < (n6 : Int) := by omega
          have HY := hide hy
          have HE := hide (filter_take_succ kinS.may E k hkd)
          have P0 := hide (And.intro p0 (And.intro p1 (And.intro p2 (And.intro p3 (And.intro p4 (And.intro p5 p6))))))
          clear hne hr1 hy hg
          cases hp : kinS.may y
          all_goals
            have C3 := hide (refMayM_at y hp wr)
            go_wp2_with fail
            refine (C3.out).mono ?_
            rintro e w3 ⟨rfl, hb⟩
            have B3 := hide hb
            have G3 := hide (Grow.trans' HG.out hb)
            have HO3 := hide (HO.out.later hb)
            have hz3 : w6.heap.size ≤ w3.heap.size := G3.out.size
            clear hb p0 p1 p2 p3 p4 p5 p6 C3
          · go_wp2_with fail
            go_roundw
            case rel =>
              refine ⟨k + 1, s'', m', cap'', by omega, rfl, by go_num, G3.out, ?_⟩
              rw [HE.out, ← HY.out, hp]
              simpa using HO3.out
            case measure => simp [intOf]; omega
          · obtain ⟨p0, p1, p2, p3, p4, p5, p6⟩ := P0.out
            have p0 := cell_later B3.out p0; have p1 := cell_later B3.out p1; have p2 := cell_later B3.out p2; have p3 := cell_later B3.out p3; have p4 := cell_later B3.out p4; have p5 := cell_later B3.out p5; have p6 := cell_later B3.out p6
            go_wp2_with (at_builtin; refine wpList_apv_sm rfl _ _ rfl w6.heap.size s'' cap'' ((E.take k).filter kinS.may) [y] m' rfl (HO3.out.later (Grow.alloc' _ _)) w3.heap.size 0 1 1 rfl rfl (by omega) (RowM_one w3 y) ?hl ?hb ?_)
            case hl => rw [HO3.out.1]; omega
            case hb => simp; omega
            intro g' c' w4 O4 gb
            have G4 := hide (gb.grow (Grow.trans' G3.out (Grow.alloc' _ _)) (Nat.le_refl _))
            have HO4 := hide O4
            clear gb O4 p0 p1 p2 p3 p4 p5 p6
            go_wp2_with fail
            go_roundw
            case rel =>
              refine ⟨k + 1, some ⟨g', 0, none⟩, m' + 1, c', by omega, rfl, by go_num, G4.out, ?_⟩
              rw [HE.out, ← HY.out, hp]
              refine OwnMV.of (by simpa using HO4.out) ?_
              have := HO3.out.1
              simp [this]
            case measure => simp [intOf]; omega
        · have hkn : k = n6 := by omega
          have hj2 : ¬ (k : Int) < (n6 : Int) := by omega
          have HO7 := hide (show OwnMV wr w6.heap.size s'' m' cap'' (E.filter kinS.may) from by
            have h1 := HO.out
            rw [List.take_of_length_le (by rw [HJ6.out.1]; omega)] at h1
            exact h1)
          have B7 := hide (Grow.trans' B6.out HG.out)
          have HI7 := hide (HI6.out.later HG.out)
          have HJ7 := hide (HJ6.out.later HG.out)
          have HM7 := hide (HO6.out.later HG.out)
          have KT7 := hide (KT.out.later B7.out)
          have KX7 := hide (KX.out.later B7.out)
          have GG := hide (Grow.trans' G0.out B7.out)
          obtain ⟨p, hp⟩ : ∃ p, coverB kinT (chainO kinT D) t = p := ⟨_, rfl⟩
          have HP2 := hide (show coverB kinT (D.filter kinT.may) t = p from by rw [← chainO_covers]; exact hp)
          have HP := hide hp
          obtain ⟨q, hq⟩ : ∃ q, coverB kinS (chainO kinS E) x.m = q := ⟨_, rfl⟩
          have HQ2 := hide (show coverB kinS (E.filter kinS.may) x.m = q from by rw [← chainO_covers]; exact hq)
          have HQ := hide hq
          clear hg HO HG hkn hp hq
          go_wp2_with fail
          let FF : Nat → Value → World → Prop := fun i vF wF => match i with | 0 => vF = .bool true | 1 => vF = .bool true | 2 => vF = .slice s1 n1 c1 | 3 => IsRowT (chainO kinT D) vF wF | 4 => vF = .agg #[.int .i64 t.e, .int .i64 t.d, .int .i64 t.x, .int .i64 t.y, .int .i64 t.z] | 5 => vF = .bool p | 6 => vF = .slice s' m cap' | 7 => vF = .agg #[.int .i64 t.e, .int .i64 t.d, .int .i64 t.x, .int .i64 t.y, .int .i64 t.z] | 8 => vF = .bool p | 9 => vF = .bool true | 10 => vF = .bool true | 11 => vF = .bool true | 12 => vF = .slice s6 n6 c6 | 13 => IsRowM (chainO kinS E) vF wF | 14 => vF = .pointer (some ⟨w.heap.size + 1, 1, none⟩) | 15 => vF = .agg #[.int .i64 (x.m).f, .int .i64 (x.m).t, .int .i64 (x.m).k, .int .i64 (x.m).ep, .int .i64 (x.m).x, .int .i64 (x.m).y, .int .i64 (x.m).z] | 16 => vF = .bool q | 17 => vF = .slice s'' m' cap'' | 18 => vF = .pointer (some ⟨w.heap.size + 1, 1, none⟩) | 19 => vF = .agg #[.int .i64 (x.m).f, .int .i64 (x.m).t, .int .i64 (x.m).k, .int .i64 (x.m).ep, .int .i64 (x.m).x, .int .i64 (x.m).y, .int .i64 (x.m).z] | 20 => vF = .bool q | 21 => vF = .bool true | 22 => vF = .bool true | 23 => vF = .bool true | _ => True
          have hstab : ∀ k v w1 w2, Grow w1 w2 → FF k v w1 → FF k v w2 := by
            intro k v w1 w2 hg h
            match k with
            | 0 => exact h
            | 1 => exact h
            | 2 => exact h
            | 3 => exact IsRowT.later hg h
            | 4 => exact h
            | 5 => exact h
            | 6 => exact h
            | 7 => exact h
            | 8 => exact h
            | 9 => exact h
            | 10 => exact h
            | 11 => exact h
            | 12 => exact h
            | 13 => exact IsRowM.later hg h
            | 14 => exact h
            | 15 => exact h
            | 16 => exact h
            | 17 => exact h
            | 18 => exact h
            | 19 => exact h
            | 20 => exact h
            | 21 => exact h
            | 22 => exact h
            | 23 => exact h
            | k + 24 => exact trivial
          refine wp_region_invK FF (fun _ => none) (by kernel_rfl) (by kernel_rfl) ?_ ?_
          · refine ⟨?_, ?_, ?_, ?_, ?_, ?_, ?_, ?_, ?_, ?_, ?_, ?_, ?_, ?_, ?_, ?_, ?_, ?_, ?_, ?_, ?_, ?_, ?_, ?_, trivial⟩
            · refine stepK_run hstab trivial (by intro j b h; cases h) ?_
              intro a' w' hg hs hd
              have e7 : a'.eval (.tmp 7) = .bool true := hs.rest 7 rfl
              have ec : ∀ v, a'.eval (.const v) = v := fun _ => rfl
              have ef : ∀ g, a'.eval (.func g) = .func (.func g) #[] #[] := fun _ => rfl
              clear hd hs
              refine wpv (v := .bool true) ?_ ⟨_, rfl, Grow.rfl' _, rfl⟩
              (generalize a'.eval = ev at ec ef e7 ⊢; simp [execOp, go_sem, *])
            · refine stepK_run hstab trivial (by intro j b h; cases h) ?_
              intro a' w' hg hs hd
              have e61 : a'.eval (.tmp 61) = .bool true := hd ⟨0, Ground.data⟩ (by simp) rfl rfl
              have ec : ∀ v, a'.eval (.const v) = v := fun _ => rfl
              have ef : ∀ g, a'.eval (.func g) = .func (.func g) #[] #[] := fun _ => rfl
              clear hd hs
              refine wpv (v := .bool true) ?_ ⟨_, rfl, Grow.rfl' _, rfl⟩
              (generalize a'.eval = ev at ec ef e61 ⊢; simp [execOp, go_sem, *])
            · refine stepK_run hstab ⟨⟨⟨1, Ground.guard⟩, by simp, rfl, rfl⟩, fun _ _ h => h⟩ (by intro j b h; cases h; rfl) ?_
              intro a' w' hg hs hd
              have e0 : a'.eval (.tmp 0) = .slice s1 n1 c1 := hs.rest 0 rfl
              have ec : ∀ v, a'.eval (.const v) = v := fun _ => rfl
              have ef : ∀ g, a'.eval (.func g) = .func (.func g) #[] #[] := fun _ => rfl
              clear hd hs
              refine wpv (v := .slice s1 n1 c1) ?_ ⟨_, rfl, Grow.rfl' _, rfl⟩
              (generalize a'.eval = ev at ec ef e0 ⊢; simp [execOp, go_sem, *])
            · refine stepK_run hstab ⟨⟨⟨1, Ground.chain⟩, by simp, rfl, rfl⟩, fun _ _ h => h⟩ (by intro j b h; cases h; rfl) ?_
              intro a' w' hg hs hd
              have e63 : a'.eval (.tmp 63) = .slice s1 n1 c1 := hd ⟨2, Ground.data⟩ (by simp) rfl rfl
              have ec : ∀ v, a'.eval (.const v) = v := fun _ => rfl
              have ef : ∀ g, a'.eval (.func g) = .func (.func g) #[] #[] := fun _ => rfl
              clear hd hs
              refine wpc ?_ (Calls.mono (chainT_any s1 n1 c1 D w' (by omega) (HI7.out.later hg)) fun e w2 ⟨v, he, hb, hv⟩ => ⟨v, he, _, rfl, hb, hv⟩)
              (generalize a'.eval = ev at ec ef e63 ⊢; simp [execOp, go_sem, *])
            · refine stepK_run hstab ⟨⟨⟨1, Ground.guard⟩, by simp, rfl, rfl⟩, fun _ _ h => h⟩ (by intro j b h; cases h; rfl) ?_
              intro a' w' hg hs hd
              have e4 : a'.eval (.tmp 4) = .pointer (some ⟨w.heap.size, 0, none⟩) := hs.rest 4 rfl
              have ec : ∀ v, a'.eval (.const v) = v := fun _ => rfl
              have ef : ∀ g, a'.eval (.func g) = .func (.func g) #[] #[] := fun _ => rfl
              clear hd hs
              obtain ⟨x0, x1, x2, x3, x4⟩ := KT7.out.later hg
              refine wpv (v := .agg #[.int .i64 t.e, .int .i64 t.d, .int .i64 t.x, .int .i64 t.y, .int .i64 t.z]) ?_ ⟨_, rfl, Grow.rfl' _, rfl⟩
              (generalize a'.eval = ev at ec ef e4 ⊢; simp [execOp, go_sem, *])
            · refine stepK_run hstab ⟨⟨⟨1, Ground.guard⟩, by simp, rfl, rfl⟩, fun _ _ h => h⟩ (by intro j b h; cases h; rfl) ?_
              intro a' w' hg hs hd
              obtain ⟨sl64, nl64, cl64, e64, h64⟩ : IsRowT (chainO kinT D) (a'.eval (.tmp 64)) w' := hd ⟨3, Ground.data⟩ (by simp) rfl rfl
              have e65 : a'.eval (.tmp 65) = .agg #[.int .i64 t.e, .int .i64 t.d, .int .i64 t.x, .int .i64 t.y, .int .i64 t.z] := hd ⟨4, Ground.data⟩ (by simp) rfl rfl
              have ec : ∀ v, a'.eval (.const v) = v := fun _ => rfl
              have ef : ∀ g, a'.eval (.func g) = .func (.func g) #[] #[] := fun _ => rfl
              clear hd hs
              refine wpc ?_ (Calls.mono (coversT_any sl64 nl64 cl64 (chainO kinT D) t HP.out w' (by have a1 := h64.1; have a2 := chainO_len kinT D; have a3 := HI7.out.1; omega) h64) fun e w2 ⟨he, hb⟩ => ⟨_, he, _, rfl, hb, rfl⟩)
              (generalize a'.eval = ev at ec ef e64 e65 ⊢; simp [execOp, go_sem, *])
            · refine stepK_run hstab ⟨⟨⟨1, Ground.guard⟩, by simp, rfl, rfl⟩, fun _ _ h => h⟩ (by intro j b h; cases h; rfl) ?_
              intro a' w' hg hs hd
              have e8 : a'.eval (.tmp 8) = .slice s' m cap' := hs.rest 8 rfl
              have ec : ∀ v, a'.eval (.const v) = v := fun _ => rfl
              have ef : ∀ g, a'.eval (.func g) = .func (.func g) #[] #[] := fun _ => rfl
              clear hd hs
              refine wpv (v := .slice s' m cap') ?_ ⟨_, rfl, Grow.rfl' _, rfl⟩
              (generalize a'.eval = ev at ec ef e8 ⊢; simp [execOp, go_sem, *])
            · refine stepK_run hstab ⟨⟨⟨1, Ground.guard⟩, by simp, rfl, rfl⟩, fun _ _ h => h⟩ (by intro j b h; cases h; rfl) ?_
              intro a' w' hg hs hd
              have e4 : a'.eval (.tmp 4) = .pointer (some ⟨w.heap.size, 0, none⟩) := hs.rest 4 rfl
              have ec : ∀ v, a'.eval (.const v) = v := fun _ => rfl
              have ef : ∀ g, a'.eval (.func g) = .func (.func g) #[] #[] := fun _ => rfl
              clear hd hs
              obtain ⟨x0, x1, x2, x3, x4⟩ := KT7.out.later hg
              refine wpv (v := .agg #[.int .i64 t.e, .int .i64 t.d, .int .i64 t.x, .int .i64 t.y, .int .i64 t.z]) ?_ ⟨_, rfl, Grow.rfl' _, rfl⟩
              (generalize a'.eval = ev at ec ef e4 ⊢; simp [execOp, go_sem, *])
            · refine stepK_run hstab ⟨⟨⟨1, Ground.guard⟩, by simp, rfl, rfl⟩, fun _ _ h => h⟩ (by intro j b h; cases h; rfl) ?_
              intro a' w' hg hs hd
              have e67 : a'.eval (.tmp 67) = .slice s' m cap' := hd ⟨6, Ground.data⟩ (by simp) rfl rfl
              have e68 : a'.eval (.tmp 68) = .agg #[.int .i64 t.e, .int .i64 t.d, .int .i64 t.x, .int .i64 t.y, .int .i64 t.z] := hd ⟨7, Ground.data⟩ (by simp) rfl rfl
              have ec : ∀ v, a'.eval (.const v) = v := fun _ => rfl
              have ef : ∀ g, a'.eval (.func g) = .func (.func g) #[] #[] := fun _ => rfl
              clear hd hs
              refine wpc ?_ (Calls.mono (coversT_any s' m cap' (D.filter kinT.may) t HP2.out w' (by omega) (HM7.out.is.later hg)) fun e w2 ⟨he, hb⟩ => ⟨_, he, _, rfl, hb, rfl⟩)
              (generalize a'.eval = ev at ec ef e67 e68 ⊢; simp [execOp, go_sem, *])
            · refine stepK_run hstab ⟨⟨⟨1, Ground.guard⟩, by simp, rfl, rfl⟩, fun _ _ h => h⟩ (by intro j b h; cases h; rfl) ?_
              intro a' w' hg hs hd
              have e66 : a'.eval (.tmp 66) = .bool p := hd ⟨5, Ground.data⟩ (by simp) rfl rfl
              have e69 : a'.eval (.tmp 69) = .bool p := hd ⟨8, Ground.data⟩ (by simp) rfl rfl
              have ec : ∀ v, a'.eval (.const v) = v := fun _ => rfl
              have ef : ∀ g, a'.eval (.func g) = .func (.func g) #[] #[] := fun _ => rfl
              clear hd hs
              refine wpv (v := .bool true) ?_ ⟨_, rfl, Grow.rfl' _, rfl⟩
              (generalize a'.eval = ev at ec ef e66 e69 ⊢; simp [execOp, go_sem, *])
            · refine stepK_run hstab trivial (by intro j b h; cases h) ?_
              intro a' w' hg hs hd
              have e62 : a'.eval (.tmp 62) = .bool true := hd ⟨1, Ground.data⟩ (by simp) rfl rfl
              have e70 : a'.eval (.tmp 70) = .bool true := hd ⟨9, Ground.data⟩ (by simp) rfl rfl
              have ec : ∀ v, a'.eval (.const v) = v := fun _ => rfl
              have ef : ∀ g, a'.eval (.func g) = .func (.func g) #[] #[] := fun _ => rfl
              clear hd hs
              refine wpv (v := .bool true) ?_ ⟨_, rfl, Grow.rfl' _, rfl⟩
              (generalize a'.eval = ev at ec ef e62 e70 ⊢; simp [execOp, go_sem, *])
            · refine stepK_run hstab trivial (by intro j b h; cases h) ?_
              intro a' w' hg hs hd
              have e71 : a'.eval (.tmp 71) = .bool true := hd ⟨10, Ground.data⟩ (by simp) rfl rfl
              have ec : ∀ v, a'.eval (.const v) = v := fun _ => rfl
              have ef : ∀ g, a'.eval (.func g) = .func (.func g) #[] #[] := fun _ => rfl
              clear hd hs
              refine wpv (v := .bool true) ?_ ⟨_, rfl, Grow.rfl' _, rfl⟩
              (generalize a'.eval = ev at ec ef e71 ⊢; simp [execOp, go_sem, *])
            · refine stepK_run hstab ⟨⟨⟨11, Ground.guard⟩, by simp, rfl, rfl⟩, fun _ _ h => h⟩ (by intro j b h; cases h; rfl) ?_
              intro a' w' hg hs hd
              have e11 : a'.eval (.tmp 11) = .slice s6 n6 c6 := hs.rest 11 rfl
              have ec : ∀ v, a'.eval (.const v) = v := fun _ => rfl
              have ef : ∀ g, a'.eval (.func g) = .func (.func g) #[] #[] := fun _ => rfl
              clear hd hs
              refine wpv (v := .slice s6 n6 c6) ?_ ⟨_, rfl, Grow.rfl' _, rfl⟩
              (generalize a'.eval = ev at ec ef e11 ⊢; simp [execOp, go_sem, *])
            · refine stepK_run hstab ⟨⟨⟨11, Ground.chain⟩, by simp, rfl, rfl⟩, fun _ _ h => h⟩ (by intro j b h; cases h; rfl) ?_
              intro a' w' hg hs hd
              have e73 : a'.eval (.tmp 73) = .slice s6 n6 c6 := hd ⟨12, Ground.data⟩ (by simp) rfl rfl
              have ec : ∀ v, a'.eval (.const v) = v := fun _ => rfl
              have ef : ∀ g, a'.eval (.func g) = .func (.func g) #[] #[] := fun _ => rfl
              clear hd hs
              refine wpc ?_ (Calls.mono (chainM_any s6 n6 c6 E w' (by omega) (HJ7.out.later hg)) fun e w2 ⟨v, he, hb, hv⟩ => ⟨v, he, _, rfl, hb, hv⟩)
              (generalize a'.eval = ev at ec ef e73 ⊢; simp [execOp, go_sem, *])
            · refine stepK_run hstab ⟨⟨⟨11, Ground.guard⟩, by simp, rfl, rfl⟩, fun _ _ h => h⟩ (by intro j b h; cases h; rfl) ?_
              intro a' w' hg hs hd
              have e5 : a'.eval (.tmp 5) = .pointer (some ⟨w.heap.size + 1, 0, none⟩) := hs.rest 5 rfl
              have ec : ∀ v, a'.eval (.const v) = v := fun _ => rfl
              have ef : ∀ g, a'.eval (.func g) = .func (.func g) #[] #[] := fun _ => rfl
              clear hd hs
              refine wpv (v := .pointer (some ⟨w.heap.size + 1, 1, none⟩)) ?_ ⟨_, rfl, Grow.rfl' _, rfl⟩
              (generalize a'.eval = ev at ec ef e5 ⊢; simp [execOp, go_sem, *])
            · refine stepK_run hstab ⟨⟨⟨11, Ground.guard⟩, by simp, rfl, rfl⟩, fun _ _ h => h⟩ (by intro j b h; cases h; rfl) ?_
              intro a' w' hg hs hd
              have e75 : a'.eval (.tmp 75) = .pointer (some ⟨w.heap.size + 1, 1, none⟩) := hd ⟨14, Ground.data⟩ (by simp) rfl rfl
              have ec : ∀ v, a'.eval (.const v) = v := fun _ => rfl
              have ef : ∀ g, a'.eval (.func g) = .func (.func g) #[] #[] := fun _ => rfl
              clear hd hs
              obtain ⟨-, x0, x1, x2, x3, x4, x5, x6⟩ := KX7.out.later hg
              refine wpv (v := .agg #[.int .i64 (x.m).f, .int .i64 (x.m).t, .int .i64 (x.m).k, .int .i64 (x.m).ep, .int .i64 (x.m).x, .int .i64 (x.m).y, .int .i64 (x.m).z]) ?_ ⟨_, rfl, Grow.rfl' _, rfl⟩
              (generalize a'.eval = ev at ec ef e75 ⊢; simp [execOp, go_sem, *])
            · refine stepK_run hstab ⟨⟨⟨11, Ground.guard⟩, by simp, rfl, rfl⟩, fun _ _ h => h⟩ (by intro j b h; cases h; rfl) ?_
              intro a' w' hg hs hd
              obtain ⟨sl74, nl74, cl74, e74, h74⟩ : IsRowM (chainO kinS E) (a'.eval (.tmp 74)) w' := hd ⟨13, Ground.data⟩ (by simp) rfl rfl
              have e76 : a'.eval (.tmp 76) = .agg #[.int .i64 (x.m).f, .int .i64 (x.m).t, .int .i64 (x.m).k, .int .i64 (x.m).ep, .int .i64 (x.m).x, .int .i64 (x.m).y, .int .i64 (x.m).z] := hd ⟨15, Ground.data⟩ (by simp) rfl rfl
              have ec : ∀ v, a'.eval (.const v) = v := fun _ => rfl
              have ef : ∀ g, a'.eval (.func g) = .func (.func g) #[] #[] := fun _ => rfl
              clear hd hs
              refine wpc ?_ (Calls.mono (coversM_any sl74 nl74 cl74 (chainO kinS E) x.m HQ.out w' (by have a1 := h74.1; have a2 := chainO_len kinS E; have a3 := HJ7.out.1; omega) h74) fun e w2 ⟨he, hb⟩ => ⟨_, he, _, rfl, hb, rfl⟩)
              (generalize a'.eval = ev at ec ef e74 e76 ⊢; simp [execOp, go_sem, *])
            · refine stepK_run hstab ⟨⟨⟨11, Ground.guard⟩, by simp, rfl, rfl⟩, fun _ _ h => h⟩ (by intro j b h; cases h; rfl) ?_
              intro a' w' hg hs hd
              have e12 : a'.eval (.tmp 12) = .slice s'' m' cap'' := hs.rest 12 rfl
              have ec : ∀ v, a'.eval (.const v) = v := fun _ => rfl
              have ef : ∀ g, a'.eval (.func g) = .func (.func g) #[] #[] := fun _ => rfl
              clear hd hs
              refine wpv (v := .slice s'' m' cap'') ?_ ⟨_, rfl, Grow.rfl' _, rfl⟩
              (generalize a'.eval = ev at ec ef e12 ⊢; simp [execOp, go_sem, *])
            · refine stepK_run hstab ⟨⟨⟨11, Ground.guard⟩, by simp, rfl, rfl⟩, fun _ _ h => h⟩ (by intro j b h; cases h; rfl) ?_
              intro a' w' hg hs hd
              have e5 : a'.eval (.tmp 5) = .pointer (some ⟨w.heap.size + 1, 0, none⟩) := hs.rest 5 rfl
              have ec : ∀ v, a'.eval (.const v) = v := fun _ => rfl
              have ef : ∀ g, a'.eval (.func g) = .func (.func g) #[] #[] := fun _ => rfl
              clear hd hs
              refine wpv (v := .pointer (some ⟨w.heap.size + 1, 1, none⟩)) ?_ ⟨_, rfl, Grow.rfl' _, rfl⟩
              (generalize a'.eval = ev at ec ef e5 ⊢; simp [execOp, go_sem, *])
            · refine stepK_run hstab ⟨⟨⟨11, Ground.guard⟩, by simp, rfl, rfl⟩, fun _ _ h => h⟩ (by intro j b h; cases h; rfl) ?_
              intro a' w' hg hs hd
              have e79 : a'.eval (.tmp 79) = .pointer (some ⟨w.heap.size + 1, 1, none⟩) := hd ⟨18, Ground.data⟩ (by simp) rfl rfl
              have ec : ∀ v, a'.eval (.const v) = v := fun _ => rfl
              have ef : ∀ g, a'.eval (.func g) = .func (.func g) #[] #[] := fun _ => rfl
              clear hd hs
              obtain ⟨-, x0, x1, x2, x3, x4, x5, x6⟩ := KX7.out.later hg
              refine wpv (v := .agg #[.int .i64 (x.m).f, .int .i64 (x.m).t, .int .i64 (x.m).k, .int .i64 (x.m).ep, .int .i64 (x.m).x, .int .i64 (x.m).y, .int .i64 (x.m).z]) ?_ ⟨_, rfl, Grow.rfl' _, rfl⟩
              (generalize a'.eval = ev at ec ef e79 ⊢; simp [execOp, go_sem, *])
            · refine stepK_run hstab ⟨⟨⟨11, Ground.guard⟩, by simp, rfl, rfl⟩, fun _ _ h => h⟩ (by intro j b h; cases h; rfl) ?_
              intro a' w' hg hs hd
              have e78 : a'.eval (.tmp 78) = .slice s'' m' cap'' := hd ⟨17, Ground.data⟩ (by simp) rfl rfl
              have e80 : a'.eval (.tmp 80) = .agg #[.int .i64 (x.m).f, .int .i64 (x.m).t, .int .i64 (x.m).k, .int .i64 (x.m).ep, .int .i64 (x.m).x, .int .i64 (x.m).y, .int .i64 (x.m).z] := hd ⟨19, Ground.data⟩ (by simp) rfl rfl
              have ec : ∀ v, a'.eval (.const v) = v := fun _ => rfl
              have ef : ∀ g, a'.eval (.func g) = .func (.func g) #[] #[] := fun _ => rfl
              clear hd hs
              refine wpc ?_ (Calls.mono (coversM_any s'' m' cap'' (E.filter kinS.may) x.m HQ2.out w' (by omega) (HO7.out.is.later hg)) fun e w2 ⟨he, hb⟩ => ⟨_, he, _, rfl, hb, rfl⟩)
              (generalize a'.eval = ev at ec ef e78 e80 ⊢; simp [execOp, go_sem, *])
            · refine stepK_run hstab ⟨⟨⟨11, Ground.guard⟩, by simp, rfl, rfl⟩, fun _ _ h => h⟩ (by intro j b h; cases h; rfl) ?_
              intro a' w' hg hs hd
              have e77 : a'.eval (.tmp 77) = .bool q := hd ⟨16, Ground.data⟩ (by simp) rfl rfl
              have e81 : a'.eval (.tmp 81) = .bool q := hd ⟨20, Ground.data⟩ (by simp) rfl rfl
              have ec : ∀ v, a'.eval (.const v) = v := fun _ => rfl
              have ef : ∀ g, a'.eval (.func g) = .func (.func g) #[] #[] := fun _ => rfl
              clear hd hs
              refine wpv (v := .bool true) ?_ ⟨_, rfl, Grow.rfl' _, rfl⟩
              (generalize a'.eval = ev at ec ef e77 e81 ⊢; simp [execOp, go_sem, *])
            · refine stepK_run hstab trivial (by intro j b h; cases h) ?_
              intro a' w' hg hs hd
              have e72 : a'.eval (.tmp 72) = .bool true := hd ⟨11, Ground.data⟩ (by simp) rfl rfl
              have e82 : a'.eval (.tmp 82) = .bool true := hd ⟨21, Ground.data⟩ (by simp) rfl rfl
              have ec : ∀ v, a'.eval (.const v) = v := fun _ => rfl
              have ef : ∀ g, a'.eval (.func g) = .func (.func g) #[] #[] := fun _ => rfl
              clear hd hs
              refine wpv (v := .bool true) ?_ ⟨_, rfl, Grow.rfl' _, rfl⟩
              (generalize a'.eval = ev at ec ef e72 e82 ⊢; simp [execOp, go_sem, *])
            · refine stepK_run hstab trivial (by intro j b h; cases h) ?_
              intro a' w' hg hs hd
              have e83 : a'.eval (.tmp 83) = .bool true := hd ⟨22, Ground.data⟩ (by simp) rfl rfl
              have ec : ∀ v, a'.eval (.const v) = v := fun _ => rfl
              have ef : ∀ g, a'.eval (.func g) = .func (.func g) #[] #[] := fun _ => rfl
              clear hd hs
              refine wpv (v := .bool true) ?_ ⟨_, rfl, Grow.rfl' _, rfl⟩
              (generalize a'.eval = ev at ec ef e83 ⊢; simp [execOp, go_sem, *])
          · intro a' w' hg hs hd
            have e6 : a'.eval (.tmp 6) = .bool true := hd 23 (by simp) (by intro k h; cases h)
            go_wp2_with fail
            refine bodyPost_ret (v := .bool true) ?_ (by rw [hs.defers]) ⟨rfl, Grow.trans' GG.out hg⟩
            clear hd hs hstab
            simpa [results, Try.results6, Act.eval] using e6

end Go.Proofs.Ytkpecibbpogedaa
