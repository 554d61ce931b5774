/-
  What window.Of and window.Ends, and the document's own, do to the world: the numbers of the windows that have the epoch, and the last epoch of each, rising, in a row of the call's own; what was there stays as it was.
-/
import Derived.Test.YtlnpemjamcpheaaWCon
namespace Go.Proofs.Ytlnpemjamcpheaa
set_option maxRecDepth 100000
open Go.RowKit
attribute [local go_sem ↓] run_maxI
set_option linter.unusedVariables false
set_option linter.unusedSimpArgs false

theorem ofW_take (a b e : Int) (k : Nat) (hk : k < manyW a b e) : (ofW a b e).take (k + 1) = (ofW a b e).take k ++ [loW a b e + (k : Int)] := by
  have h : k < (ofW a b e).length := by rw [ofW_len]; exact hk
  rw [← List.take_append_getElem h, ofW_get]
theorem hi_eq {b e : Int} (he : 0 ≤ e) : Int.tdiv e b = hiW b e := by
  unfold hiW
  rw [Int.tdiv_eq_ediv_of_nonneg he]
theorem many_small {a b e : Int} (h : mayW a b = true) (he : inE e = true) : ((manyW a b e : Nat) : Int) ≤ 20 := by
  obtain ⟨h1, h2, h3, h4⟩ := (mayW_iff a b).1 h
  obtain ⟨e1, e2⟩ := (inE_iff e).1 he
  have hm := (manyW_pos h he).2
  have hlo := lo_small h he
  have k1 := (loW_le h1 h3 hlo.1).1 (Int.le_refl (loW a b e))
  have k2 := hiW_in (e := e) h3
  have k3 : 0 ≤ (b - 1) * (hiW b e - loW a b e) := Int.mul_nonneg (by omega) (by omega)
  rw [Int.sub_mul, Int.one_mul, Int.mul_sub] at k3
  omega
theorem many_le (a b e : Int) : manyW a b e ≤ 20 := by
  by_cases h : mayW a b = true ∧ inE e = true
  · have := many_small h.1 h.2
    omega
  · unfold manyW
    rw [if_neg h]
    omega
set_option maxHeartbeats 2000000 in
theorem of_at (a b e : Int) (w : World) :
    Calls Try.prog 11 #[.int .i64 a, .int .i64 b, .int .i64 e] w fun r w' => ∃ s n c, r = .returned (.slice s n c) ∧ Grow w w' ∧ OwnIV w' w.heap.size s n c (ofW a b e) := by
  obtain ⟨q, hq⟩ : ∃ q, (mayW a b && inE e) = q := ⟨_, rfl⟩
  have C := hide (mayHave_at a b e hq w)
  cases q
  · have HN := hide (show ofW a b e = [] from ofW_none (by intro h; rw [h.1, h.2] at hq; cases hq))
    clear hq
    go_enter Try.func11, Try.ntmps11
    go_wp2_with fail
    refine (C.out).mono ?_
    rintro _ w1 ⟨rfl, rfl⟩
    go_wp2_with fail
    go_ret
    exact ⟨none, 0, 0, rfl, Grow.rfl' _, by rw [HN.out]; exact OwnIV.nil _ _⟩
  · rw [Bool.and_eq_true] at hq
    obtain ⟨hm, he⟩ := hq
    have C2 := hide (over_at a b e hm he w)
    have hlo := lo_small hm he
    have hn := (manyW_pos hm he).2
    have hN := many_small hm he
    have hb0 : ¬ b = 0 := by have := (mayW_iff a b).1 hm; omega
    have hq := hi_eq (b := b) ((inE_iff e).1 he).1
    obtain ⟨L, hL⟩ : ∃ L, L = loW a b e := ⟨_, rfl⟩
    obtain ⟨H, hH⟩ : ∃ H, H = hiW b e := ⟨_, rfl⟩
    obtain ⟨N, hNe⟩ : ∃ N, N = manyW a b e := ⟨_, rfl⟩
    have HT : Hid (∀ k, k < N → (ofW a b e).take (k + 1) = (ofW a b e).take k ++ [L + (k : Int)]) := hide (by rw [hNe, hL]; exact ofW_take a b e)
    have HA : Hid ((ofW a b e).take N = ofW a b e) := hide (List.take_of_length_le (by rw [ofW_len, hNe]; exact Nat.le_refl _))
    rw [← hL] at C2 hlo hn
    rw [← hH] at hlo hn hq
    rw [← hNe] at hn hN
    have hw0 : IntKind.i64.wrap H = H := IntWalk.i64_in _ ⟨by omega, by omega⟩
    have hw1 : IntKind.i64.wrap (H + 1) = H + 1 := IntWalk.i64_in _ ⟨by omega, by omega⟩
    have hw2 : IntKind.i64.wrap (H + 1 - L) = (N : Int) := by rw [hn, show H + 1 - L = H - L + 1 by omega]; exact IntWalk.i64_in _ ⟨by omega, by omega⟩
    have HB := hide (And.intro hlo hn)
    clear hL hH hNe hm he hlo hn
    go_enter Try.func11, Try.ntmps11
    go_wp2_with fail
    refine (C.out).mono ?_
    rintro _ w1 ⟨rfl, rfl⟩
    go_wp2_with fail
    refine (C2.out).mono ?_
    rintro _ w1 ⟨rfl, rfl⟩
    clear C C2
    go_wp2_with fail
    clear hw0 hw1 hw2 hq hb0
    go_loopw [9, 27] (fun v i wr => ∃ (k : Nat) (s : Option Addr) (c : Nat), k ≤ N ∧ v = .slice s k c ∧ i = .int .i64 k ∧ Grow w1 wr ∧ OwnIV wr w1.heap.size s k c ((ofW a b e).take k)) (fun _ i _ => N - (intOf i).toNat)
    case atStart => exact ⟨0, _, _, Nat.zero_le _, rfl, rfl, Grow.rfl' _, OwnIV.nil _ _⟩
    case round =>
      obtain ⟨k, s, c, hk, rfl, rfl, hg, hO⟩ := hrel
      have HG := hide hg
      have HO := hide hO
      have hsz := hg.size
      clear hO hg
      by_cases hlt : k < N
      · have hi2 : (k : Int) < (N : Int) := by omega
        have hw : IntKind.i64.wrap (L + (k : Int)) = L + (k : Int) := IntWalk.i64_in _ ⟨by have := HB.out; omega, by have := HB.out; omega⟩
        have HS := hide (HT.out k hlt)
        go_wp2_with (at_builtin; refine wpList_apd_int rfl _ _ rfl w1.heap.size s k c ((ofW a b e).take k) [L + (k : Int)] rfl (HO.out.later (Grow.alloc' _ _)) (some ⟨wr.heap.size, 0, none⟩) 1 1 rfl (ins_one wr _) (by omega) (by simp; omega) ?_)
        intro s2 c2 w2 h2 gb
        have G2 := hide (gb.grow (Grow.trans' HG.out (Grow.alloc' _ _)) (Nat.le_refl _))
        have O2 : Hid (OwnIV w2 w1.heap.size s2 (k + 1) c2 ((ofW a b e).take (k + 1))) := hide (by rw [HS.out]; exact h2)
        clear h2 gb hw HO HG hsz HS
        go_wp2_with fail
        go_roundw
        case rel => exact ⟨k + 1, s2, c2, by omega, rfl, by go_num, G2.out, O2.out⟩
        case measure => simp [intOf]; omega
      · have hkN : k = N := by omega
        subst hkN
        have hi2 : ¬ (k : Int) < (k : Int) := by omega
        rw [HA.out] at HO
        go_wp2_with fail
        go_ret
        exact ⟨s, k, c, rfl, HG.out, HO.out⟩

/-- The row under way: the first k are changed. -/
def endsTo (f : Int → Int) (O : List Int) (k : Nat) : List Int := (O.take k).map f ++ O.drop k
theorem endsTo_len (f : Int → Int) (O : List Int) (k : Nat) : (endsTo f O k).length = O.length := by
  simp [endsTo]; omega
theorem endsTo_get (f : Int → Int) (O : List Int) (k : Nat) (hk : k < O.length) (h : k < (endsTo f O k).length) : (endsTo f O k)[k] = O[k] := by
  have h2 : (endsTo f O k)[k]? = some O[k] := by
    unfold endsTo
    rw [List.getElem?_append_right (by simp; omega)]
    simp [show k - min k O.length = 0 by omega, hk]
  rw [List.getElem?_eq_getElem h] at h2
  exact Option.some.inj h2
theorem endsTo_step (f : Int → Int) (O : List Int) (k : Nat) (hk : k < O.length) : (endsTo f O k).set k (f O[k]) = endsTo f O (k + 1) := by
  unfold endsTo
  have hl : (List.map f (O.take k)).length = k := by simp; omega
  rw [List.set_append_right _ _ (by omega), hl, Nat.sub_self, List.drop_eq_getElem_cons hk, List.set_cons_zero, ← List.take_append_getElem hk, List.map_append]
  simp
theorem endsTo_all (f : Int → Int) (O : List Int) : endsTo f O O.length = O.map f := by simp [endsTo]
set_option maxHeartbeats 2000000 in
theorem ends_at (a b e : Int) (w : World) :
    Calls Try.prog 13 #[.int .i64 a, .int .i64 b, .int .i64 e] w fun r w' => ∃ s n c, r = .returned (.slice s n c) ∧ Grow w w' ∧ OwnIV w' w.heap.size s n c ((ofW a b e).map (lastW a b)) := by
  have C := hide (of_at a b e w)
  have hN := many_le a b e
  go_enter Try.func13, Try.ntmps13
  go_wp2_with fail
  refine (C.out).mono ?_
  rintro _ w1 ⟨s, n, c, rfl, hb, hO⟩
  have hn : n ≤ 20 := by rw [← hO.1, ofW_len]; exact hN
  have HL := hide hO.1
  have G1 := hide hb
  have O1 := hide hO
  clear hb hO hN C
  go_wp2_with fail
  go_loopw [16] (fun i wr => ∃ (k : Nat), k ≤ n ∧ i = .int .i64 k ∧ Grow w wr ∧ OwnIV wr w.heap.size s n c (endsTo (lastW a b) (ofW a b e) k)) (fun i _ => n - (intOf i).toNat)
  case atStart => exact ⟨0, Nat.zero_le _, rfl, G1.out, by simpa [endsTo] using O1.out⟩
  case round =>
    obtain ⟨k, hk, rfl, hg, hO⟩ := hrel
    by_cases hlt : k < n
    · have hi1 : (0 : Int) ≤ (k : Int) := by omega
      have hi2 : (k : Int) < (n : Int) := by omega
      obtain ⟨g, rfl⟩ := hO.some' (by omega)
      have hkO : k < (ofW a b e).length := by rw [HL.out]; exact hlt
      have p0 := hO.cell k (by rw [endsTo_len]; exact hkO)
      rw [endsTo_get _ _ _ hkO] at p0
      have f0 := hO.free k
      have hst := hO.stored k (lastW a b (ofW a b e)[k])
      rw [endsTo_step _ _ _ hkO] at hst
      obtain ⟨x, hx⟩ : ∃ x, x = (ofW a b e)[k] := ⟨_, rfl⟩
      rw [← hx] at p0 hst
      obtain ⟨z, hz⟩ : ∃ z, lastW a b x = z := ⟨_, rfl⟩
      have C2 := hide (last_at a b x hz wr)
      rw [hz] at hst
      have HS := hide hst.1
      have HG := hide (Below.grown hg hst.2 hg.size (fun j hj => by cases hj; exact (hO.lt _ rfl).2))
      clear hx hz hst hO hg hkO
      go_wp2_with fail
      refine (C2.out).mono ?_
      rintro _ w2 ⟨rfl, rfl⟩
      go_wp2_with fail
      go_roundw
      case rel => exact ⟨k + 1, by omega, by go_num, HG.out, HS.out⟩
      case measure => simp [intOf]; omega
    · have hkn : k = (ofW a b e).length := by rw [HL.out]; omega
      rw [hkn, endsTo_all] at hO
      have HO := hide hO
      have HG := hide hg
      have hi2 : ¬ (k : Int) < (n : Int) := by omega
      clear hO hg hkn
      go_wp2_with fail
      go_ret
      exact ⟨s, n, c, rfl, HG.out, HO.out⟩

theorem lo_near {a b e : Int} (h : mayW a b = true) (he : inE e = true) : hiW b e - a - 1 ≤ loW a b e := by
  obtain ⟨h1, h2, h3, h4⟩ := (mayW_iff a b).1 h
  have hlo := lo_small h he
  have k1 := (loW_le h1 h3 hlo.1).1 (Int.le_refl (loW a b e))
  have k2 := hiW_in (e := e) h3
  have k3 : 0 ≤ (b - 1) * (hiW b e - loW a b e) := Int.mul_nonneg (by omega) (by omega)
  rw [Int.sub_mul, Int.one_mul, Int.mul_sub] at k3
  omega
/-- The row under way: the windows below k. -/
def ofTo (a b e : Int) (k : Int) : List Int := (ofW a b e).take (k - loW a b e).toNat
theorem ofTo_none {a b e k : Int} (h : k ≤ loW a b e) : ofTo a b e k = [] := by
  unfold ofTo
  rw [show (k - loW a b e).toNat = 0 by omega]; rfl
theorem ofTo_skip {a b e k : Int} (h : k < loW a b e) : ofTo a b e (k + 1) = ofTo a b e k := by rw [ofTo_none (by omega), ofTo_none (by omega)]
theorem ofTo_step {a b e k : Int} (hm : mayW a b = true) (he : inE e = true) (h : loW a b e ≤ k) (h2 : k ≤ hiW b e) : ofTo a b e (k + 1) = ofTo a b e k ++ [k] := by
  unfold ofTo
  have hn := (manyW_pos hm he).2
  rw [show (k + 1 - loW a b e).toNat = (k - loW a b e).toNat + 1 by omega, ofW_take _ _ _ _ (by omega), show loW a b e + ((k - loW a b e).toNat : Int) = k by omega]
theorem ofTo_all {a b e : Int} (hm : mayW a b = true) (he : inE e = true) : ofTo a b e (hiW b e + 1) = ofW a b e := by
  unfold ofTo
  have hn := (manyW_pos hm he).2
  exact List.take_of_length_le (by rw [ofW_len]; omega)
theorem ofTo_len (a b e k : Int) : (ofTo a b e k).length ≤ 20 := by
  have := many_le a b e
  unfold ofTo
  rw [List.length_take, ofW_len]
  omega
set_option maxHeartbeats 2000000 in
theorem rof_at (a b e : Int) (w : World) :
    Calls Try.prog 12 #[.int .i64 a, .int .i64 b, .int .i64 e] w fun r w' => ∃ s n c, r = .returned (.slice s n c) ∧ Grow w w' ∧ OwnIV w' w.heap.size s n c (ofW a b e) := by
  have G0 : Hid (Grow w (w.alloc (.cells #[] 3))) := hide (Grow.alloc' _ _)
  have O0 : Hid (OwnIV (w.alloc (.cells #[] 3)) w.heap.size (some ⟨w.heap.size, 0, none⟩) 0 0 []) := hide (OwnIV.lit0 w _ (Nat.le_refl _))
  obtain ⟨q, hq⟩ : ∃ q, mayW a b = q := ⟨_, rfl⟩
  have C := hide (rmay_at a b hq (w.alloc (.cells #[] 3)))
  cases q
  · have HN := hide (show ofW a b e = [] from ofW_none (by intro h; rw [h.1] at hq; cases hq))
    clear hq
    go_enter Try.func12, Try.ntmps12
    go_wp2_with fail
    refine (C.out).mono ?_
    rintro _ w1 ⟨rfl, rfl⟩
    go_wp2_with fail
    go_ret
    exact ⟨_, 0, 0, rfl, G0.out, by rw [HN.out]; exact O0.out⟩
  · have hc : e < 0 ∨ (¬ e < 0 ∧ 1048576 < e) ∨ (¬ e < 0 ∧ ¬ 1048576 < e) := by omega
    rcases hc with h1 | ⟨h1, h2⟩ | ⟨h1, h2⟩
    · have HN := hide (show ofW a b e = [] from ofW_none (by rw [inE_iff]; omega))
      clear hq
      go_enter Try.func12, Try.ntmps12
      go_wp2_with fail
      refine (C.out).mono ?_
      rintro _ w1 ⟨rfl, rfl⟩
      go_wp2_with fail
      go_ret
      exact ⟨_, 0, 0, rfl, G0.out, by rw [HN.out]; exact O0.out⟩
    · have HN := hide (show ofW a b e = [] from ofW_none (by rw [inE_iff]; omega))
      clear hq
      go_enter Try.func12, Try.ntmps12
      go_wp2_with fail
      refine (C.out).mono ?_
      rintro _ w1 ⟨rfl, rfl⟩
      go_wp2_with fail
      go_ret
      exact ⟨_, 0, 0, rfl, G0.out, by rw [HN.out]; exact O0.out⟩
    · have he : inE e = true := by rw [inE_iff]; omega
      obtain ⟨a1, a2, b1, b2⟩ := (mayW_iff a b).1 hq
      have hlo := lo_small hq he
      have hb0 : ¬ b = 0 := by omega
      have hqt := hi_eq (b := b) (e := e) (by omega)
      have HK : Hid (∀ k : Int, 0 ≤ k → k ≤ hiW b e → firstW b k = b * k ∧ lastW a b k = b * k + a - 1 ∧ b * k ≤ e ∧ (loW a b e ≤ k ↔ e ≤ b * k + a - 1)) := hide (fun k k1 k2 => by
        have hk : inE k = true := by rw [inE_iff]; omega
        exact ⟨firstW_in (may_step hq) hk, lastW_in hq hk, (le_hiW b1).1 k2, loW_le a1 b1 k1⟩)
      have hnear := lo_near hq he
      have HM := hide (fun (k : Int) (k1 : 0 ≤ k) (k2 : k ≤ 1048576) => mul_small b1 (by omega : b ≤ 20) k1 k2)
      have HS := hide (fun (k : Int) => ofTo_step (k := k) hq he)
      have HA := hide (ofTo_all hq he)
      obtain ⟨H, hH⟩ : ∃ H, H = hiW b e := ⟨_, rfl⟩
      rw [← hH] at hlo hqt hnear HK HA HS
      have hw0 : IntKind.i64.wrap (Int.tdiv e b) = H := by rw [hqt]; exact IntWalk.i64_in _ ⟨by omega, by omega⟩
      have hw1 : IntKind.i64.wrap (H - a) = H - a := IntWalk.i64_in _ ⟨by omega, by omega⟩
      have hw2 : IntKind.i64.wrap (H - a - 1) = H - a - 1 := IntWalk.i64_in _ ⟨by omega, by omega⟩
      have hmx : 0 ≤ maxI 0 (H - a - 1) ∧ maxI 0 (H - a - 1) ≤ loW a b e := by unfold maxI; split <;> omega
      clear hH he hq hnear
      go_enter Try.func12, Try.ntmps12
      go_wp2_with fail
      refine (C.out).mono ?_
      rintro _ w1 ⟨rfl, rfl⟩
      go_wp2_with fail
      clear hw1 hw2 C
      generalize hKe : maxI 0 (H - a - 1) = K0 at *
      clear hKe
      go_loopw [7, 9] (fun v i wr => ∃ (k : Int) (s : Option Addr) (n c : Nat), 0 ≤ k ∧ k ≤ H + 1 ∧ v = .slice s n c ∧ i = .int .i64 k ∧ Grow w wr ∧ OwnIV wr w.heap.size s n c (ofTo a b e k)) (fun _ i _ => (H + 1 - intOf i).toNat)
      case atStart => exact ⟨K0, _, 0, 0, by omega, by omega, rfl, rfl, G0.out, by rw [ofTo_none hmx.2]; exact O0.out⟩
      case round =>
        obtain ⟨k, s, n, c, k1, k2, rfl, rfl, hg, hO⟩ := hrel
        have HG := hide hg
        have HO := hide hO
        have hn : n ≤ 20 := by rw [← hO.1]; exact ofTo_len _ _ _ _
        have hsz := hg.size
        clear hO hg
        by_cases hlt : k ≤ H
        · obtain ⟨z1, z2, z3, z4⟩ := HK.out k k1 hlt
          have hmk := HM.out k k1 (by omega)
          have C1 := hide (rfirst_at b k z1 wr)
          have C2 := hide (rlast_at a b k z2 wr)
          have hwk : IntKind.i64.wrap (k + 1) = k + 1 := IntWalk.i64_in _ ⟨by omega, by omega⟩
          obtain ⟨y, hy⟩ : ∃ y, y = b * k := ⟨_, rfl⟩
          rw [← hy] at C1 C2 z3 z4
          clear z1 z2 hmk hy
          by_cases hin : e ≤ y + a - 1
          · have HT := hide (HS.out k (z4.2 hin) hlt)
            clear z4
            go_wp2_with fail
            refine (C1.out).mono ?_
            rintro _ w2 ⟨rfl, rfl⟩
            go_wp2_with fail
            refine (C2.out).mono ?_
            rintro _ w2 ⟨rfl, rfl⟩
            go_wp2_with (at_builtin; refine wpList_apd_int rfl _ _ rfl w.heap.size s n c (ofTo a b e k) [k] rfl (HO.out.later (Grow.alloc' _ _)) (some ⟨w2.heap.size, 0, none⟩) 1 1 rfl (ins_one w2 _) (by omega) (by simp; omega) ?_)
            intro s2 c2 w3 h2 gb
            have G2 := hide (gb.grow (Grow.trans' HG.out (Grow.alloc' _ _)) (Nat.le_refl _))
            have O2 : Hid (OwnIV w3 w.heap.size s2 (n + 1) c2 (ofTo a b e (k + 1))) := hide (by rw [HT.out]; exact h2)
            clear h2 gb HO HG hsz HT
            go_wp2_with fail
            go_roundw
            case rel => exact ⟨k + 1, s2, n + 1, c2, by omega, by omega, rfl, rfl, G2.out, O2.out⟩
            case measure => simp [intOf]; omega
          · have HT := hide (ofTo_skip (a := a) (b := b) (e := e) (k := k) (by rcases Int.lt_or_le k (loW a b e) with h | h; exact h; exact absurd (z4.1 h) hin))
            clear z4
            go_wp2_with fail
            refine (C1.out).mono ?_
            rintro _ w2 ⟨rfl, rfl⟩
            go_wp2_with fail
            refine (C2.out).mono ?_
            rintro _ w2 ⟨rfl, rfl⟩
            go_wp2_with fail
            go_roundw
            case rel => exact ⟨k + 1, s, n, c, by omega, by omega, rfl, rfl, HG.out, by rw [HT.out]; exact HO.out⟩
            case measure => simp [intOf]; omega
        · have hkH : k = H + 1 := by omega
          rw [hkH, HA.out] at HO
          clear hkH
          go_wp2_with fail
          go_ret
          exact ⟨s, n, c, rfl, HG.out, HO.out⟩
set_option maxHeartbeats 2000000 in
theorem rends_at (a b e : Int) (w : World) :
    Calls Try.prog 14 #[.int .i64 a, .int .i64 b, .int .i64 e] w fun r w' => ∃ s n c, r = .returned (.slice s n c) ∧ Grow w w' ∧ OwnIV w' w.heap.size s n c ((ofW a b e).map (lastW a b)) := by
  have C := hide (rof_at a b e w)
  have hN := many_le a b e
  go_enter Try.func14, Try.ntmps14
  go_wp2_with fail
  refine (C.out).mono ?_
  rintro _ w1 ⟨s, n, c, rfl, hb, hO⟩
  have hn : n ≤ 20 := by rw [← hO.1, ofW_len]; exact hN
  have HL := hide hO.1
  have I1 := hide hO.is
  have G0 : Hid (Grow w (w1.alloc (.cells #[] 3))) := hide (Grow.trans' hb (Grow.alloc' _ _))
  have O0 : Hid (OwnIV (w1.alloc (.cells #[] 3)) w1.heap.size (some ⟨w1.heap.size, 0, none⟩) 0 0 []) := hide (OwnIV.lit0 w1 _ (Nat.le_refl _))
  have GA : Hid (Grow w1 (w1.alloc (.cells #[] 3))) := hide (Grow.alloc' _ _)
  have GB := hide hb
  clear hb hO hN C
  go_wp2_with fail
  go_loopw [8, 9] (fun v i wr => ∃ (k : Nat) (s2 : Option Addr) (c2 : Nat), k ≤ n ∧ v = .slice s2 k c2 ∧ i = .int .i64 k ∧ Grow w1 wr ∧ OwnIV wr w1.heap.size s2 k c2 (((ofW a b e).map (lastW a b)).take k)) (fun _ i _ => n - (intOf i).toNat)
  case atStart => exact ⟨0, _, _, Nat.zero_le _, rfl, rfl, GA.out, O0.out⟩
  case round =>
    obtain ⟨k, s2, c2, hk, rfl, rfl, hg, hO⟩ := hrel
    have HG := hide hg
    have HO := hide hO
    have hsz := hg.size
    clear hO hg
    by_cases hlt : k < n
    · have hi1 : (0 : Int) ≤ (k : Int) := by omega
      have hi2 : (k : Int) < (n : Int) := by omega
      have hkO : k < (ofW a b e).length := by rw [HL.out]; exact hlt
      have hne : ¬ ofW a b e = [] := fun h => by rw [h] at hkO; simp at hkO
      obtain ⟨g, o, rfl, hr⟩ := (I1.out.later HG.out).row.resolve_left hne
      have p0 := hr k hkO
      have HT : Hid (((ofW a b e).map (lastW a b)).take (k + 1) = ((ofW a b e).map (lastW a b)).take k ++ [lastW a b (ofW a b e)[k]]) := hide (by rw [← List.take_append_getElem (by simpa using hkO)]; simp)
      obtain ⟨x, hx⟩ : ∃ x, x = (ofW a b e)[k] := ⟨_, rfl⟩
      rw [← hx] at p0 HT
      obtain ⟨z, hz⟩ : ∃ z, lastW a b x = z := ⟨_, rfl⟩
      have C2 := hide (rlast_at a b x hz wr)
      rw [hz] at HT
      clear hx hz hr hne hkO
      go_wp2_with fail
      refine (C2.out).mono ?_
      rintro _ w2 ⟨rfl, rfl⟩
      clear C2 p0
      go_wp2_with (at_builtin; refine wpList_apd_int rfl _ _ rfl w1.heap.size s2 k c2 (((ofW a b e).map (lastW a b)).take k) [z] rfl (HO.out.later (Grow.alloc' _ _)) (some ⟨w2.heap.size, 0, none⟩) 1 1 rfl (ins_one w2 _) (by omega) (by simp; omega) ?_)
      intro s3 c3 w3 h2 gb
      have G2 := hide (gb.grow (Grow.trans' HG.out (Grow.alloc' _ _)) (Nat.le_refl _))
      have O2 : Hid (OwnIV w3 w1.heap.size s3 (k + 1) c3 (((ofW a b e).map (lastW a b)).take (k + 1))) := hide (by rw [HT.out]; exact h2)
      clear h2 gb HO HG hsz HT
      go_wp2_with fail
      go_roundw
      case rel => exact ⟨k + 1, s3, c3, by omega, rfl, by go_num, G2.out, O2.out⟩
      case measure => simp [intOf]; omega
    · have hi2 : ¬ (k : Int) < (n : Int) := by omega
      have hkn : k = n := by omega
      have HA := hide (show ((ofW a b e).map (lastW a b)).take k = (ofW a b e).map (lastW a b) from List.take_of_length_le (by rw [List.length_map, HL.out]; omega))
      rw [HA.out] at HO
      clear hkn
      go_wp2_with fail
      go_ret
      exact ⟨s2, k, c2, rfl, Grow.trans' GB.out HG.out, HO.out.rebase GB.out.size⟩

end Go.Proofs.Ytlnpemjamcpheaa
