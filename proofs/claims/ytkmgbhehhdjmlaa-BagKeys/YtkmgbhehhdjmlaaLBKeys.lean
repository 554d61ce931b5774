/-
  BagKeys: for every row of records (its first hundred): the keys rise, each once, and are just those of the records; and the row, turned about, is sorted the same, in order, as many as there are; the call returns true and leaves its argument as it was. No conditions.
-/
import Derived.Test.YtkmgbhehhdjmlaaGLw
import Derived.Test.YtkmgbhehhdjmlaaGKy
namespace Go.Proofs.Ytkmgbhehhdjmlaa
set_option maxRecDepth 100000
open Go.ChangeShapes Go.WideShapes Go.ChangeAt Go.RowKit Go.Deep Go.Sort
attribute [local go_sem ↓] eqRc
set_option linter.unusedVariables false
set_option linter.unusedSimpArgs false

theorem back_step {α : Type} (L : List α) (i : Nat) (h : i < L.length) : (L.drop (i + 1)).reverse ++ [L[i]] = (L.drop i).reverse := by
  rw [List.drop_eq_getElem_cons h, List.reverse_cons]
theorem keys_found (L : List Rc) (i : Nat) (h : i < L.length) : ∃ j, ∃ hj : j < (keysR L).length, (keysR L)[j] = L[i].k := by
  have : L[i].k ∈ keysR L := (keysR_mem L _).2 ⟨L[i], List.getElem_mem h, rfl⟩
  obtain ⟨j, hj, e⟩ := List.mem_iff_getElem.1 this
  exact ⟨j, hj, e⟩
theorem keys_of (L : List Rc) (j : Nat) (h : j < (keysR L).length) : ∃ i, ∃ hi : i < L.length, L[i].k = (keysR L)[j] := by
  obtain ⟨r, hr, e⟩ := (keysR_mem L _).1 (List.getElem_mem h)
  obtain ⟨i, hi, e2⟩ := List.mem_iff_getElem.1 hr
  exact ⟨i, hi, by rw [e2, e]⟩
theorem keys_up (L : List Rc) (j : Nat) (h : j + 1 < (keysR L).length) : (keysR L)[j] < (keysR L)[j + 1] := by
  have := keysR_rises L
  rw [List.pairwise_iff_getElem] at this
  exact this j (j + 1) (by omega) h (by omega)
theorem srt_up (L : List Rc) (j : Nat) (h : j + 1 < (srt L).length) : ordR (srt L)[j] (srt L)[j + 1] ≤ 0 := by
  have := srt_sorted L
  unfold SortedR at this
  rw [List.pairwise_iff_getElem] at this
  exact this j (j + 1) (by omega) h (by omega)
/-- What is found among the first k. -/
def FoundTo (l : List Int) (x : Int) (k : Nat) : Prop := ∃ j, ∃ h : j < l.length, j < k ∧ l[j] = x
theorem foundTo_zero (l : List Int) (x : Int) : ¬ FoundTo l x 0 := fun ⟨j, _, h, _⟩ => by omega
theorem foundTo_succ (l : List Int) (x : Int) (k : Nat) (hk : k < l.length) : FoundTo l x (k + 1) ↔ FoundTo l x k ∨ l[k] = x := by
  constructor
  · rintro ⟨j, h1, h2, h3⟩
    by_cases e : j = k
    · subst e; exact .inr h3
    · exact .inl ⟨j, h1, by omega, h3⟩
  · rintro (⟨j, h1, h2, h3⟩ | h)
    · exact ⟨j, h1, by omega, h3⟩
    · exact ⟨k, hk, by omega, h⟩

set_option maxHeartbeats 8000000 in
theorem BagKeys_l (s : Option Addr) (n cap : Nat) (L : List Rc) (w : World) (hn : ¬ (100 : Int) < (n : Int))
    (hcA : (100 : Int) ≤ (cap : Int) ∨ n ≤ 100) (hA : IsRcs w s n cap L) :
    Calls Try.prog 7 #[.slice s n cap] w fun e w' => e = .returned (.bool true) ∧ Grow w w' := by
  have HA := hide hA
  clear hA hcA
  go_enter Try.func7, Try.ntmps7
  go_wp2_with fail
  refine (shown_any _).mono ?_
  rintro e w1 ⟨rfl, hb⟩
  have G1 := hide hb
  have HA1 := hide (HA.out.later hb)
  have C2 := hide (keys_at s n cap L w1 (by omega) (HA.out.later hb))
  clear hb HA
  go_wp2_with fail
  refine (C2.out).mono ?_
  rintro e w2 ⟨sK, m, cK, rfl, hb, hI⟩
  have G2 := hide (Grow.trans' G1.out hb)
  have HA2 := hide (HA1.out.later hb)
  have HK2 := hide hI
  have hm : m ≤ n := by have h1 := hI.len; have h2 := keysR_len L; rw [HA1.out.1] at h2; omega
  clear hb hI HA1 G1 C2
  have O0 : Hid (OwnRV (w2.alloc (.cells #[] 24)) w2.heap.size (some ⟨w2.heap.size, 0, none⟩) 0 0 []) := hide (.of (OwnR.lit0 w2 _ (Nat.le_refl _)) rfl)
  have B0 : Hid (Grow w2 (w2.alloc (.cells #[] 24))) := hide (Grow.alloc' _ _)
  obtain ⟨K, hK⟩ : ∃ K, K = keysR L := ⟨_, rfl⟩
  have HKK := hide hK
  rw [← hK] at HK2
  clear hK
  have HLL : Hid (L.length = n) := hide HA2.out.1
  have HKL : Hid (K.length = m) := hide HK2.out.len
  go_wp2_with fail
  go_loopw [5, 6] (fun v i wr => ∃ (r : Nat) (sb : Option Addr) (mb cb : Nat), r ≤ n ∧ v = .slice sb mb cb ∧ i = .int .i64 ((r : Int) - 1) ∧ Grow w2 wr ∧ OwnRV wr w2.heap.size sb mb cb (L.drop r).reverse) (fun _ i _ => ((intOf i) + 1).toNat)
  case atStart =>
    refine ⟨n, _, _, _, Nat.le_refl _, rfl, by go_num, B0.out, ?_⟩
    rw [List.drop_of_length_le (by rw [HLL.out]; exact Nat.le_refl _)]
    exact O0.out
  case round =>
    obtain ⟨r, sb, mb, cb, hr, rfl, rfl, hg, hO⟩ := hrel
    have HG := hide hg
    have HO := hide hO
    have hsz := hg.size
    have hmb : mb ≤ 100 := by have h1 := hO.1; rw [List.length_reverse, List.length_drop, HLL.out] at h1; omega
    clear hO
    by_cases hr0 : r = 0
    · subst hr0
      have hr1 : ((0 : Nat) : Int) - 1 = -1 := rfl
      rw [hr1]
      have HB3 : Hid (IsRcs wr sb mb cb L.reverse) := hide (by have := HO.out.is; simpa using this)
      clear hr1 HO hg
      rename World => w3
      go_wp2_with fail
      go_loopw [9] (fun j wr => ∃ (k : Nat), k ≤ m ∧ j = .int .i64 k ∧ Grow w3 wr) (fun j _ => m - (intOf j).toNat)
      case atStart => exact ⟨0, Nat.zero_le _, rfl, Grow.rfl' _⟩
      case round =>
        obtain ⟨j, hj, rfl, hg⟩ := hrel
        have HGJ := hide hg
        clear hg
        by_cases hlt : j < m
        · have hjK : j < K.length := by rw [HKL.out]; exact hlt
          have hneK : ¬ K = [] := fun h => by rw [h] at hjK; simp at hjK
          obtain ⟨bk, ok, rfl, hrk⟩ := HK2.out.row.resolve_left hneK
          have RK := hide hrk
          obtain ⟨y, hy⟩ : ∃ y, y = K[j] := ⟨_, rfl⟩
          have HY := hide hy
          have hj1 : (0 : Int) ≤ (j : Int) := by omega
          have hj2 : (j : Int) < (m : Int) := by omega
          clear hneK hrk hy
          rename World => w4
          have G4 := hide (Grow.trans' HG.out HGJ.out)
          go_wp2_with fail
          go_loopw [10, 11] (fun v i wq => ∃ (k : Nat) (q : Bool), k ≤ n ∧ v = .bool q ∧ i = .int .i64 k ∧ Grow w4 wq ∧ (q = true ↔ FoundTo (L.map (·.k)) y k)) (fun _ i _ => n - (intOf i).toNat)
          case atStart => exact ⟨0, false, Nat.zero_le _, rfl, rfl, Grow.rfl' _, by simp [foundTo_zero]⟩
          case round =>
            obtain ⟨k, q, hk, rfl, rfl, hg, hq⟩ := hrel
            have HGK := hide hg
            have HQ := hide hq
            have HG5 := hide (Grow.trans' G4.out hg)
            clear hq hg
            by_cases hlk : k < n
            · have hkL : k < L.length := by rw [HLL.out]; exact hlk
              have hne : ¬ L = [] := fun h => by rw [h] at hkL; simp at hkL
              obtain ⟨b0, o0, hs0, hrow⟩ := HA2.out.2.2.resolve_left hne
              subst hs0
              obtain ⟨p0, p1⟩ := (hrow.later HG5.out).at k hkL
              have q0 := cell_later HG5.out (RK.out j hjK)
              rw [← HY.out] at q0
              have HFS := hide (foundTo_succ (L.map (·.k)) y k (by simpa using hkL))
              rw [List.getElem_map] at HFS
              obtain ⟨x, hx⟩ : ∃ x, x = L[k] := ⟨_, rfl⟩
              rw [← hx] at p0 HFS
              have hk1 : (0 : Int) ≤ (k : Int) := by omega
              have hk2 : (k : Int) < (n : Int) := by omega
              clear hne hrow hx p1
              cases q
              all_goals
                go_wp2
                go_quiet (fail)
                have G6 := hide (Grow.trans' HGK.out (below_drewN (Below.refl _ _) nq))
                clear p0 q0
                generalize wr.drewN nq = wz at *
                go_wp2_with fail
                go_roundw
                case rel =>
                  refine ⟨k + 1, _, by omega, rfl, by go_num, G6.out, ?_⟩
                  rw [HFS.out, ← HQ.out]
                  first
                  | (simp; done)
                  | (simp; exact eq_comm)
                case measure => simp [intOf] <;> omega
            · have hqt : q = true := HQ.out.2 (by
                have hjK' := hjK
                have hK := HKK.out
                have hY := HY.out
                subst hK
                obtain ⟨i, hi, e⟩ := keys_of L j hjK
                exact ⟨i, by simpa using hi, by rw [HLL.out] at hi; omega, by rw [List.getElem_map, e, hY]⟩)
              subst hqt
              by_cases hj0 : j = 0
              · subst hj0
                go_wp2
                go_quiet (fail)
                have G6 := hide (Grow.trans' HGJ.out (Grow.trans' HGK.out (below_drewN (Below.refl _ _) nq)))
                generalize wr.drewN nq = wz at *
                go_wp2_with fail
                go_roundw
                case rel => exact ⟨1, by omega, by go_num, G6.out⟩
                case measure => simp [intOf] <;> omega
              · obtain ⟨i, hi⟩ : ∃ i, j = i + 1 := ⟨j - 1, by omega⟩
                have hiK : i < K.length := by omega
                obtain ⟨z, hz⟩ : ∃ z, z = K[i] := ⟨_, rfl⟩
                have hzy : z < y := by
                  have hK := HKK.out
                  have hY := HY.out
                  subst hK
                  subst hi
                  rw [hz, hY]
                  exact keys_up L i hjK
                have q0 := cell_later HG5.out (RK.out j hjK)
                rw [← HY.out] at q0
                have r0 := cell_later HG5.out (RK.out i hiK)
                rw [← hz] at r0
                have hi1 : (0 : Int) ≤ (i : Int) := by omega
                have hi2 : (i : Int) < (m : Int) := by omega
                have hji : (j : Int) - 1 = (i : Int) := by omega
                have hd1 : decide ((0 : Int) < (j : Int)) = true := by simp; omega
                have hd2 : decide (0 < j) = true := by simp; omega
                have hd3 : 0 < j := by omega
                have hge : decide (y ≤ z) = false := by simp; omega
                clear hz hi hj0
                go_wp2
                go_quiet (fail)
                have G6 := hide (Grow.trans' HGJ.out (Grow.trans' HGK.out (below_drewN (Below.refl _ _) nq)))
                clear q0 r0
                generalize wr.drewN nq = wz at *
                go_wp2_with fail
                go_roundw
                case rel => exact ⟨j + 1, by omega, by go_num, G6.out⟩
                case measure => simp [intOf] <;> omega
        · have G4 := hide (Grow.trans' HG.out HGJ.out)
          have C5 := hide (sort_at s n cap L wr (by omega) (HA2.out.later G4.out))
          have HB4 := hide (HB3.out.later HGJ.out)
          clear HGJ
          go_wp2_with fail
          refine (C5.out).mono ?_
          rintro e w5 ⟨s5, c5, rfl, hb, hI⟩
          have G5 := hide (Grow.trans' G4.out hb)
          obtain ⟨S, hS⟩ : ∃ S, S = srt L := ⟨_, rfl⟩
          have HS := hide hS
          rw [← hS] at hI
          have S5 := hide hI
          have hmb2 : mb = n := by have := HB4.out.1; rw [List.length_reverse, HLL.out] at this; exact this.symm
          subst mb
          have C6 := hide (sort_at sb n cb L.reverse w5 (by omega) (HB4.out.later hb))
          rw [(srt_eq_iff _ _).2 (List.reverse_perm L), ← hS] at C6
          clear hb hI hS C5
          go_wp2_with fail
          refine (C6.out).mono ?_
          rintro e w6 ⟨s6, c6, rfl, hb, hI⟩
          have G6 := hide (Grow.trans' G5.out hb)
          have S6 := hide (S5.out.later hb)
          have T6 := hide hI
          have hSL : S.length = n := S5.out.1
          clear hb hI C6 S5
          go_wp2_with fail
          go_loopw [14] (fun i wr => ∃ (k : Nat), k ≤ n ∧ i = .int .i64 k ∧ Grow w6 wr) (fun i _ => n - (intOf i).toNat)
          case atStart => exact ⟨0, Nat.zero_le _, rfl, Grow.rfl' _⟩
          case round =>
            obtain ⟨k, hk, rfl, hg⟩ := hrel
            have HG7 := hide hg
            by_cases hlk : k < n
            · have hkS : k < S.length := by rw [hSL]; exact hlk
              have hneS : ¬ S = [] := fun h => by rw [h] at hkS; simp at hkS
              obtain ⟨b5, o5, hs5, hr5⟩ := S6.out.2.2.resolve_left hneS
              obtain ⟨b6, o6, hs6, hr6⟩ := T6.out.2.2.resolve_left hneS
              subst hs5
              subst hs6
              obtain ⟨p0, p1⟩ := (hr5.later hg).at k hkS
              obtain ⟨q0, q1⟩ := (hr6.later hg).at k hkS
              obtain ⟨x, hx⟩ : ∃ x, x = S[k] := ⟨_, rfl⟩
              rw [← hx] at p0 p1 q0 q1
              have hxx : eqR x x = true := by simp [eqR]
              have hk1 : (0 : Int) ≤ (k : Int) := by omega
              have hk2 : (k : Int) < (n : Int) := by omega
              have s0 := cell_regrown p0; have s1 := cell_regrown p1
              have u0 := cell_regrown q0; have u1 := cell_regrown q1
              by_cases hk0 : k = 0
              · have hd1 : decide ((0 : Int) < (k : Int)) = false := by simp; omega
                have hd2 : decide (0 < k) = false := by simp; omega
                have hd3 : ¬ 0 < k := by omega
                clear hx hneS hr5 hr6 hg hk0
                go_wp2
                refine wp_region_quiet_below (by kernel_rfl) (by kernel_rfl) ?_
                repeat (go_big_quiet_step (fail))
                refine wpQuiet_nil ?_
                intro _ hw'
                obtain ⟨⟨dq, osq⟩, hw''⟩ := hw'
                subst hw''
                have G8 := hide (Grow.trans' HG7.out (below_regrown wr dq osq))
                clear s0 s1 u0 u1 p0 p1 q0 q1
                generalize grow (redrawn wr dq) osq = w8 at *
                go_wp2_with fail
                go_roundw
                case rel => exact ⟨k + 1, by omega, by go_num, G8.out⟩
                case measure => simp [intOf] <;> omega
              · obtain ⟨j, hj⟩ : ∃ j, k = j + 1 := ⟨k - 1, by omega⟩
                have hjS : j < S.length := by omega
                obtain ⟨z, hz⟩ : ∃ z, z = S[j] := ⟨_, rfl⟩
                obtain ⟨q, hq⟩ : ∃ q, q = ordR z x := ⟨_, rfl⟩
                have hq0 : q ≤ 0 := by
                  have h2 := HS.out
                  subst h2
                  subst hj
                  rw [hq, hz, hx]
                  exact srt_up L j hkS
                obtain ⟨r0, r1⟩ := (hr5.later hg).at j hjS
                rw [← hz] at r0 r1
                have v0 := cell_regrown r0; have v1 := cell_regrown r1
                have cO := fun dd os => Calls.regrown_of (order_any z x (grow (redrawn wr dd) os))
                rw [← hq] at cO
                have CO := hide cO
                have hj1 : (0 : Int) ≤ (j : Int) := by omega
                have hj2 : (j : Int) < (n : Int) := by omega
                have hji : (k : Int) - 1 = (j : Int) := by omega
                have hd1 : decide ((0 : Int) < (k : Int)) = true := by simp; omega
                have hd2 : decide (0 < k) = true := by simp; omega
                have hd3 : 0 < k := by omega
                have hqd : decide (0 < q) = false := by simp; omega
                clear hz hx hq hj hk0 hneS hr5 hr6 hg cO hq0
                go_wp2
                refine wp_region_quiet_below (by kernel_rfl) (by kernel_rfl) ?_
                repeat (go_big_quiet_step (exact CO.out _ _))
                refine wpQuiet_nil ?_
                intro _ hw'
                obtain ⟨⟨dq, osq⟩, hw''⟩ := hw'
                subst hw''
                have G8 := hide (Grow.trans' HG7.out (below_regrown wr dq osq))
                clear s0 s1 u0 u1 p0 p1 q0 q1 v0 v1 r0 r1 CO
                generalize grow (redrawn wr dq) osq = w8 at *
                go_wp2_with fail
                go_roundw
                case rel => exact ⟨k + 1, by omega, by go_num, G8.out⟩
                case measure => simp [intOf] <;> omega
            · have G9 := hide (Grow.trans' G2.out (Grow.trans' G6.out hg))
              clear hg
              go_wp2_with fail
              go_ret
              exact ⟨rfl, G9.out⟩
    · obtain ⟨i, rfl⟩ : ∃ i, r = i + 1 := ⟨r - 1, by omega⟩
      have hiL : i < L.length := by rw [HLL.out]; omega
      have hne : ¬ L = [] := fun h => by rw [h] at hiL; simp at hiL
      obtain ⟨b0, o0, hs0, hrow⟩ := HA2.out.2.2.resolve_left hne
      subst hs0
      have RL := hide hrow
      obtain ⟨p0, p1⟩ := (hrow.later hg).at i hiL
      obtain ⟨x, hx⟩ : ∃ x, x = L[i] := ⟨_, rfl⟩
      rw [← hx] at p0 p1
      have HX := hide hx
      have HBS := hide (back_step L i hiL)
      rw [← hx] at HBS
      have hri : ((i + 1 : Nat) : Int) - 1 = (i : Int) := by omega
      rw [hri]
      have hi1 : (0 : Int) ≤ (i : Int) := by omega
      have hi2 : (i : Int) < (n : Int) := by omega
      have R1 : Hid (IsRcs (wr.alloc (.cells #[.int .i64 x.k, .int .i64 x.v] 24)) (some ⟨wr.heap.size, 0, none⟩) 1 1 [x]) := hide ⟨rfl, Nat.le_refl _, .inr ⟨_, _, rfl, RowR_one _ x⟩⟩
      clear hne hrow hx hri hg
      go_wp2_with (at_builtin; refine wpList_apd_rc rfl _ _ rfl w2.heap.size sb mb cb (L.drop (i + 1)).reverse [x] rfl (HO.out.later (Grow.alloc' _ _)) (some ⟨wr.heap.size, 0, none⟩) 1 1 rfl R1.out (by omega) (by simp; omega) ?_)
      intro s3 c3 w3 h3 gb
      have G3 := hide (gb.grow (Grow.trans' HG.out (Grow.alloc' _ _)) (Nat.le_refl _))
      have O3 : Hid (OwnRV w3 w2.heap.size s3 (mb + 1) c3 (L.drop i).reverse) := hide (by rw [← HBS.out]; exact h3)
      clear h3 gb p0 p1 HO HG R1
      go_wp2_with fail
      go_loopw [7, 8] (fun v j wq => ∃ (k : Nat) (q : Bool), k ≤ m ∧ v = .bool q ∧ j = .int .i64 k ∧ Grow w3 wq ∧ (q = true ↔ FoundTo K x.k k)) (fun _ j _ => m - (intOf j).toNat)
      case atStart => exact ⟨0, false, Nat.zero_le _, rfl, rfl, Grow.rfl' _, by simp [foundTo_zero]⟩
      case round =>
        obtain ⟨k, q, hk, rfl, rfl, hg, hq⟩ := hrel
        have HG := hide hg
        have HQ := hide hq
        clear hq
        have HG2 := hide (Grow.trans' G3.out hg)
        by_cases hlt : k < m
        · have hkK : k < K.length := by rw [HKL.out]; exact hlt
          have hneK : ¬ K = [] := fun h => by rw [h] at hkK; simp at hkK
          obtain ⟨bk, ok, rfl, hrk⟩ := HK2.out.row.resolve_left hneK
          have q0 := cell_later HG2.out (hrk k hkK)
          obtain ⟨p0, p1⟩ := (RL.out.later HG2.out).at i hiL
          rw [← HX.out] at p0 p1
          have HFS := hide (foundTo_succ K x.k k hkK)
          obtain ⟨y, hy⟩ : ∃ y, y = K[k] := ⟨_, rfl⟩
          rw [← hy] at q0 HFS
          have hk1 : (0 : Int) ≤ (k : Int) := by omega
          have hk2 : (k : Int) < (m : Int) := by omega
          clear hneK hrk hy hg p1
          cases q
          · go_wp2
            go_quiet (fail)
            have G4 := hide (Grow.trans' HG.out (below_drewN (Below.refl _ _) nq))
            clear p0 q0
            generalize wr.drewN nq = wz at *
            go_wp2_with fail
            go_roundw
            case rel =>
              refine ⟨k + 1, _, by omega, rfl, by go_num, G4.out, ?_⟩
              rw [HFS.out, ← HQ.out]
              simp
            case measure => simp [intOf] <;> omega
          · go_wp2
            go_quiet (fail)
            have G4 := hide (Grow.trans' HG.out (below_drewN (Below.refl _ _) nq))
            clear p0 q0
            generalize wr.drewN nq = wz at *
            go_wp2_with fail
            go_roundw
            case rel =>
              refine ⟨k + 1, _, by omega, rfl, by go_num, G4.out, ?_⟩
              rw [HFS.out, ← HQ.out]
              simp
            case measure => simp [intOf] <;> omega
        · have hqt : q = true := HQ.out.2 (by
            obtain ⟨j, hj, e⟩ := keys_found L i hiL
            have hK := HKK.out
            subst hK
            exact ⟨j, hj, by rw [HKL.out] at hj; omega, by rw [e, ← HX.out]⟩)
          subst hqt
          clear hg
          go_wp2_with fail
          go_roundw
          case rel => exact ⟨i, s3, mb + 1, c3, by omega, rfl, by go_num, HG2.out, O3.out.later HG.out⟩
          case measure => simp [intOf] <;> omega
set_option maxHeartbeats 8000000 in
theorem BagKeys_h (ba oa : Nat) (n cap : Nat) (L : List Rc) (w : World) (hn : (100 : Int) < (n : Int))
    (hcA : (100 : Int) ≤ (cap : Int) ∨ n ≤ 100) (hA : IsRcs w (some ⟨ba, oa, none⟩) 100 cap L) :
    Calls Try.prog 7 #[.slice (some ⟨ba, oa, none⟩) n cap] w fun e w' => e = .returned (.bool true) ∧ Grow w w' := by
  have HA := hide hA
  have hc1 : (100 : Int) ≤ (cap : Int) := by omega
  clear hA hcA
  go_enter Try.func7, Try.ntmps7
  go_wp2_with fail
  refine (shown_any _).mono ?_
  rintro e w1 ⟨rfl, hb⟩
  have G1 := hide hb
  have HA1 := hide (HA.out.later hb)
  have C2 := hide (keys_at (some ⟨ba, oa, none⟩) 100 cap L w1 (by omega) (HA.out.later hb))
  clear hb HA
  go_wp2_with fail
  refine (C2.out).mono ?_
  rintro e w2 ⟨sK, m, cK, rfl, hb, hI⟩
  have G2 := hide (Grow.trans' G1.out hb)
  have HA2 := hide (HA1.out.later hb)
  have HK2 := hide hI
  have hm : m ≤ 100 := by have h1 := hI.len; have h2 := keysR_len L; rw [HA1.out.1] at h2; omega
  clear hb hI HA1 G1 C2
  have O0 : Hid (OwnRV (w2.alloc (.cells #[] 24)) w2.heap.size (some ⟨w2.heap.size, 0, none⟩) 0 0 []) := hide (.of (OwnR.lit0 w2 _ (Nat.le_refl _)) rfl)
  have B0 : Hid (Grow w2 (w2.alloc (.cells #[] 24))) := hide (Grow.alloc' _ _)
  obtain ⟨K, hK⟩ : ∃ K, K = keysR L := ⟨_, rfl⟩
  have HKK := hide hK
  rw [← hK] at HK2
  clear hK
  have HLL : Hid (L.length = 100) := hide HA2.out.1
  have HKL : Hid (K.length = m) := hide HK2.out.len
  go_wp2_with fail
  go_loopw [5, 6] (fun v i wr => ∃ (r : Nat) (sb : Option Addr) (mb cb : Nat), r ≤ 100 ∧ v = .slice sb mb cb ∧ i = .int .i64 ((r : Int) - 1) ∧ Grow w2 wr ∧ OwnRV wr w2.heap.size sb mb cb (L.drop r).reverse) (fun _ i _ => ((intOf i) + 1).toNat)
  case atStart =>
    refine ⟨100, _, _, _, Nat.le_refl _, rfl, by go_num, B0.out, ?_⟩
    rw [List.drop_of_length_le (by rw [HLL.out]; exact Nat.le_refl _)]
    exact O0.out
  case round =>
    obtain ⟨r, sb, mb, cb, hr, rfl, rfl, hg, hO⟩ := hrel
    have HG := hide hg
    have HO := hide hO
    have hsz := hg.size
    have hmb : mb ≤ 100 := by have h1 := hO.1; rw [List.length_reverse, List.length_drop, HLL.out] at h1; omega
    clear hO
    by_cases hr0 : r = 0
    · subst hr0
      have hr1 : ((0 : Nat) : Int) - 1 = -1 := rfl
      rw [hr1]
      have HB3 : Hid (IsRcs wr sb mb cb L.reverse) := hide (by have := HO.out.is; simpa using this)
      clear hr1 HO hg
      rename World => w3
      go_wp2_with fail
      go_loopw [9] (fun j wr => ∃ (k : Nat), k ≤ m ∧ j = .int .i64 k ∧ Grow w3 wr) (fun j _ => m - (intOf j).toNat)
      case atStart => exact ⟨0, Nat.zero_le _, rfl, Grow.rfl' _⟩
      case round =>
        obtain ⟨j, hj, rfl, hg⟩ := hrel
        have HGJ := hide hg
        clear hg
        by_cases hlt : j < m
        · have hjK : j < K.length := by rw [HKL.out]; exact hlt
          have hneK : ¬ K = [] := fun h => by rw [h] at hjK; simp at hjK
          obtain ⟨bk, ok, rfl, hrk⟩ := HK2.out.row.resolve_left hneK
          have RK := hide hrk
          obtain ⟨y, hy⟩ : ∃ y, y = K[j] := ⟨_, rfl⟩
          have HY := hide hy
          have hj1 : (0 : Int) ≤ (j : Int) := by omega
          have hj2 : (j : Int) < (m : Int) := by omega
          clear hneK hrk hy
          rename World => w4
          have G4 := hide (Grow.trans' HG.out HGJ.out)
          go_wp2_with fail
          go_loopw [10, 11] (fun v i wq => ∃ (k : Nat) (q : Bool), k ≤ 100 ∧ v = .bool q ∧ i = .int .i64 k ∧ Grow w4 wq ∧ (q = true ↔ FoundTo (L.map (·.k)) y k)) (fun _ i _ => 100 - (intOf i).toNat)
          case atStart => exact ⟨0, false, Nat.zero_le _, rfl, rfl, Grow.rfl' _, by simp [foundTo_zero]⟩
          case round =>
            obtain ⟨k, q, hk, rfl, rfl, hg, hq⟩ := hrel
            have HGK := hide hg
            have HQ := hide hq
            have HG5 := hide (Grow.trans' G4.out hg)
            clear hq hg
            by_cases hlk : k < 100
            · have hkL : k < L.length := by rw [HLL.out]; exact hlk
              have hne : ¬ L = [] := fun h => by rw [h] at hkL; simp at hkL
              obtain ⟨b0, o0, hs0, hrow⟩ := HA2.out.2.2.resolve_left hne
              obtain ⟨rfl, rfl⟩ : ba = b0 ∧ oa = o0 := by cases hs0; exact ⟨rfl, rfl⟩
              obtain ⟨p0, p1⟩ := (hrow.later HG5.out).at k hkL
              have q0 := cell_later HG5.out (RK.out j hjK)
              rw [← HY.out] at q0
              have HFS := hide (foundTo_succ (L.map (·.k)) y k (by simpa using hkL))
              rw [List.getElem_map] at HFS
              obtain ⟨x, hx⟩ : ∃ x, x = L[k] := ⟨_, rfl⟩
              rw [← hx] at p0 HFS
              have hk1 : (0 : Int) ≤ (k : Int) := by omega
              have hk2 : (k : Int) < (100 : Int) := by omega
              clear hne hrow hx p1
              cases q
              all_goals
                go_wp2
                go_quiet (fail)
                have G6 := hide (Grow.trans' HGK.out (below_drewN (Below.refl _ _) nq))
                clear p0 q0
                generalize wr.drewN nq = wz at *
                go_wp2_with fail
                go_roundw
                case rel =>
                  refine ⟨k + 1, _, by omega, rfl, by go_num, G6.out, ?_⟩
                  rw [HFS.out, ← HQ.out]
                  first
                  | (simp; done)
                  | (simp; exact eq_comm)
                case measure => simp [intOf] <;> omega
            · have hqt : q = true := HQ.out.2 (by
                have hjK' := hjK
                have hK := HKK.out
                have hY := HY.out
                subst hK
                obtain ⟨i, hi, e⟩ := keys_of L j hjK
                exact ⟨i, by simpa using hi, by rw [HLL.out] at hi; omega, by rw [List.getElem_map, e, hY]⟩)
              subst hqt
              by_cases hj0 : j = 0
              · subst hj0
                go_wp2
                go_quiet (fail)
                have G6 := hide (Grow.trans' HGJ.out (Grow.trans' HGK.out (below_drewN (Below.refl _ _) nq)))
                generalize wr.drewN nq = wz at *
                go_wp2_with fail
                go_roundw
                case rel => exact ⟨1, by omega, by go_num, G6.out⟩
                case measure => simp [intOf] <;> omega
              · obtain ⟨i, hi⟩ : ∃ i, j = i + 1 := ⟨j - 1, by omega⟩
                have hiK : i < K.length := by omega
                obtain ⟨z, hz⟩ : ∃ z, z = K[i] := ⟨_, rfl⟩
                have hzy : z < y := by
                  have hK := HKK.out
                  have hY := HY.out
                  subst hK
                  subst hi
                  rw [hz, hY]
                  exact keys_up L i hjK
                have q0 := cell_later HG5.out (RK.out j hjK)
                rw [← HY.out] at q0
                have r0 := cell_later HG5.out (RK.out i hiK)
                rw [← hz] at r0
                have hi1 : (0 : Int) ≤ (i : Int) := by omega
                have hi2 : (i : Int) < (m : Int) := by omega
                have hji : (j : Int) - 1 = (i : Int) := by omega
                have hd1 : decide ((0 : Int) < (j : Int)) = true := by simp; omega
                have hd2 : decide (0 < j) = true := by simp; omega
                have hd3 : 0 < j := by omega
                have hge : decide (y ≤ z) = false := by simp; omega
                clear hz hi hj0
                go_wp2
                go_quiet (fail)
                have G6 := hide (Grow.trans' HGJ.out (Grow.trans' HGK.out (below_drewN (Below.refl _ _) nq)))
                clear q0 r0
                generalize wr.drewN nq = wz at *
                go_wp2_with fail
                go_roundw
                case rel => exact ⟨j + 1, by omega, by go_num, G6.out⟩
                case measure => simp [intOf] <;> omega
        · have G4 := hide (Grow.trans' HG.out HGJ.out)
          have C5 := hide (sort_at (some ⟨ba, oa, none⟩) 100 cap L wr (by omega) (HA2.out.later G4.out))
          have HB4 := hide (HB3.out.later HGJ.out)
          clear HGJ
          go_wp2_with fail
          refine (C5.out).mono ?_
          rintro e w5 ⟨s5, c5, rfl, hb, hI⟩
          have G5 := hide (Grow.trans' G4.out hb)
          obtain ⟨S, hS⟩ : ∃ S, S = srt L := ⟨_, rfl⟩
          have HS := hide hS
          rw [← hS] at hI
          have S5 := hide hI
          have hmb2 : mb = 100 := by have := HB4.out.1; rw [List.length_reverse, HLL.out] at this; exact this.symm
          subst mb
          have C6 := hide (sort_at sb 100 cb L.reverse w5 (by omega) (HB4.out.later hb))
          rw [(srt_eq_iff _ _).2 (List.reverse_perm L), ← hS] at C6
          clear hb hI hS C5
          go_wp2_with fail
          refine (C6.out).mono ?_
          rintro e w6 ⟨s6, c6, rfl, hb, hI⟩
          have G6 := hide (Grow.trans' G5.out hb)
          have S6 := hide (S5.out.later hb)
          have T6 := hide hI
          have hSL : S.length = 100 := S5.out.1
          clear hb hI C6 S5
          go_wp2_with fail
          go_loopw [14] (fun i wr => ∃ (k : Nat), k ≤ 100 ∧ i = .int .i64 k ∧ Grow w6 wr) (fun i _ => 100 - (intOf i).toNat)
          case atStart => exact ⟨0, Nat.zero_le _, rfl, Grow.rfl' _⟩
          case round =>
            obtain ⟨k, hk, rfl, hg⟩ := hrel
            have HG7 := hide hg
            by_cases hlk : k < 100
            · have hkS : k < S.length := by rw [hSL]; exact hlk
              have hneS : ¬ S = [] := fun h => by rw [h] at hkS; simp at hkS
              obtain ⟨b5, o5, hs5, hr5⟩ := S6.out.2.2.resolve_left hneS
              obtain ⟨b6, o6, hs6, hr6⟩ := T6.out.2.2.resolve_left hneS
              subst hs5
              subst hs6
              obtain ⟨p0, p1⟩ := (hr5.later hg).at k hkS
              obtain ⟨q0, q1⟩ := (hr6.later hg).at k hkS
              obtain ⟨x, hx⟩ : ∃ x, x = S[k] := ⟨_, rfl⟩
              rw [← hx] at p0 p1 q0 q1
              have hxx : eqR x x = true := by simp [eqR]
              have hk1 : (0 : Int) ≤ (k : Int) := by omega
              have hk2 : (k : Int) < (100 : Int) := by omega
              have s0 := cell_regrown p0; have s1 := cell_regrown p1
              have u0 := cell_regrown q0; have u1 := cell_regrown q1
              by_cases hk0 : k = 0
              · have hd1 : decide ((0 : Int) < (k : Int)) = false := by simp; omega
                have hd2 : decide (0 < k) = false := by simp; omega
                have hd3 : ¬ 0 < k := by omega
                clear hx hneS hr5 hr6 hg hk0
                go_wp2
                refine wp_region_quiet_below (by kernel_rfl) (by kernel_rfl) ?_
                repeat (go_big_quiet_step (fail))
                refine wpQuiet_nil ?_
                intro _ hw'
                obtain ⟨⟨dq, osq⟩, hw''⟩ := hw'
                subst hw''
                have G8 := hide (Grow.trans' HG7.out (below_regrown wr dq osq))
                clear s0 s1 u0 u1 p0 p1 q0 q1
                generalize grow (redrawn wr dq) osq = w8 at *
                go_wp2_with fail
                go_roundw
                case rel => exact ⟨k + 1, by omega, by go_num, G8.out⟩
                case measure => simp [intOf] <;> omega
              · obtain ⟨j, hj⟩ : ∃ j, k = j + 1 := ⟨k - 1, by omega⟩
                have hjS : j < S.length := by omega
                obtain ⟨z, hz⟩ : ∃ z, z = S[j] := ⟨_, rfl⟩
                obtain ⟨q, hq⟩ : ∃ q, q = ordR z x := ⟨_, rfl⟩
                have hq0 : q ≤ 0 := by
                  have h2 := HS.out
                  subst h2
                  subst hj
                  rw [hq, hz, hx]
                  exact srt_up L j hkS
                obtain ⟨r0, r1⟩ := (hr5.later hg).at j hjS
                rw [← hz] at r0 r1
                have v0 := cell_regrown r0; have v1 := cell_regrown r1
                have cO := fun dd os => Calls.regrown_of (order_any z x (grow (redrawn wr dd) os))
                rw [← hq] at cO
                have CO := hide cO
                have hj1 : (0 : Int) ≤ (j : Int) := by omega
                have hj2 : (j : Int) < (100 : Int) := by omega
                have hji : (k : Int) - 1 = (j : Int) := by omega
                have hd1 : decide ((0 : Int) < (k : Int)) = true := by simp; omega
                have hd2 : decide (0 < k) = true := by simp; omega
                have hd3 : 0 < k := by omega
                have hqd : decide (0 < q) = false := by simp; omega
                clear hz hx hq hj hk0 hneS hr5 hr6 hg cO hq0
                go_wp2
                refine wp_region_quiet_below (by kernel_rfl) (by kernel_rfl) ?_
                repeat (go_big_quiet_step (exact CO.out _ _))
                refine wpQuiet_nil ?_
                intro _ hw'
                obtain ⟨⟨dq, osq⟩, hw''⟩ := hw'
                subst hw''
                have G8 := hide (Grow.trans' HG7.out (below_regrown wr dq osq))
                clear s0 s1 u0 u1 p0 p1 q0 q1 v0 v1 r0 r1 CO
                generalize grow (redrawn wr dq) osq = w8 at *
                go_wp2_with fail
                go_roundw
                case rel => exact ⟨k + 1, by omega, by go_num, G8.out⟩
                case measure => simp [intOf] <;> omega
            · have G9 := hide (Grow.trans' G2.out (Grow.trans' G6.out hg))
              clear hg
              go_wp2_with fail
              go_ret
              exact ⟨rfl, G9.out⟩
    · obtain ⟨i, rfl⟩ : ∃ i, r = i + 1 := ⟨r - 1, by omega⟩
      have hiL : i < L.length := by rw [HLL.out]; omega
      have hne : ¬ L = [] := fun h => by rw [h] at hiL; simp at hiL
      obtain ⟨b0, o0, hs0, hrow⟩ := HA2.out.2.2.resolve_left hne
      obtain ⟨rfl, rfl⟩ : ba = b0 ∧ oa = o0 := by cases hs0; exact ⟨rfl, rfl⟩
      have RL := hide hrow
      obtain ⟨p0, p1⟩ := (hrow.later hg).at i hiL
      obtain ⟨x, hx⟩ : ∃ x, x = L[i] := ⟨_, rfl⟩
      rw [← hx] at p0 p1
      have HX := hide hx
      have HBS := hide (back_step L i hiL)
      rw [← hx] at HBS
      have hri : ((i + 1 : Nat) : Int) - 1 = (i : Int) := by omega
      rw [hri]
      have hi1 : (0 : Int) ≤ (i : Int) := by omega
      have hi2 : (i : Int) < (100 : Int) := by omega
      have R1 : Hid (IsRcs (wr.alloc (.cells #[.int .i64 x.k, .int .i64 x.v] 24)) (some ⟨wr.heap.size, 0, none⟩) 1 1 [x]) := hide ⟨rfl, Nat.le_refl _, .inr ⟨_, _, rfl, RowR_one _ x⟩⟩
      clear hne hrow hx hri hg
      go_wp2_with (at_builtin; refine wpList_apd_rc rfl _ _ rfl w2.heap.size sb mb cb (L.drop (i + 1)).reverse [x] rfl (HO.out.later (Grow.alloc' _ _)) (some ⟨wr.heap.size, 0, none⟩) 1 1 rfl R1.out (by omega) (by simp; omega) ?_)
      intro s3 c3 w3 h3 gb
      have G3 := hide (gb.grow (Grow.trans' HG.out (Grow.alloc' _ _)) (Nat.le_refl _))
      have O3 : Hid (OwnRV w3 w2.heap.size s3 (mb + 1) c3 (L.drop i).reverse) := hide (by rw [← HBS.out]; exact h3)
      clear h3 gb p0 p1 HO HG R1
      go_wp2_with fail
      go_loopw [7, 8] (fun v j wq => ∃ (k : Nat) (q : Bool), k ≤ m ∧ v = .bool q ∧ j = .int .i64 k ∧ Grow w3 wq ∧ (q = true ↔ FoundTo K x.k k)) (fun _ j _ => m - (intOf j).toNat)
      case atStart => exact ⟨0, false, Nat.zero_le _, rfl, rfl, Grow.rfl' _, by simp [foundTo_zero]⟩
      case round =>
        obtain ⟨k, q, hk, rfl, rfl, hg, hq⟩ := hrel
        have HG := hide hg
        have HQ := hide hq
        clear hq
        have HG2 := hide (Grow.trans' G3.out hg)
        by_cases hlt : k < m
        · have hkK : k < K.length := by rw [HKL.out]; exact hlt
          have hneK : ¬ K = [] := fun h => by rw [h] at hkK; simp at hkK
          obtain ⟨bk, ok, rfl, hrk⟩ := HK2.out.row.resolve_left hneK
          have q0 := cell_later HG2.out (hrk k hkK)
          obtain ⟨p0, p1⟩ := (RL.out.later HG2.out).at i hiL
          rw [← HX.out] at p0 p1
          have HFS := hide (foundTo_succ K x.k k hkK)
          obtain ⟨y, hy⟩ : ∃ y, y = K[k] := ⟨_, rfl⟩
          rw [← hy] at q0 HFS
          have hk1 : (0 : Int) ≤ (k : Int) := by omega
          have hk2 : (k : Int) < (m : Int) := by omega
          clear hneK hrk hy hg p1
          cases q
          · go_wp2
            go_quiet (fail)
            have G4 := hide (Grow.trans' HG.out (below_drewN (Below.refl _ _) nq))
            clear p0 q0
            generalize wr.drewN nq = wz at *
            go_wp2_with fail
            go_roundw
            case rel =>
              refine ⟨k + 1, _, by omega, rfl, by go_num, G4.out, ?_⟩
              rw [HFS.out, ← HQ.out]
              simp
            case measure => simp [intOf] <;> omega
          · go_wp2
            go_quiet (fail)
            have G4 := hide (Grow.trans' HG.out (below_drewN (Below.refl _ _) nq))
            clear p0 q0
            generalize wr.drewN nq = wz at *
            go_wp2_with fail
            go_roundw
            case rel =>
              refine ⟨k + 1, _, by omega, rfl, by go_num, G4.out, ?_⟩
              rw [HFS.out, ← HQ.out]
              simp
            case measure => simp [intOf] <;> omega
        · have hqt : q = true := HQ.out.2 (by
            obtain ⟨j, hj, e⟩ := keys_found L i hiL
            have hK := HKK.out
            subst hK
            exact ⟨j, hj, by rw [HKL.out] at hj; omega, by rw [e, ← HX.out]⟩)
          subst hqt
          clear hg
          go_wp2_with fail
          go_roundw
          case rel => exact ⟨i, s3, mb + 1, c3, by omega, rfl, by go_num, HG2.out, O3.out.later HG.out⟩
          case measure => simp [intOf] <;> omega

theorem cut_row {w : World} {s : Option Addr} {n cap : Nat} {d : List Rc} (h : IsRcs w s n cap d) (hn : 100 < n) : ∃ b o, s = some ⟨b, o, none⟩ ∧ IsRcs w (some ⟨b, o, none⟩) 100 cap (d.take 100) := by
  have hne : ¬ d = [] := fun e => by rw [e] at h; have := h.1; simp at this; omega
  have h2 := h.take' 100 (by omega)
  obtain ⟨b, o, rfl, _⟩ := h.2.2.resolve_left hne
  exact ⟨b, o, rfl, h2⟩
theorem BagKeys_any (s : Option Addr) (n cap : Nat) (d : List Rc) (w : World) (hd : IsRcs w s n cap d ∧ ∀ r ∈ d, RcWf r) :
    Calls Try.prog 7 #[.slice s n cap] w fun e w' => e = .returned (.bool true) ∧ Grow w w' := by
  have c1 := hd.1.2.1
  by_cases h1 : 100 < n
  · obtain ⟨ba, oa, rfl, hA⟩ := cut_row hd.1 h1
    exact BagKeys_h ba oa n cap _ w (by omega) (by omega) hA
  · exact BagKeys_l s n cap d w (by omega) (by omega) hd.1

set_option maxRecDepth 100000 in
theorem BagKeys_lifted (os : Os) (started : os.Started) (H : Type) (enc : TypeId × Value → H) :
    ReturnsInHanded {} Try.checked os 7 .any (Rows.bagKeysSpec.pre6 enc Try.prog Try.f7 Rows.bagKeysRow.domain false) (Rows.bagKeysSpec.post enc Try.prog Try.f7 false true false false) := by
  refine returnsInHanded_of_change (C := Try.checked) own started (by kernel_rfl) Try.func7
    (ChangeSpec.witness6 (enc := enc) (C := Try.checked) false ⟨#[], #[.slice none 0 0], []⟩ 8 (by kernel_rfl) (by kernel_rfl) (by kernel_rfl) (by kernel_rfl)) ?_
  intro W base args ds gs before hval0 hW hcnd _
  have hval : ∀ (j : Nat) t v, Try.f7.params[j]? = some t → args[j]? = some v → Value.okWide Try.prog W .any base t v := hval0
  have hW' := hW
  obtain ⟨p, q, hA0, hV, rfl, hfz, hnd⟩ := hW
  have hA : DataW.TrodAll enc Try.prog W 0 (fun _ => true) true Try.f7.params.toList args.toList ds p := hA0
  rw [Try.params7] at hA hval
  obtain ⟨v0, vs0, d0, ds0, p0, q0, hargs, rfl, rfl, h0, r0⟩ := trodAll_cons hA
  obtain ⟨rfl, rfl, rfl⟩ := trodAll_nil r0
  obtain rfl : args = #[v0] := by cases args; simp_all
  obtain ⟨rfl, rfl⟩ := trodVars_none hV
  have k0 := h0
  have lt0 : ∀ x ∈ p0, x.block < W.heap.size := by obtain ⟨m, hm⟩ := k0; exact DataW.trod_lt m _ _ _ hm
  obtain ⟨s0, len0, cap0, rfl⟩ := okWide_slice Try.underlying22 (hval 0 22 v0 rfl rfl)
  obtain ⟨z0, w0⟩ := rows_rcs h0
  clear hA0 hval0
  refine (BagKeys_any s0 len0 cap0 z0 W w0).mono fun e W' ⟨he, bel⟩ => ?_
  subst he
  exact ⟨_, rfl, _, _, _, [], _, [], hW', trodAll_mk1 (shut_bool Try.underlying4 _), (trodAll_cons_mk (Below.trod laidOut (by kernel_rfl) (of_decide_eq_true (by kernel_rfl)) k0 bel lt0) trodAll_mk0), rfl, bel.frame _, fun h => by cases h⟩

/-- The given statement. -/
theorem BagKeys_holds : Rows.BagKeysSaid :=
  OpenClaim.holds_of_wide 7 Try.f7 rfl rfl rfl rfl rfl rfl rfl ⟨rfl, rfl, rfl, rfl, rfl⟩ rfl rfl rfl rfl rfl (by kernel_rfl) Try.func7 (by kernel_rfl)
    (of_decide_eq_true (by kernel_rfl)) (by unfold Func.isWrapper; first | (rw [if_pos (by decide +kernel)]; kernel_rfl) | (rw [if_neg (by decide +kernel)]; exact ⟨rfl, rfl⟩))
    (fun os started H enc _ => BagKeys_lifted os started H enc)


end Go.Proofs.Ytkmgbhehhdjmlaa
