/-
  WindowHas: for every two numbers, every epoch and every window: a window is one of the epoch's just if the epoch stands between its first and its last one; each epoch has at least one, and not more than a by b, rounded up; just one, if a is b; where the numbers or the epoch may not be there are none; the call returns true and leaves its arguments as they were. No conditions.
-/
import Derived.Test.YtlnpemjamcpheaaWHd
import Derived.Sort.Grow
namespace Go.Proofs.Ytlnpemjamcpheaa
set_option maxRecDepth 100000
open Go.ChangeShapes Go.WideShapes Go.ChangeAt Go.RowKit Go.Deep Go.Sort
set_option linter.unusedVariables false
set_option linter.unusedSimpArgs false

theorem first_g (b k : Int) {z : Int} (hz : firstW b k = z) (w : World) :
    Calls Try.prog 17 #[.int .i64 b, .int .i64 k] w fun e w' => e = .returned (.int .i64 z) ∧ Grow w w' := (first_at b k hz w).mono fun e w' ⟨h, k⟩ => ⟨h, by rw [k]; exact Grow.rfl' _⟩
theorem last_g (a b k : Int) {z : Int} (hz : lastW a b k = z) (w : World) :
    Calls Try.prog 19 #[.int .i64 a, .int .i64 b, .int .i64 k] w fun e w' => e = .returned (.int .i64 z) ∧ Grow w w' := (last_at a b k hz w).mono fun e w' ⟨h, k⟩ => ⟨h, by rw [k]; exact Grow.rfl' _⟩
/-- Two numbers in their box. -/
def Box2 (w : World) (b : Nat) (x y : Int) : Prop := w.cell? ⟨b, 0, none⟩ = some (.int .i64 x) ∧ w.cell? ⟨b, 1, none⟩ = some (.int .i64 y)
theorem Box2.later {w w' : World} {b : Nat} {x y : Int} (hg : Grow w w') (h : Box2 w b x y) : Box2 w' b x y := ⟨cell_later hg h.1, cell_later hg h.2⟩
/-- What is said of each of the epoch's windows. -/
theorem of_each {a b e : Int} (hm : mayW a b = true) (he : inE e = true) (i : Nat) (h : i < (ofW a b e).length) :
    0 ≤ (ofW a b e)[i] ∧ firstW b (ofW a b e)[i] ≤ e ∧ e ≤ lastW a b (ofW a b e)[i] := by
  have hmem : (ofW a b e)[i] ∈ ofW a b e := List.getElem_mem h
  have hlo := lo_small hm he
  have hin := (ofW_mem hm he _).1 hmem
  obtain ⟨a1, a2, b1, b2⟩ := (mayW_iff a b).1 hm
  have hk := (le_hiW b1).2 hin.2.1
  have hi : inE (ofW a b e)[i] = true := by rw [inE_iff]; omega
  rw [firstW_in (may_step hm) hi, lastW_in hm hi]
  exact hin
/-- Which windows they are. -/
theorem of_has {a b e : Int} (hm : mayW a b = true) (he : inE e = true) (k : Int) :
    (inE k = true ∧ (k ∈ ofW a b e ↔ firstW b k ≤ e ∧ e ≤ lastW a b k) ∧ 0 ≤ firstW b k ∧ firstW b k ≤ 20971520 ∧ lastW a b k - firstW b k = a - 1) ∨ (firstW b k = -1 ∧ lastW a b k = -1 ∧ ¬ k ∈ ofW a b e) := by
  have hlo := lo_small hm he
  obtain ⟨a1, a2, b1, b2⟩ := (mayW_iff a b).1 hm
  by_cases hi : inE k = true
  · left
    have hk := (inE_iff k).1 hi
    have hs := mul_small b1 (by omega : b ≤ 20) hk.1 hk.2
    rw [firstW_in (may_step hm) hi, lastW_in hm hi]
    refine ⟨hi, ?_, by omega, by omega, by omega⟩
    rw [ofW_mem hm he]
    constructor
    · exact fun h => h.2
    · exact fun h => ⟨hk.1, h⟩
  · right
    refine ⟨firstW_out (by intro h; exact hi h.2), lastW_out (by intro h; exact hi h.2), fun h => hi ?_⟩
    have hin := (ofW_mem hm he k).1 h
    have hk := (le_hiW b1).2 hin.2.1
    rw [inE_iff]
    omega
set_option maxHeartbeats 8000000 in
theorem WindowHas_any (a b e k : Int) (w : World) :
    Calls Try.prog 5 #[.int .i64 a, .int .i64 b, .agg #[.int .i64 e, .int .i64 k]] w fun r w' => r = .returned (.bool true) ∧ Grow w w' := by
  have G0 : Hid (Grow w (w.alloc (.cells #[.int .i64 e, .int .i64 k] 30))) := hide (Grow.alloc' _ _)
  have K0 : Hid (Box2 (w.alloc (.cells #[.int .i64 e, .int .i64 k] 30)) w.heap.size e k) := hide (by simp [Box2, go_sem])
  obtain ⟨p, hp⟩ : ∃ p, mayW a b = p := ⟨_, rfl⟩
  have C0 := hide (fun w => may_at a b hp w)
  have HP := hide hp
  clear hp
  go_enter Try.func5, Try.ntmps5
  go_wp2_with fail
  generalize w.alloc (.cells #[.int .i64 e, .int .i64 k] 30) = w0 at *
  generalize w.heap.size = P at *
  refine (shown_any _).mono ?_
  rintro _ w1 ⟨rfl, hb⟩
  have G1 := hide (Grow.trans' G0.out hb)
  obtain ⟨p0, p1⟩ := K0.out.later hb
  clear hb G0 K0
  have C1 := hide (of_at a b e w1)
  have hN := many_le a b e
  go_wp2_with fail
  clear p0 p1
  refine (C1.out).mono ?_
  rintro _ w2 ⟨s, n, c, rfl, hb, hO⟩
  have G2 := hide (Grow.trans' G1.out hb)
  have I2 := hide hO.is
  have hn : n ≤ 20 := by rw [← hO.1, ofW_len]; exact hN
  have HNn := hide (show n = manyW a b e by rw [← hO.1, ofW_len])
  clear hb hO C1 G1 hN
  go_wp2_with fail
  refine (C0.out _).mono ?_
  rintro _ w3 ⟨rfl, rfl⟩
  cases p
  · have HN := hide (show ofW a b e = [] from ofW_none (by rw [HP.out]; simp))
    have hn0 : n = 0 := by rw [← I2.out.len, HN.out]; rfl
    subst hn0
    have C2 := hide (fun w => last_at a b k (lastW_out (by rw [HP.out]; simp)) w)
    go_wp2_with fail
    refine (C0.out _).mono ?_
    rintro _ w3 ⟨rfl, rfl⟩
    go_wp2_with fail
    refine (C2.out _).mono ?_
    rintro _ w3 ⟨rfl, rfl⟩
    go_wp2_with fail
    go_ret
    exact ⟨rfl, G2.out⟩
  have hc : e < 0 ∨ (¬ e < 0 ∧ 1048576 < e) ∨ (¬ e < 0 ∧ ¬ 1048576 < e) := by omega
  rcases hc with h1 | ⟨h1, h2⟩ | ⟨h1, h2⟩
  · have HN := hide (show ofW a b e = [] from ofW_none (by rw [inE_iff]; omega))
    have hn0 : n = 0 := by rw [← I2.out.len, HN.out]; rfl
    subst hn0
    go_wp2_with fail
    refine (C0.out _).mono ?_
    rintro _ w3 ⟨rfl, rfl⟩
    go_wp2_with fail
    go_ret
    exact ⟨rfl, G2.out⟩
  · have HN := hide (show ofW a b e = [] from ofW_none (by rw [inE_iff]; omega))
    have hn0 : n = 0 := by rw [← I2.out.len, HN.out]; rfl
    subst hn0
    go_wp2_with fail
    refine (C0.out _).mono ?_
    rintro _ w3 ⟨rfl, rfl⟩
    go_wp2_with fail
    go_ret
    exact ⟨rfl, G2.out⟩
  have he : inE e = true := by rw [inE_iff]; omega
  have HA := hide (And.intro (of_has HP.out he k) (And.intro (manyW_pos HP.out he) (manyW_le HP.out he)))
  have HO := hide (show a = b → manyW a b e = 1 from fun h => by subst h; exact manyW_one HP.out he)
  have HE := hide (fun i h => of_each HP.out he i h)
  obtain ⟨a1, a2, b1, b2⟩ := (mayW_iff a b).1 HP.out
  have CF := hide (fun w => first_at b k (rfl : firstW b k = firstW b k) w)
  have CL := hide (fun w => last_at a b k (rfl : lastW a b k = lastW a b k) w)
  have G4 : Hid (∀ wr, Grow w3 wr → Grow w wr) := hide (fun wr h => Grow.trans' G2.out h)
  clear he G2 C0
  go_wp2_with fail
  go_loopw [11, 12] (fun v i wr => ∃ m : Nat, m ≤ n ∧ v = .bool (foundTo (ofW a b e) k m) ∧ i = .int .i64 m ∧ Grow w3 wr) (fun _ i _ => n - (intOf i).toNat)
  case atStart => exact ⟨0, Nat.zero_le _, by rw [foundTo_zero], rfl, Grow.rfl' _⟩
  case round =>
    obtain ⟨m, hm, rfl, rfl, hg⟩ := hrel
    have HG := hide hg
    by_cases hlt : m < n
    · have hmd : m < (ofW a b e).length := by rw [I2.out.len]; exact hlt
      have hne : ¬ ofW a b e = [] := fun h => by rw [h] at hmd; simp at hmd
      obtain ⟨g1, o1, rfl, hr1⟩ := (I2.out.later hg).row.resolve_left hne
      have p0 := hr1 m hmd
      have hst := foundTo_step (ofW a b e) k m hmd
      obtain ⟨x1, x2, x3⟩ := HE.out m hmd
      have hxv := ofW_get a b e m hmd
      obtain ⟨x, hx⟩ : ∃ x, x = (ofW a b e)[m] := ⟨_, rfl⟩
      rw [← hx] at p0 hst x1 x2 x3 hxv
      have HXV := hide hxv
      have HS := hide hst
      have hi1 : (0 : Int) ≤ (m : Int) := by omega
      have hi2 : (m : Int) < (n : Int) := by omega
      obtain ⟨F, hF⟩ : ∃ F, firstW b x = F := ⟨_, rfl⟩
      obtain ⟨L, hL⟩ : ∃ L, lastW a b x = L := ⟨_, rfl⟩
      have Q1 := hide (fun dd os => Calls.regrown_of (first_g b x hF (grow (redrawn wr dd) os)))
      have Q2 := hide (fun dd os => Calls.regrown_of (last_g a b x hL (grow (redrawn wr dd) os)))
      rw [hF] at x2
      rw [hL] at x3
      have d1 : decide (x < 0) = false := by simpa using x1
      have d2 : decide (e < F) = false := by simpa using x2
      have d3 : decide (L < e) = false := by simpa using x3
      have sp0 := cell_regrown p0
      have HR : Hid (∃ f : Bool, foundTo (ofW a b e) k (m + 1) = f) := hide ⟨_, rfl⟩
      obtain ⟨f, hf⟩ : ∃ f, foundTo (ofW a b e) k m = f := ⟨_, rfl⟩
      rw [hf] at HS ⊢
      clear hf hst hx hne hF hL hxv x1 x2 x3 HR
      have HGn : Hid (∀ dq osq, Grow w3 (grow (redrawn wr dq) osq)) := hide (fun dq osq => Grow.trans' HG.out (below_regrown wr dq osq))
      have hkc : (f = true ∧ foundTo (ofW a b e) k (m + 1) = true) ∨ (f = false ∧ (x == k) = true ∧ foundTo (ofW a b e) k (m + 1) = true) ∨ (f = false ∧ (x == k) = false ∧ foundTo (ofW a b e) k (m + 1) = false) := by
        rw [HS.out]
        cases f
        · by_cases hxk : x = k
          · right; left; simp [hxk]
          · right; right; simp [hxk]
        · left; simp
      by_cases hk0 : (0 : Int) < (m : Int)
      · obtain ⟨j, hj0⟩ : ∃ j, m = j + 1 := ⟨m - 1, by omega⟩
        have q0 := hr1 j (by omega)
        rw [ofW_get] at q0
        obtain ⟨y, hy⟩ : ∃ y, y = loW a b e + (j : Int) := ⟨_, rfl⟩
        rw [← hy] at q0
        have d4 : decide (x ≤ y) = false := (by have := HXV.out; simp; omega)
        have sq0 := cell_regrown q0
        have hwj : IntKind.i64.wrap ((m : Int) - 1) = (j : Int) := (by rw [show (m : Int) - 1 = (j : Int) by omega]; exact IntWalk.i64_in _ ⟨by omega, by omega⟩)
        have hi3 : (0 : Int) ≤ (j : Int) := by omega
        have hi4 : (j : Int) < (n : Int) := by omega
        have d5 : 0 < m := by omega
        have d6 : decide (0 < m) = true := by simpa using d5
        clear hy hj0
        clear hr1 hmd hg
        rcases hkc with ⟨rfl, hR⟩ | ⟨rfl, hbq, hR⟩ | ⟨rfl, hbq, hR⟩
        all_goals
          have HR := hide hR
          clear hR
          go_wp2_with fail
          refine wp_region_quiet_below (by kernel_rfl) (by kernel_rfl) ?_
          repeat (go_big_quiet_step (first | (go_at_call 17; exact Q1.out _ _) | (go_at_call 19; exact Q2.out _ _)))
          refine wpQuiet_nil ?_
          intro _ hw'
          obtain ⟨⟨dq, osq⟩, hw''⟩ := hw'
          subst hw''
          go_wp2_with fail
          go_roundw
          case rel => exact ⟨m + 1, by omega, by rw [HR.out], by go_num, HGn.out _ _⟩
          case measure => simp [intOf]; omega
      · skip
        skip
        skip
        skip
        skip
        skip
        skip
        skip
        skip
        skip
        have d5 : ¬ 0 < m := by omega
        have d6 : decide (0 < m) = false := by simpa using d5
        skip
        clear hr1 hmd hg
        rcases hkc with ⟨rfl, hR⟩ | ⟨rfl, hbq, hR⟩ | ⟨rfl, hbq, hR⟩
        all_goals
          have HR := hide hR
          clear hR
          go_wp2_with fail
          refine wp_region_quiet_below (by kernel_rfl) (by kernel_rfl) ?_
          repeat (go_big_quiet_step (first | (go_at_call 17; exact Q1.out _ _) | (go_at_call 19; exact Q2.out _ _)))
          refine wpQuiet_nil ?_
          intro _ hw'
          obtain ⟨⟨dq, osq⟩, hw''⟩ := hw'
          subst hw''
          go_wp2_with fail
          go_roundw
          case rel => exact ⟨m + 1, by omega, by rw [HR.out], by go_num, HGn.out _ _⟩
          case measure => simp [intOf]; omega
    · have hi2 : ¬ (m : Int) < (n : Int) := by omega
      have hml : m = (ofW a b e).length := by rw [I2.out.len]; omega
      have HJ := hide (show foundTo (ofW a b e) k m = decide (k ∈ ofW a b e) by rw [hml, foundTo_all])
      have hb0 : ¬ b = 0 := by omega
      have hw1 : IntKind.i64.wrap (a + b) = a + b := IntWalk.i64_in _ ⟨by omega, by omega⟩
      have hw2 : IntKind.i64.wrap (a + b - 1) = a + b - 1 := IntWalk.i64_in _ ⟨by omega, by omega⟩
      have hw3 : IntKind.i64.wrap (a - 1) = a - 1 := IntWalk.i64_in _ ⟨by omega, by omega⟩
      obtain ⟨Q, hQ⟩ : ∃ Q, Int.tdiv (a + b - 1) b = Q := ⟨_, rfl⟩
      have hQ2 : (n : Int) ≤ Q ∧ Q ≤ 39 := by
        rw [Int.tdiv_eq_ediv_of_nonneg (by omega)] at hQ
        rw [← hQ, HNn.out]
        have h40 : (a + b - 1) / b < 40 := by
          rw [Int.ediv_lt_iff_lt_mul (by omega)]
          have : 40 * 1 ≤ 40 * b := Int.mul_le_mul_of_nonneg_left (by omega) (by omega)
          omega
        exact ⟨HA.out.2.2, by omega⟩
      have hwq : IntKind.i64.wrap Q = Q := IntWalk.i64_in _ ⟨by omega, by omega⟩
      have hn1 : (1 : Int) ≤ (n : Int) := by have := HA.out.2.1.1; rw [HNn.out]; omega
      have hn2 : (n : Int) ≤ Q := hQ2.1
      have hab : ¬ a = b ∨ (a = b ∧ n = 1) := by
        by_cases h : a = b
        · right; exact ⟨h, by rw [HNn.out]; exact HO.out h⟩
        · left; exact h
      have HAB := hide hab
      obtain ⟨F, hF⟩ : ∃ F, firstW b k = F := ⟨_, rfl⟩
      obtain ⟨L, hL⟩ : ∃ L, lastW a b k = L := ⟨_, rfl⟩
      have hh := HA.out.1
      rw [hF, hL] at hh
      rw [hF] at CF
      rw [hL] at CL
      obtain ⟨f, hf⟩ : ∃ f, foundTo (ofW a b e) k m = f := ⟨_, rfl⟩
      rw [hf] at HJ ⊢
      have HGw := hide (G4.out _ hg)
      have hcs : (f = true ∧ 0 ≤ F ∧ F ≤ e ∧ e ≤ L ∧ L - F = a - 1) ∨ (f = false ∧ 0 ≤ F ∧ ¬ F ≤ e ∧ L - F = a - 1) ∨ (f = false ∧ 0 ≤ F ∧ F ≤ e ∧ ¬ e ≤ L ∧ L - F = a - 1) ∨ (f = false ∧ F = -1) := by
        rcases hh with ⟨_, hiff, h3, h4, h5⟩ | ⟨h3, h4, h5⟩
        · by_cases hin : k ∈ ofW a b e
          · left
            have := hiff.1 hin
            exact ⟨by rw [HJ.out]; simpa using hin, h3, this.1, this.2, h5⟩
          · right
            have hf0 : f = false := by rw [HJ.out]; simpa using hin
            have hno : ¬ (F ≤ e ∧ e ≤ L) := fun h => hin (hiff.2 h)
            by_cases hFe : F ≤ e
            · right; left; exact ⟨hf0, h3, hFe, fun h => hno ⟨hFe, h⟩, h5⟩
            · left; exact ⟨hf0, h3, hFe, h5⟩
        · right; right; right
          exact ⟨by rw [HJ.out]; simpa using h5, h3⟩
      clear hml hf hg hF hL hQ2 hh HJ hab
      have hwd : L - F = a - 1 → IntKind.i64.wrap (L - F) = a - 1 := fun h => by rw [h]; exact IntWalk.i64_in _ ⟨by omega, by omega⟩
      have HWD := hide hwd
      clear hwd
      have hnb : (a = b ∧ (n : Int) = 1) ∨ ¬ a = b := by
        rcases HAB.out with h | ⟨h, h'⟩
        · right; exact h
        · left; exact ⟨h, by omega⟩
      clear HAB
      rcases hcs with ⟨rfl, f1, f2, f3, f4⟩ | ⟨rfl, f1, f2, f4⟩ | ⟨rfl, f1, f2, f3, f4⟩ | ⟨rfl, rfl⟩
      · have f0 : ¬ F < 0 := by omega
        have f5 := HWD.out f4
        clear f4
        skip
        rcases hnb with ⟨rfl, hn3⟩ | hab
        all_goals
          go_wp2_with fail
          refine (CF.out _).mono ?_
          rintro _ w4 ⟨rfl, rfl⟩
          go_wp2_with fail
          refine (CL.out _).mono ?_
          rintro _ w4 ⟨rfl, rfl⟩
          go_wp2_with fail
          go_ret
          exact ⟨rfl, HGw.out⟩
      · have f0 : ¬ F < 0 := by omega
        have f5 := HWD.out f4
        clear f4
        skip
        rcases hnb with ⟨rfl, hn3⟩ | hab
        all_goals
          go_wp2_with fail
          refine (CF.out _).mono ?_
          rintro _ w4 ⟨rfl, rfl⟩
          go_wp2_with fail
          refine (CL.out _).mono ?_
          rintro _ w4 ⟨rfl, rfl⟩
          go_wp2_with fail
          go_ret
          exact ⟨rfl, HGw.out⟩
      · have f0 : ¬ F < 0 := by omega
        have f5 := HWD.out f4
        clear f4
        have f6 : decide (e ≤ L) = false := by simpa using f3
        rcases hnb with ⟨rfl, hn3⟩ | hab
        all_goals
          go_wp2_with fail
          refine (CF.out _).mono ?_
          rintro _ w4 ⟨rfl, rfl⟩
          go_wp2_with fail
          refine (CL.out _).mono ?_
          rintro _ w4 ⟨rfl, rfl⟩
          go_wp2_with fail
          go_ret
          exact ⟨rfl, HGw.out⟩
      · skip
        skip
        skip
        skip
        rcases hnb with ⟨rfl, hn3⟩ | hab
        all_goals
          go_wp2_with fail
          refine (CF.out _).mono ?_
          rintro _ w4 ⟨rfl, rfl⟩
          go_wp2_with fail
          refine (CL.out _).mono ?_
          rintro _ w4 ⟨rfl, rfl⟩
          go_wp2_with fail
          go_ret
          exact ⟨rfl, HGw.out⟩

set_option maxRecDepth 100000 in
theorem WindowHas_lifted (os : Os) (started : os.Started) (H : Type) (enc : TypeId × Value → H) :
    ReturnsInHanded {} Try.checked os 5 .any (Rows.windowHasSpec.pre6 enc Try.prog Try.f5 Rows.windowHasRow.domain false) (Rows.windowHasSpec.post enc Try.prog Try.f5 false true false false) := by
  refine returnsInHanded_of_change (C := Try.checked) own started (by kernel_rfl) Try.func5
    (ChangeSpec.witness6 (enc := enc) (C := Try.checked) false ⟨#[], #[.int .i64 0, .int .i64 0, .agg #[.int .i64 0, .int .i64 0]], []⟩ 8 (by kernel_rfl) (by kernel_rfl) (by kernel_rfl) (by kernel_rfl)) ?_
  intro W base args ds gs before hval0 hW hcnd _
  have hval : ∀ (j : Nat) t v, Try.f5.params[j]? = some t → args[j]? = some v → Value.okWide Try.prog W .any base t v := hval0
  have hW' := hW
  obtain ⟨p, q, hA0, hV, rfl, hfz, hnd⟩ := hW
  have hA : DataW.TrodAll enc Try.prog W 0 (fun _ => true) true Try.f5.params.toList args.toList ds p := hA0
  rw [Try.params5] at hA hval
  obtain ⟨v0, vs0, d0, ds0, p0, q0, hargs, rfl, rfl, h0, r0⟩ := trodAll_cons hA
  obtain ⟨v1, vs1, d1, ds1, p1, q1, rfl, rfl, rfl, h1, r1⟩ := trodAll_cons r0
  obtain ⟨v2, vs2, d2, ds2, p2, q2, rfl, rfl, rfl, h2, r2⟩ := trodAll_cons r1
  obtain ⟨rfl, rfl, rfl⟩ := trodAll_nil r2
  obtain rfl : args = #[v0, v1, v2] := by cases args; simp_all
  obtain ⟨rfl, rfl⟩ := trodVars_none hV
  obtain ⟨a0, rfl, rfl, rfl, w0⟩ := open_int Try.underlying3 (hval 0 3 v0 rfl rfl) h0
  obtain ⟨a1, rfl, rfl, rfl, w1⟩ := open_int Try.underlying3 (hval 1 3 v1 rfl rfl) h1
  have k2 := h2
  have lt2 : ∀ x ∈ p2, x.block < W.heap.size := by obtain ⟨m, hm⟩ := k2; exact DataW.trod_lt m _ _ _ hm
  obtain ⟨t2, rfl, w2⟩ := open_arr2 (hval 2 30 v2 rfl rfl) h2
  clear hA0 hval0
  refine (WindowHas_any a0 a1 t2.1 t2.2 W).mono fun e W' ⟨he, bel⟩ => ?_
  subst he
  exact ⟨_, rfl, _, _, _, [], _, [], hW', trodAll_mk1 (shut_bool Try.underlying4 _), (trodAll_cons_mk (shut_int Try.underlying3 w0) (trodAll_cons_mk (shut_int Try.underlying3 w1) (trodAll_cons_mk (Below.trod laidOut (by kernel_rfl) (of_decide_eq_true (by kernel_rfl)) k2 bel lt2) trodAll_mk0))), rfl, bel.frame _, fun h => by cases h⟩

/-- The given statement. -/
theorem WindowHas_holds : Rows.WindowHasSaid :=
  OpenClaim.holds_of_wide 5 Try.f5 rfl rfl rfl rfl rfl rfl rfl ⟨rfl, rfl, rfl, rfl, rfl⟩ rfl rfl rfl rfl rfl (by kernel_rfl) Try.func5 (by kernel_rfl)
    (of_decide_eq_true (by kernel_rfl)) (by unfold Func.isWrapper; first | (rw [if_pos (by decide +kernel)]; kernel_rfl) | (rw [if_neg (by decide +kernel)]; exact ⟨rfl, rfl⟩))
    (fun os started H enc _ => WindowHas_lifted os started H enc)


end Go.Proofs.Ytlnpemjamcpheaa
