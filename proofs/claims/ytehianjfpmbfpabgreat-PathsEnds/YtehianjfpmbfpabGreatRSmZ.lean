/-
  What the document's own Sums does to the world: of every row of summaries its chain, in a row of its own; what was there stays as it was.
-/
import Derived.Test.YtehianjfpmbfpabGreatRTmZ
import Derived.Test.YtehianjfpmbfpabGreatCutZ
import Derived.Test.YtehianjfpmbfpabGreatSBx
namespace Go.Proofs.YtehianjfpmbfpabGreat
set_option maxRecDepth 100000
open Go.RowKit Go.Sort
attribute [local go_sem ↓] eqSm run_headM run_tailM
set_option linter.unusedVariables false

section
variable {α : Type} (O : Kin α)
def posO (c : List α) (x : α) : Nat := (c.takeWhile (fun y => decide (O.ord y x < 0))).length
theorem posO_le (c : List α) (x : α) : posO O c x ≤ c.length := (List.takeWhile_sublist _).length_le
theorem posO_lt (c : List α) (x : α) (k : Nat) (h : k < posO O c x) (hk : k < c.length) : O.ord c[k] x < 0 := by
  have h1 : c.takeWhile (fun y => decide (O.ord y x < 0)) <+: c := List.takeWhile_prefix _
  have h2 : (c.takeWhile (fun y => decide (O.ord y x < 0)))[k]'h = c[k] := h1.getElem h
  have h3 := List.all_eq_true.1 (List.all_takeWhile (p := fun y => decide (O.ord y x < 0)) (l := c)) _ (List.getElem_mem h)
  rw [h2] at h3
  simpa using h3
theorem posO_at : ∀ (c : List α) (x : α) (k : Nat) (hk : k = posO O c x) (h : k < c.length), ¬ O.ord c[k] x < 0
  | [], _, _, _, h => by simp at h
  | y :: l, x, k, hk, h => by
    unfold posO at hk
    rw [List.takeWhile_cons] at hk
    by_cases hp : decide (O.ord y x < 0) = true
    · rw [if_pos hp] at hk
      simp only [List.length_cons] at hk
      subst hk
      exact posO_at l x _ rfl (by simp at h; exact h)
    · rw [if_neg hp] at hk
      simp only [List.length_nil] at hk
      subst hk
      simpa using hp
theorem insO_pos (c : List α) (x : α) : insO O c x = c.take (posO O c x) ++ [x] ++ c.drop (posO O c x) := by
  unfold insO posO
  rw [← takeWhile_eq_take, ← dropWhile_eq_drop]
end

set_option maxHeartbeats 1000000 in
theorem refLessM_at (x y : Sm) {p : Bool} (h : (kinS.le x y && !kinS.le y x) = p) (w : World) : Calls Tryz.prog 21 #[.agg #[.int .i64 x.f, .int .i64 x.t, .int .i64 x.k, .int .i64 x.ep, .int .i64 x.x, .int .i64 x.y, .int .i64 x.z], .agg #[.int .i64 y.f, .int .i64 y.t, .int .i64 y.k, .int .i64 y.ep, .int .i64 y.x, .int .i64 y.y, .int .i64 y.z]] w fun e w' => e = .returned (.bool p) ∧ Grow w w' := by
  obtain ⟨a, ha⟩ : ∃ a, kinS.le x y = a := ⟨_, rfl⟩
  obtain ⟨b, hb⟩ : ∃ b, kinS.le y x = b := ⟨_, rfl⟩
  rw [ha, hb] at h
  have HA := hide ha
  have HB := hide hb
  have G0 : Hid (Grow w ((w.alloc (.cells #[.int .i64 x.f, .int .i64 x.t, .int .i64 x.k, .int .i64 x.ep, .int .i64 x.x, .int .i64 x.y, .int .i64 x.z] 60)).alloc (.cells #[.int .i64 y.f, .int .i64 y.t, .int .i64 y.k, .int .i64 y.ep, .int .i64 y.x, .int .i64 y.y, .int .i64 y.z] 60))) := hide (Grow.trans' (Grow.alloc' _ _) (Grow.alloc' _ _))
  have KX : Hid (SBox ((w.alloc (.cells #[.int .i64 x.f, .int .i64 x.t, .int .i64 x.k, .int .i64 x.ep, .int .i64 x.x, .int .i64 x.y, .int .i64 x.z] 60)).alloc (.cells #[.int .i64 y.f, .int .i64 y.t, .int .i64 y.k, .int .i64 y.ep, .int .i64 y.x, .int .i64 y.y, .int .i64 y.z] 60)) w.heap.size x) := hide ((SBox.new _ _).later (Grow.alloc' _ _))
  have KY : Hid (SBox ((w.alloc (.cells #[.int .i64 x.f, .int .i64 x.t, .int .i64 x.k, .int .i64 x.ep, .int .i64 x.x, .int .i64 x.y, .int .i64 x.z] 60)).alloc (.cells #[.int .i64 y.f, .int .i64 y.t, .int .i64 y.k, .int .i64 y.ep, .int .i64 y.x, .int .i64 y.y, .int .i64 y.z] 60)) (w.heap.size + 1) y) := hide (by simp [SBox, go_sem])
  subst h
  clear ha hb
  go_enter Tryz.func21, Tryz.ntmps21
  go_wp2_with fail
  generalize (w.alloc (.cells #[.int .i64 x.f, .int .i64 x.t, .int .i64 x.k, .int .i64 x.ep, .int .i64 x.x, .int .i64 x.y, .int .i64 x.z] 60)).alloc (.cells #[.int .i64 y.f, .int .i64 y.t, .int .i64 y.k, .int .i64 y.ep, .int .i64 y.x, .int .i64 y.y, .int .i64 y.z] 60) = w0 at *
  refine (refLeM_at x y HA.out w0).mono ?_
  rintro e w1 ⟨rfl, hb⟩
  have G1 := hide (Grow.trans' G0.out hb)
  obtain ⟨x0, x1, x2, x3, x4, x5, x6⟩ := KX.out.later hb
  obtain ⟨y0, y1, y2, y3, y4, y5, y6⟩ := KY.out.later hb
  clear hb
  go_wp2_with fail
  refine (refLeM_at y x HB.out w1).mono ?_
  rintro e w2 ⟨rfl, hb⟩
  have G2 := hide (Grow.trans' G1.out hb)
  clear hb x0 x1 x2 x3 x4 x5 x6 y0 y1 y2 y3 y4 y5 y6
  cases a <;> cases b
  all_goals
    go_wp2
    go_ret
    exact ⟨rfl, G2.out⟩

theorem lessM_iff (x y : Sm) : (kinS.le y x && !kinS.le x y) = true ↔ (kinS.le y x = true ∧ ¬ kinS.le x y = true) := by
  simp
theorem leM_may {x y : Sm} (h : kinS.le y x = true) : kinS.may y = true := ((leS_iff y x).1 h).1

set_option maxHeartbeats 8000000 in
theorem refSums_any (s : Option Addr) (n cap : Nat) (d : List Sm) (w : World) (hbig : n ≤ 90000000000) (hd : IsSms w s n cap d) :
    Calls Tryz.prog 10 #[.slice s n cap] w fun e w' => ∃ v, e = .returned v ∧ Grow w w' ∧ IsRowM (chainO kinS d) v w' := by
  have HI := hide hd
  clear hd
  go_enter Tryz.func10, Tryz.ntmps10
  go_wp2_with fail
  have G0 : Hid (Grow w (w.alloc (.cells #[] 60))) := hide (Grow.alloc' _ _)
  go_loopw [3, 4] (fun v i wr => ∃ (k : Nat) (g : Option Addr) (m c : Nat) (cc : List Sm), k ≤ n ∧ v = .slice g m c ∧ i = .int .i64 k ∧ Grow w wr ∧ IsSms wr g m c cc ∧ Refs kinS d k cc) (fun _ i _ => n - (intOf i).toNat)
  case atStart => exact ⟨0, _, 0, 0, [], Nat.zero_le _, rfl, rfl, G0.out, ⟨rfl, Nat.le_refl _, .inl rfl⟩, .zero⟩
  case round =>
    obtain ⟨i, g, m, c, cc, hi, rfl, rfl, hg, hR, hF⟩ := hrel
    have HG := hide hg
    have HR := hide hR
    have HF := hide hF
    have hmc : m ≤ c := hR.2.1
    have hmn : m ≤ n := by
      have h1 := refs_len kinS hF
      have h2 := hR.1
      omega
    clear hR hF
    by_cases hlt : i < n
    · have hid : i < d.length := by rw [HI.out.1]; exact hlt
      have hne : ¬ d = [] := fun h => by rw [h] at hid; simp at hid
      obtain ⟨b, o, rfl, hr1⟩ := HI.out.2.2.resolve_left hne
      have HD := hide hr1
      obtain ⟨x0, x1, x2, x3, x4, x5, x6⟩ := (hr1.later hg).at i hid
      obtain ⟨x, hx⟩ : ∃ x, x = d[i] := ⟨_, rfl⟩
      rw [← hx] at x0 x1 x2 x3 x4 x5 x6
      have HX : Hid (d[i]? = some x) := hide (by rw [hx]; exact List.getElem?_eq_getElem hid)
      have HXX := hide hx
      have hi1 : (0 : Int) ≤ (i : Int) := by omega
      have hi2 : (i : Int) < (n : Int) := by omega
      obtain ⟨p, hp⟩ : ∃ p, kinS.may x = p := ⟨_, rfl⟩
      have HP := hide hp
      clear hne hr1 hx hg hp
      go_wp2_with fail
      refine (refMayM_at x HP.out wr).mono ?_
      rintro e w1 ⟨rfl, hb⟩
      have G1 := hide (Grow.trans' HG.out hb)
      have HR1 := hide (HR.out.later hb)
      clear hb x0 x1 x2 x3 x4 x5 x6 HR HG
      go_wp2_with fail
      go_loopw [5, 6] (fun v j wr => ∃ (k : Nat) (q : Bool), k ≤ n ∧ v = .bool q ∧ j = .int .i64 k ∧ Grow w1 wr ∧ (q = true ↔ PickTo kinS d x i k)) (fun _ j _ => n - (intOf j).toNat)
      case atStart => exact ⟨0, p, Nat.zero_le _, rfl, rfl, Grow.rfl' _, by rw [pickTo_zero, HP.out]⟩
      case round =>
        obtain ⟨k, q, hk, rfl, rfl, hg, hq⟩ := hrel
        have HG := hide hg
        have HQ := hide hq
        clear hq
        by_cases hlt2 : k < n
        · have hkd : k < d.length := by rw [HI.out.1]; exact hlt2
          obtain ⟨x0, x1, x2, x3, x4, x5, x6⟩ := (HD.out.later (Grow.trans' G1.out hg)).at i hid
          obtain ⟨y0, y1, y2, y3, y4, y5, y6⟩ := (HD.out.later (Grow.trans' G1.out hg)).at k hkd
          obtain ⟨y, hy⟩ : ∃ y, y = d[k] := ⟨_, rfl⟩
          rw [← hy] at y0 y1 y2 y3 y4 y5 y6
          rw [← HXX.out] at x0 x1 x2 x3 x4 x5 x6
          have HY : Hid (d[k]? = some y) := hide (by rw [hy]; exact List.getElem?_eq_getElem hkd)
          have hk1 : (0 : Int) ≤ (k : Int) := by omega
          have hk2 : (k : Int) < (n : Int) := by omega
          have X0 := hide (And.intro x0 (And.intro x1 (And.intro x2 (And.intro x3 (And.intro x4 (And.intro x5 x6))))))
          have Y0 := hide (And.intro y0 (And.intro y1 (And.intro y2 (And.intro y3 (And.intro y4 (And.intro y5 y6))))))
          clear hy hg
          obtain ⟨l, hl⟩ : ∃ p, (kinS.le y x && !kinS.le x y) = p := ⟨_, rfl⟩
          have HL := hide hl
          have CL := hide (fun dd os => Calls.regrown_of (refLessM_at y x hl (grow (redrawn wr dd) os)))
          clear hl
          have sx0 := cell_regrown x0; have sx1 := cell_regrown x1; have sx2 := cell_regrown x2; have sx3 := cell_regrown x3; have sx4 := cell_regrown x4; have sx5 := cell_regrown x5; have sx6 := cell_regrown x6; have sy0 := cell_regrown y0; have sy1 := cell_regrown y1; have sy2 := cell_regrown y2; have sy3 := cell_regrown y3; have sy4 := cell_regrown y4; have sy5 := cell_regrown y5; have sy6 := cell_regrown y6
          go_wp2
          refine wp_region_quiet_below (by kernel_rfl) (by kernel_rfl) ?_
          repeat (go_big_quiet_step (exact CL.out _ _))
          refine wpQuiet_nil ?_
          intro _ hw'
          obtain ⟨⟨dq, osq⟩, hw''⟩ := hw'
          subst hw''
          have GB := hide (Grow.trans' HG.out (below_regrown wr dq osq))
          have B3 := hide (below_regrown wr dq osq)
          clear sx0 sx1 sx2 sx3 sx4 sx5 sx6 sy0 sy1 sy2 sy3 sy4 sy5 sy6 x0 x1 x2 x3 x4 x5 x6 y0 y1 y2 y3 y4 y5 y6
          clear CL
          generalize grow (redrawn wr dq) osq = wc at *
          obtain ⟨x0, x1, x2, x3, x4, x5, x6⟩ := X0.out
          obtain ⟨y0, y1, y2, y3, y4, y5, y6⟩ := Y0.out
          have x0 := cell_later B3.out x0; have x1 := cell_later B3.out x1; have x2 := cell_later B3.out x2; have x3 := cell_later B3.out x3; have x4 := cell_later B3.out x4; have x5 := cell_later B3.out x5; have x6 := cell_later B3.out x6; have y0 := cell_later B3.out y0; have y1 := cell_later B3.out y1; have y2 := cell_later B3.out y2; have y3 := cell_later B3.out y3; have y4 := cell_later B3.out y4; have y5 := cell_later B3.out y5; have y6 := cell_later B3.out y6
          have sx0 := cell_regrown x0; have sx1 := cell_regrown x1; have sx2 := cell_regrown x2; have sx3 := cell_regrown x3; have sx4 := cell_regrown x4; have sx5 := cell_regrown x5; have sx6 := cell_regrown x6; have sy0 := cell_regrown y0; have sy1 := cell_regrown y1; have sy2 := cell_regrown y2; have sy3 := cell_regrown y3; have sy4 := cell_regrown y4; have sy5 := cell_regrown y5; have sy6 := cell_regrown y6
          have FIN : ∀ (t q' : Bool), (t = true ↔ (l = true ∨ (k < i ∧ y = x))) → (q' = (if t = true then false else q)) → (q' = true ↔ PickTo kinS d x i (k + 1)) := by
            intro t q' ht hq'
            rw [pickTo_succ kinS HY.out, ← lessM_iff, HL.out]
            constructor
            · intro h
              have hqt : q = true := by
                rw [hq'] at h
                cases t <;> simp at h
                exact h
              refine ⟨HQ.out.1 hqt, fun hh => ?_⟩
              have := ht.2 hh.2
              rw [hq', this] at h
              simp at h
            · rintro ⟨h1, h2⟩
              have hqt := HQ.out.2 h1
              have : t = false := by
                cases htt : t
                · rfl
                · refine absurd ⟨?_, ht.1 htt⟩ h2
                  rcases ht.1 htt with hll | ⟨_, e⟩
                  · rw [← HL.out] at hll
                    exact leM_may ((lessM_iff x y).1 hll).1
                  · rw [e]; exact h1.1
              rw [hq', this]
              simpa using hqt
          have HFIN := hide FIN
          clear FIN
          have hki : (k < i) ∨ ¬ (k < i) := Classical.em _
          cases l
          case' false => rcases hki with hki | hki
          case' false.inl => cases es : eqS y x
          all_goals
            try (have a1 : decide (k < i) = true := by (simp; omega))
            try (have a1 : decide (k < i) = false := by (simp; omega))
            try (have a2 : decide ((k : Int) < (i : Int)) = true := by (simp; omega))
            try (have a2 : decide ((k : Int) < (i : Int)) = false := by (simp; omega))
            go_wp2
            refine wp_region_quiet_below (by kernel_rfl) (by kernel_rfl) ?_
            repeat (go_big_quiet_step (fail))
            refine wpQuiet_nil ?_
            intro _ hw'
            obtain ⟨⟨dq, osq⟩, hw''⟩ := hw'
            subst hw''
            have GC := hide (Grow.trans' GB.out (below_regrown wc dq osq))
            clear sx0 sx1 sx2 sx3 sx4 sx5 sx6 sy0 sy1 sy2 sy3 sy4 sy5 sy6 x0 x1 x2 x3 x4 x5 x6 y0 y1 y2 y3 y4 y5 y6
            generalize grow (redrawn wc dq) osq = wd at *
            go_wp2
            go_roundw
            case measure => simp [intOf]; omega
          all_goals first
            | refine ⟨k + 1, q, by omega, rfl, by go_num, GC.out, HFIN.out false q ?_ (by simp)⟩
            | refine ⟨k + 1, false, by omega, rfl, by go_num, GC.out, HFIN.out true false ?_ (by simp)⟩
          all_goals first
            | (simp; done)
            | (simp [hki]; done)
            | (have h1 := eqS_same_iff y x; rw [es] at h1; simp at h1; simp [hki, h1]; done)
        · have hkn : k = n := by omega
          have hk2 : ¬ (k : Int) < (n : Int) := by omega
          have HQ2 : Hid (q = true ↔ Pick kinS d i) := hide (by rw [HQ.out, hkn, ← HI.out.1]; exact pickTo_all kinS HX.out)
          clear hg hkn
          cases q
          · go_wp2
            go_roundw
            case rel => exact ⟨i + 1, g, m, c, cc, by omega, rfl, by go_num, Grow.trans' G1.out HG.out, HR1.out.later HG.out, .skip HF.out (by rw [← HQ2.out]; simp)⟩
            case measure => simp [intOf]; omega
          · have HR2 := hide (HR1.out.later HG.out)
            have G2 := hide (Grow.trans' G1.out HG.out)
            have hP := HQ2.out.1 (by simp)
            have HPK := hide hP
            clear hP HQ2 HR1 HG HQ
            go_wp2_with fail
            go_loopw [8] (fun j wr => ∃ k : Nat, k ≤ posO kinS cc x ∧ j = .int .i64 k ∧ Grow w wr ∧ IsSms wr g m c cc) (fun j _ => posO kinS cc x - (intOf j).toNat)
            case atStart => exact ⟨0, Nat.zero_le _, rfl, G2.out, HR2.out⟩
            case round =>
              obtain ⟨k, hk, rfl, hg, hR⟩ := hrel
              have hkm : k ≤ m := by have h1 := posO_le kinS cc x; have h2 := hR.1; omega
              obtain ⟨x0, x1, x2, x3, x4, x5, x6⟩ := (HD.out.later hg).at i hid
              rw [← HXX.out] at x0 x1 x2 x3 x4 x5 x6
              have X0 := hide (And.intro x0 (And.intro x1 (And.intro x2 (And.intro x3 (And.intro x4 (And.intro x5 x6))))))
              have HG := hide hg
              have HR := hide hR
              have hk1 : (0 : Int) ≤ (k : Int) := by omega
              by_cases hkc : k < m
              · have hkd : k < cc.length := by rw [HR.out.1]; exact hkc
                have hne : ¬ cc = [] := fun h => by rw [h] at hkd; simp at hkd
                obtain ⟨b2, o2, rfl, hr2⟩ := HR.out.2.2.resolve_left hne
                obtain ⟨y0, y1, y2, y3, y4, y5, y6⟩ := hr2.at k hkd
                have HA := hide (posO_lt kinS cc x k · hkd)
                have HB := hide (posO_at kinS cc x k · hkd)
                obtain ⟨y, hy⟩ : ∃ y, y = cc[k] := ⟨_, rfl⟩
                rw [← hy] at y0 y1 y2 y3 y4 y5 y6 HA HB
                obtain ⟨r, hr⟩ : ∃ r, kinS.ord y x = r := ⟨_, rfl⟩
                have CO := hide (fun dd os => Calls.regrown_of (refOrderM_at y x hr (grow (redrawn wr dd) os)))
                have HRR := hide hr
                have a1 : decide (k < m) = true := by simp; omega
                have a2 : decide ((k : Int) < (m : Int)) = true := by simp; omega
                have hk2 : (k : Int) < (m : Int) := by omega
                clear hy hr hne hr2 hg hR
                have sx0 := cell_regrown x0; have sx1 := cell_regrown x1; have sx2 := cell_regrown x2; have sx3 := cell_regrown x3; have sx4 := cell_regrown x4; have sx5 := cell_regrown x5; have sx6 := cell_regrown x6; have sy0 := cell_regrown y0; have sy1 := cell_regrown y1; have sy2 := cell_regrown y2; have sy3 := cell_regrown y3; have sy4 := cell_regrown y4; have sy5 := cell_regrown y5; have sy6 := cell_regrown y6
                by_cases hpos : k < posO kinS cc x
                · have hr0 : decide (r < 0) = true := by have h := HA.out hpos; rw [HRR.out] at h; simpa using h
                  go_wp2
                  refine wp_region_quiet_below (by kernel_rfl) (by kernel_rfl) ?_
                  repeat (go_big_quiet_step (exact CO.out _ _))
                  refine wpQuiet_nil ?_
                  intro _ hw'
                  obtain ⟨⟨dq, osq⟩, hw''⟩ := hw'
                  subst hw''
                  have GB := hide (Grow.trans' HG.out (below_regrown wr dq osq))
                  have HR3 := hide (HR.out.later (below_regrown wr dq osq))
                  clear sx0 sx1 sx2 sx3 sx4 sx5 sx6 sy0 sy1 sy2 sy3 sy4 sy5 sy6 x0 x1 x2 x3 x4 x5 x6 y0 y1 y2 y3 y4 y5 y6
                  clear CO
                  generalize grow (redrawn wr dq) osq = wc at *
                  go_wp2
                  go_roundw
                  case rel => exact ⟨k + 1, by omega, by go_num, GB.out, HR3.out⟩
                  case measure => simp [intOf]; omega
                · have HK : Hid (k = posO kinS cc x) := hide (by omega)
                  have hr0 : decide (r < 0) = false := by have h := HB.out HK.out; rw [HRR.out] at h; simpa using h
                  go_wp2
                  refine wp_region_quiet_below (by kernel_rfl) (by kernel_rfl) ?_
                  repeat (go_big_quiet_step (exact CO.out _ _))
                  refine wpQuiet_nil ?_
                  intro _ hw'
                  obtain ⟨⟨dq, osq⟩, hw''⟩ := hw'
                  subst hw''
                  have GB := hide (Grow.trans' HG.out (below_regrown wr dq osq))
                  have HR3 := hide (HR.out.later (below_regrown wr dq osq))
                  have BQ := hide (below_regrown wr dq osq)
                  clear sx0 sx1 sx2 sx3 sx4 sx5 sx6 sy0 sy1 sy2 sy3 sy4 sy5 sy6 x0 x1 x2 x3 x4 x5 x6 y0 y1 y2 y3 y4 y5 y6
                  clear CO
                  generalize grow (redrawn wr dq) osq = wq at *
                  have t1 : (k : Int) ≤ (m : Int) := by omega
                  have t2 : (k : Int) ≤ (c : Int) := by omega
                  go_wp2_with (at_builtin; refine wpList_apd_sm rfl _ _ rfl wq.heap.size (some ⟨wq.heap.size, 0, none⟩) 0 0 [] (cc.drop k) rfl (.of (OwnM.lit0 wq _ (Nat.le_refl _)) rfl) (fromA (some ⟨b2, o2, none⟩) c k 7) (m - k) (c - k) rfl ((HR3.out.from' k hkm).later (Grow.alloc' _ _)) (by omega) (by simp) ?_)
                  intro s2 c2 wA h2 gb2
                  have BA := hide (show Grow wq wA from gb2.grow (Grow.alloc' _ _) (Nat.le_refl _))
                  have HA2 := hide (show IsSms wA s2 (m - k) c2 (cc.drop k) from by simpa using h2.is)
                  have HR4 := hide (HR3.out.later BA.out)
                  clear h2 gb2
                  go_wp2_with (at_builtin; refine wpList_apd_sm rfl _ _ rfl wA.heap.size (some ⟨wA.heap.size, 0, none⟩) 0 0 [] (cc.take k) rfl (.of (OwnM.lit0 wA _ (Nat.le_refl _)) rfl) (some ⟨b2, o2, none⟩) k c rfl ((HR4.out.take' k hkm).later (Grow.alloc' _ _)) (by omega) (by simp) ?_)
                  intro s3 c3 wB h3 gb3
                  have BB := hide (show Grow wA wB from gb3.grow (Grow.alloc' _ _) (Nat.le_refl _))
                  have HB3 := hide (show OwnMV wB wA.heap.size s3 k c3 (cc.take k) from by simpa using h3)
                  clear h3 gb3
                  obtain ⟨x0, x1, x2, x3, x4, x5, x6⟩ := X0.out
                  have BX := hide (Grow.trans' BQ.out (Grow.trans' BA.out BB.out))
                  have x0 := cell_later BX.out x0; have x1 := cell_later BX.out x1; have x2 := cell_later BX.out x2; have x3 := cell_later BX.out x3; have x4 := cell_later BX.out x4; have x5 := cell_later BX.out x5; have x6 := cell_later BX.out x6
                  go_wp2_with (at_builtin; refine wpList_apd_sm rfl _ _ rfl wA.heap.size s3 k c3 (cc.take k) [x] rfl (HB3.out.later (Grow.alloc' _ _)) (some ⟨wB.heap.size, 0, none⟩) 1 1 rfl ⟨rfl, Nat.le_refl _, .inr ⟨_, _, rfl, RowM_one wB x⟩⟩ (by omega) (by have := BB.out.size; simp; omega) ?_)
                  intro s4 c4 wC h4 gb4
                  have BC := hide (show Grow wA wC from gb4.grow (Grow.trans' BB.out (Grow.alloc' _ _)) (Nat.le_refl _))
                  have HC4 := hide h4
                  clear h4 gb4 x0 x1 x2 x3 x4 x5 x6
                  go_wp2_with (at_builtin; refine wpList_apd_sm rfl _ _ rfl wA.heap.size s4 (k + 1) c4 (cc.take k ++ [x]) (cc.drop k) rfl HC4.out s2 (m - k) c2 rfl (HA2.out.later BC.out) (by omega) (by have := BC.out.size; omega) ?_)
                  intro s5 c5 wD h5 gb5
                  have GD := hide (show Grow w wD from Grow.trans' (Grow.trans' GB.out BA.out) (gb5.grow BC.out (Nat.le_refl _)))
                  have e5 : k + 1 + (m - k) = m + 1 := by omega
                  have HD5 := hide (show IsSms wD s5 (m + 1) c5 (insO kinS cc x) from by rw [insO_pos, ← HK.out, ← e5, List.append_assoc, List.singleton_append]; exact h5.is)
                  clear h5 gb5
                  go_wp2
                  go_roundw
                  case rel => exact ⟨i + 1, s5, m + 1, c5, insO kinS cc x, by omega, by first | rfl | simp [e5], by go_num, GD.out, HD5.out, .take HF.out HX.out HPK.out⟩
                  case measure => simp [intOf]; omega
              · have HK : Hid (k = posO kinS cc x) := hide (by have h1 := posO_le kinS cc x; have h2 := HR.out.1; omega)
                have a1 : decide (k < m) = false := by simp; omega
                have a2 : decide ((k : Int) < (m : Int)) = false := by simp; omega
                have hk2 : ¬ (k : Int) < (m : Int) := by omega
                clear hg hR
                go_wp2
                refine wp_region_quiet_below (by kernel_rfl) (by kernel_rfl) ?_
                repeat (go_big_quiet_step (fail))
                refine wpQuiet_nil ?_
                intro _ hw'
                obtain ⟨⟨dq, osq⟩, hw''⟩ := hw'
                subst hw''
                have GB := hide (Grow.trans' HG.out (below_regrown wr dq osq))
                have HR3 := hide (HR.out.later (below_regrown wr dq osq))
                have BQ := hide (below_regrown wr dq osq)
                clear x0 x1 x2 x3 x4 x5 x6
                generalize grow (redrawn wr dq) osq = wq at *
                have t1 : (k : Int) ≤ (m : Int) := by omega
                have t2 : (k : Int) ≤ (c : Int) := by omega
                go_wp2_with (at_builtin; refine wpList_apd_sm rfl _ _ rfl wq.heap.size (some ⟨wq.heap.size, 0, none⟩) 0 0 [] (cc.drop k) rfl (.of (OwnM.lit0 wq _ (Nat.le_refl _)) rfl) (fromA g c k 7) (m - k) (c - k) rfl ((HR3.out.from' k hkm).later (Grow.alloc' _ _)) (by omega) (by simp) ?_)
                intro s2 c2 wA h2 gb2
                have BA := hide (show Grow wq wA from gb2.grow (Grow.alloc' _ _) (Nat.le_refl _))
                have HA2 := hide (show IsSms wA s2 (m - k) c2 (cc.drop k) from by simpa using h2.is)
                have HR4 := hide (HR3.out.later BA.out)
                clear h2 gb2
                go_wp2_with (at_builtin; refine wpList_apd_sm rfl _ _ rfl wA.heap.size (some ⟨wA.heap.size, 0, none⟩) 0 0 [] (cc.take k) rfl (.of (OwnM.lit0 wA _ (Nat.le_refl _)) rfl) g k c rfl ((HR4.out.take' k hkm).later (Grow.alloc' _ _)) (by omega) (by simp) ?_)
                intro s3 c3 wB h3 gb3
                have BB := hide (show Grow wA wB from gb3.grow (Grow.alloc' _ _) (Nat.le_refl _))
                have HB3 := hide (show OwnMV wB wA.heap.size s3 k c3 (cc.take k) from by simpa using h3)
                clear h3 gb3
                obtain ⟨x0, x1, x2, x3, x4, x5, x6⟩ := X0.out
                have BX := hide (Grow.trans' BQ.out (Grow.trans' BA.out BB.out))
                have x0 := cell_later BX.out x0; have x1 := cell_later BX.out x1; have x2 := cell_later BX.out x2; have x3 := cell_later BX.out x3; have x4 := cell_later BX.out x4; have x5 := cell_later BX.out x5; have x6 := cell_later BX.out x6
                go_wp2_with (at_builtin; refine wpList_apd_sm rfl _ _ rfl wA.heap.size s3 k c3 (cc.take k) [x] rfl (HB3.out.later (Grow.alloc' _ _)) (some ⟨wB.heap.size, 0, none⟩) 1 1 rfl ⟨rfl, Nat.le_refl _, .inr ⟨_, _, rfl, RowM_one wB x⟩⟩ (by omega) (by have := BB.out.size; simp; omega) ?_)
                intro s4 c4 wC h4 gb4
                have BC := hide (show Grow wA wC from gb4.grow (Grow.trans' BB.out (Grow.alloc' _ _)) (Nat.le_refl _))
                have HC4 := hide h4
                clear h4 gb4 x0 x1 x2 x3 x4 x5 x6
                go_wp2_with (at_builtin; refine wpList_apd_sm rfl _ _ rfl wA.heap.size s4 (k + 1) c4 (cc.take k ++ [x]) (cc.drop k) rfl HC4.out s2 (m - k) c2 rfl (HA2.out.later BC.out) (by omega) (by have := BC.out.size; omega) ?_)
                intro s5 c5 wD h5 gb5
                have GD := hide (show Grow w wD from Grow.trans' (Grow.trans' GB.out BA.out) (gb5.grow BC.out (Nat.le_refl _)))
                have e5 : k + 1 + (m - k) = m + 1 := by omega
                have HD5 := hide (show IsSms wD s5 (m + 1) c5 (insO kinS cc x) from by rw [insO_pos, ← HK.out, ← e5, List.append_assoc, List.singleton_append]; exact h5.is)
                clear h5 gb5
                go_wp2
                go_roundw
                case rel => exact ⟨i + 1, s5, m + 1, c5, insO kinS cc x, by omega, by first | rfl | simp [e5], by go_num, GD.out, HD5.out, .take HF.out HX.out HPK.out⟩
                case measure => simp [intOf]; omega
    · have hin : i = n := by omega
      have hi2 : ¬ (i : Int) < (n : Int) := by omega
      clear hg
      go_wp2
      go_ret
      refine ⟨_, rfl, HG.out, _, _, _, rfl, ?_⟩
      have e : cc = chainO kinS d := by
        refine chainO_eq kinS (refs_chain kinS ?_)
        rw [HI.out.1, ← hin]; exact HF.out
      rw [← e]
      exact HR.out

end Go.Proofs.YtehianjfpmbfpabGreat
