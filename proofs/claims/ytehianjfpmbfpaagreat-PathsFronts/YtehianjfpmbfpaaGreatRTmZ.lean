/-
  What the document's own Times does to the world: of every row its chain, in a row of its own; what was there stays as it was.
-/
import Derived.Test.YtehianjfpmbfpaaGreatRAtZ
import Derived.Test.YtehianjfpmbfpaaGreatLess
import Derived.Test.YtehianjfpmbfpaaGreatPutGZ
import Derived.Test.YtehianjfpmbfpaaGreatRowAZ
import Derived.Test.YtehianjfpmbfpaaGreatSmeGZ
namespace Go.Proofs.YtehianjfpmbfpaaGreat
set_option maxRecDepth 100000
open Go.RowKit Go.Sort
attribute [local go_sem ↓] eqTm
set_option linter.unusedVariables false

theorem insT_eq (c : List Tm) (x : Tm) (h : x ∉ c) : insT c x = insO kinT c x := by
  have e : ∀ y ∈ c, notBehind x y = decide (kinT.ord y x < 0) := fun y hy => by
    have h0 : kinT.ord y x ≠ 0 := fun h0 => by
      have := kinT.ozero y x h0
      subst this
      exact h hy
    have h1 : notBehind x y = decide (kinT.ord y x ≤ 0) := rfl
    rw [h1]
    simp only [decide_eq_decide]
    omega
  have t : ∀ c : List Tm, (∀ y ∈ c, notBehind x y = decide (kinT.ord y x < 0)) → c.takeWhile (notBehind x) = c.takeWhile (fun y => decide (kinT.ord y x < 0)) ∧ c.dropWhile (notBehind x) = c.dropWhile (fun y => decide (kinT.ord y x < 0)) := by
    intro c
    induction c with
    | nil => intro _; exact ⟨rfl, rfl⟩
    | cons a c ih =>
      intro hc
      have ha := hc a (by simp)
      obtain ⟨i1, i2⟩ := ih (fun y hy => hc y (by simp [hy]))
      constructor
      · rw [List.takeWhile_cons, List.takeWhile_cons, ha, i1]
      · rw [List.dropWhile_cons, List.dropWhile_cons, ha, i2]
  obtain ⟨t1, t2⟩ := t c e
  unfold insT insO
  rw [t1, t2]
  simp

section
variable {α : Type} (O : Kin α)
/-- What the inner loop knows behind k places. -/
def PickTo (l : List α) (x : α) (i k : Nat) : Prop :=
  O.may x = true ∧ ∀ (j : Nat) y, j < k → l[j]? = some y → O.may y = true → ¬ ((O.le y x = true ∧ ¬ O.le x y = true) ∨ (j < i ∧ y = x))
theorem pickTo_zero (l : List α) (x : α) (i : Nat) : PickTo O l x i 0 ↔ O.may x = true := ⟨fun h => h.1, fun h => ⟨h, fun j y hj => by omega⟩⟩
theorem pickTo_all {l : List α} {x : α} {i : Nat} (hx : l[i]? = some x) : PickTo O l x i l.length ↔ Pick O l i := by
  constructor
  · rintro ⟨h1, h2⟩
    exact ⟨x, hx, h1, fun k y hk hm => h2 k y (List.getElem?_eq_some_iff.1 hk).1 hk hm⟩
  · rintro ⟨z, hz, h1, h2⟩
    rw [hx] at hz
    cases hz
    exact ⟨h1, fun j y _ hj hm => h2 j y hj hm⟩
theorem pickTo_succ {l : List α} {x y : α} {i k : Nat} (hy : l[k]? = some y) : PickTo O l x i (k + 1) ↔ PickTo O l x i k ∧ ¬ (O.may y = true ∧ ((O.le y x = true ∧ ¬ O.le x y = true) ∨ (k < i ∧ y = x))) := by
  constructor
  · rintro ⟨h1, h2⟩
    exact ⟨⟨h1, fun j z hj => h2 j z (by omega)⟩, fun ⟨a, b⟩ => h2 k y (by omega) hy a b⟩
  · rintro ⟨⟨h1, h2⟩, h3⟩
    refine ⟨h1, fun j z hj hz hm => ?_⟩
    by_cases e : j = k
    · subst e
      rw [hy] at hz
      cases hz
      exact fun h => h3 ⟨hm, h⟩
    · exact h2 j z (by omega) hz hm
end
theorem refLessT_at (x y : Tm) {p : Bool} (h : lessB x y = p) (w : World) : Calls Tryz.prog 49 #[.agg #[.int .i64 x.e, .int .i64 x.d, .int .i64 x.x, .int .i64 x.y, .int .i64 x.z], .agg #[.int .i64 y.e, .int .i64 y.d, .int .i64 y.x, .int .i64 y.y, .int .i64 y.z]] w fun e w' => e = .returned (.bool p) ∧ Grow w w' := by
  rw [← h]; exact refLess_any x y w
theorem putT_at (b o cap n : Nat) (d : List Tm) (t : Tm) (w : World) (hn : d.length = n) (hd : n ≤ cap) (hbig : n ≤ 100000000000) (hr : RowT w b o d) :
    Calls Tryz.prog 50 #[.slice (some ⟨b, o, none⟩) n cap, .agg #[.int .i64 t.e, .int .i64 t.d, .int .i64 t.x, .int .i64 t.y, .int .i64 t.z]] w fun e w' => ∃ g cap', e = .returned (.slice (some ⟨g, 0, none⟩) (n + 1) cap') ∧ Grow w w' ∧ RowT w' g 0 (insT d t) ∧ n + 1 ≤ cap' := by
  subst hn
  refine (put_any b o cap d t w hd hbig hr).mono ?_
  rintro e w' ⟨g, c', rfl, hg, hO⟩
  refine ⟨g, c', rfl, hg, hO.row, ?_⟩
  have := hO.le.2.1
  have e : (insT d t).length = d.length + 1 := by
    rw [ins_eq]
    have : posT d t ≤ d.length := (List.takeWhile_sublist _).length_le
    simp; omega
  omega
theorem lessB_iff (x y : Tm) : lessB y x = true ↔ (kinT.le y x = true ∧ ¬ kinT.le x y = true) := by
  unfold lessB
  simp only [Bool.and_eq_true, Bool.not_eq_true', Bool.not_eq_true]
  exact Iff.rfl

set_option maxHeartbeats 4000000 in
theorem refTimes_any (s : Option Addr) (n cap : Nat) (d : List Tm) (w : World) (hbig : n ≤ 90000000000) (hd : IsTms w s n cap d) :
    Calls Tryz.prog 28 #[.slice s n cap] w fun e w' => ∃ v, e = .returned v ∧ Grow w w' ∧ IsRowT (chainO kinT d) v w' := by
  have HI := hide hd
  clear hd
  go_enter Tryz.func28, Tryz.ntmps28
  go_wp2_with fail
  have G0 : Hid (Grow w (w.alloc (.cells #[] 43))) := hide (Grow.alloc' _ _)
  go_loopw [3, 4] (fun v i wr => ∃ (k g m c : Nat) (cc : List Tm), k ≤ n ∧ v = .slice (some ⟨g, 0, none⟩) m c ∧ i = .int .i64 k ∧ Grow w wr ∧ RowT wr g 0 cc ∧ cc.length = m ∧ m ≤ c ∧ Refs kinT d k cc) (fun _ i _ => n - (intOf i).toNat)
  case atStart => exact ⟨0, _, 0, 0, [], Nat.zero_le _, rfl, rfl, G0.out, fun j v hj => by simp [flatT] at hj, rfl, Nat.le_refl _, .zero⟩
  case round =>
    obtain ⟨i, g, m, c, cc, hi, rfl, rfl, hg, hR, hm, hmc, hF⟩ := hrel
    have HG := hide hg
    have HR := hide hR
    have HM := hide hm
    have HF := hide hF
    clear hR hF hm
    by_cases hlt : i < n
    · have hid : i < d.length := by rw [HI.out.1]; exact hlt
      have hne : ¬ d = [] := fun h => by rw [h] at hid; simp at hid
      obtain ⟨b, o, rfl, hr1⟩ := HI.out.2.2.resolve_left hne
      have HD := hide hr1
      obtain ⟨x0, x1, x2, x3, x4⟩ := (hr1.later hg).at i hid
      obtain ⟨x, hx⟩ : ∃ x, x = d[i] := ⟨_, rfl⟩
      rw [← hx] at x0 x1 x2 x3 x4
      have HX : Hid (d[i]? = some x) := hide (by rw [hx]; exact List.getElem?_eq_getElem hid)
      have HXX := hide hx
      have hi1 : (0 : Int) ≤ (i : Int) := by omega
      have hi2 : (i : Int) < (n : Int) := by omega
      obtain ⟨p, hp⟩ : ∃ p, kinT.may x = p := ⟨_, rfl⟩
      have HP := hide hp
      clear hne hr1 hx hg hp
      go_wp2_with fail
      refine (refMayT_at x HP.out wr).mono ?_
      rintro e w1 ⟨rfl, hb⟩
      have G1 := hide (Grow.trans' HG.out hb)
      have HR1 := hide (HR.out.later hb)
      clear hb x0 x1 x2 x3 x4 HR HG
      go_wp2_with fail
      go_loopw [5, 6] (fun v j wr => ∃ (k : Nat) (q : Bool), k ≤ n ∧ v = .bool q ∧ j = .int .i64 k ∧ Grow w1 wr ∧ (q = true ↔ PickTo kinT d x i k)) (fun _ j _ => n - (intOf j).toNat)
      case atStart => exact ⟨0, p, Nat.zero_le _, rfl, rfl, Grow.rfl' _, by rw [pickTo_zero, HP.out]⟩
      case round =>
        obtain ⟨k, q, hk, rfl, rfl, hg, hq⟩ := hrel
        have HG := hide hg
        have HQ := hide hq
        clear hq
        by_cases hlt2 : k < n
        · have hkd : k < d.length := by rw [HI.out.1]; exact hlt2
          obtain ⟨x0, x1, x2, x3, x4⟩ := (HD.out.later (Grow.trans' G1.out hg)).at i hid
          obtain ⟨y0, y1, y2, y3, y4⟩ := (HD.out.later (Grow.trans' G1.out hg)).at k hkd
          obtain ⟨y, hy⟩ : ∃ y, y = d[k] := ⟨_, rfl⟩
          rw [← hy] at y0 y1 y2 y3 y4
          rw [← HXX.out] at x0 x1 x2 x3 x4
          have HY : Hid (d[k]? = some y) := hide (by rw [hy]; exact List.getElem?_eq_getElem hkd)
          have hk1 : (0 : Int) ≤ (k : Int) := by omega
          have hk2 : (k : Int) < (n : Int) := by omega
          have X0 := hide (And.intro x0 (And.intro x1 (And.intro x2 (And.intro x3 x4))))
          have Y0 := hide (And.intro y0 (And.intro y1 (And.intro y2 (And.intro y3 y4))))
          clear hy hg
          obtain ⟨my, hmy⟩ : ∃ p, kinT.may y = p := ⟨_, rfl⟩
          obtain ⟨l, hl⟩ : ∃ p, lessB y x = p := ⟨_, rfl⟩
          have HMY := hide hmy
          have HL := hide hl
          clear hmy hl
          go_wp2_with fail
          refine (refMayT_at y HMY.out wr).mono ?_
          rintro e w2 ⟨rfl, hb⟩
          have G2 := hide (Grow.trans' HG.out hb)
          have B2 := hide hb
          clear x0 x1 x2 x3 x4 y0 y1 y2 y3 y4 hb HG
          obtain ⟨x0, x1, x2, x3, x4⟩ := X0.out
          obtain ⟨y0, y1, y2, y3, y4⟩ := Y0.out
          have x0 := cell_later B2.out x0; have x1 := cell_later B2.out x1; have x2 := cell_later B2.out x2; have x3 := cell_later B2.out x3; have x4 := cell_later B2.out x4
          have y0 := cell_later B2.out y0; have y1 := cell_later B2.out y1; have y2 := cell_later B2.out y2; have y3 := cell_later B2.out y3; have y4 := cell_later B2.out y4
          have CL := hide (fun dd os => Calls.regrown_of (refLessT_at y x HL.out (grow (redrawn w2 dd) os)))
          have sx0 := cell_regrown x0; have sx1 := cell_regrown x1; have sx2 := cell_regrown x2; have sx3 := cell_regrown x3; have sx4 := cell_regrown x4; have sy0 := cell_regrown y0; have sy1 := cell_regrown y1; have sy2 := cell_regrown y2; have sy3 := cell_regrown y3; have sy4 := cell_regrown y4
          go_wp2
          refine wp_region_quiet_below (by kernel_rfl) (by kernel_rfl) ?_
          repeat (go_big_quiet_step (exact CL.out _ _))
          refine wpQuiet_nil ?_
          intro _ hw'
          obtain ⟨⟨dq, osq⟩, hw''⟩ := hw'
          subst hw''
          have GB := hide (Grow.trans' G2.out (below_regrown w2 dq osq))
          have B3 := hide (Grow.trans' B2.out (below_regrown w2 dq osq))
          clear sx0 sx1 sx2 sx3 sx4 sy0 sy1 sy2 sy3 sy4 x0 x1 x2 x3 x4 y0 y1 y2 y3 y4
          clear CL
          generalize grow (redrawn w2 dq) osq = wc at *
          obtain ⟨x0, x1, x2, x3, x4⟩ := X0.out
          obtain ⟨y0, y1, y2, y3, y4⟩ := Y0.out
          have x0 := cell_later B3.out x0; have x1 := cell_later B3.out x1; have x2 := cell_later B3.out x2; have x3 := cell_later B3.out x3; have x4 := cell_later B3.out x4
          have y0 := cell_later B3.out y0; have y1 := cell_later B3.out y1; have y2 := cell_later B3.out y2; have y3 := cell_later B3.out y3; have y4 := cell_later B3.out y4
          have sx0 := cell_regrown x0; have sx1 := cell_regrown x1; have sx2 := cell_regrown x2; have sx3 := cell_regrown x3; have sx4 := cell_regrown x4; have sy0 := cell_regrown y0; have sy1 := cell_regrown y1; have sy2 := cell_regrown y2; have sy3 := cell_regrown y3; have sy4 := cell_regrown y4
          have FIN : ∀ (t q' : Bool), (t = true ↔ (my = true ∧ (l = true ∨ (k < i ∧ y = x)))) → (q' = (if t = true then false else q)) → (q' = true ↔ PickTo kinT d x i (k + 1)) := by
            intro t q' ht hq'
            rw [pickTo_succ kinT HY.out, ← HQ.out, HMY.out, ← lessB_iff, HL.out, ← ht, hq']
            cases t <;> simp
          have HFIN := hide FIN
          clear FIN
          have hki : (k < i) ∨ ¬ (k < i) := Classical.em _
          cases my
          case' true => cases l
          case' true.false => rcases hki with hki | hki
          case' true.false.inl => cases es : eqB y x
          all_goals
            try (have a1 : decide ((k : Int) < (i : Int)) = true := by (simp; omega))
            try (have a1 : decide ((k : Int) < (i : Int)) = false := by (simp; omega))
            go_wp2
            refine wp_region_quiet_below (by kernel_rfl) (by kernel_rfl) ?_
            repeat (go_big_quiet_step (fail))
            refine wpQuiet_nil ?_
            intro _ hw'
            obtain ⟨⟨dq, osq⟩, hw''⟩ := hw'
            subst hw''
            have GC := hide (Grow.trans' GB.out (below_regrown wc dq osq))
            clear sx0 sx1 sx2 sx3 sx4 sy0 sy1 sy2 sy3 sy4 x0 x1 x2 x3 x4 y0 y1 y2 y3 y4
            generalize grow (redrawn wc dq) osq = wd at *
            go_wp2
            go_roundw
            case measure => simp [intOf]; omega
          all_goals first
            | refine ⟨k + 1, q, by omega, rfl, by go_num, GC.out, HFIN.out false q ?_ (by simp)⟩
            | refine ⟨k + 1, false, by omega, rfl, by go_num, GC.out, HFIN.out true false ?_ (by simp)⟩
          all_goals first
            | (simp; done)
            | (simp [hki]; done)
            | (have h1 := eqB_same_iff y x; rw [es] at h1; simp at h1; simp [hki, h1]; done)
        · have hkn : k = n := by omega
          have hk2 : ¬ (k : Int) < (n : Int) := by omega
          have HQ2 : Hid (q = true ↔ Pick kinT d i) := hide (by rw [HQ.out, hkn, ← HI.out.1]; exact pickTo_all kinT HX.out)
          obtain ⟨x0, x1, x2, x3, x4⟩ := (HD.out.later (Grow.trans' G1.out hg)).at i hid
          rw [← HXX.out] at x0 x1 x2 x3 x4
          have HL := hide (refs_len kinT HF.out)
          clear hg hkn
          cases q
          · go_wp2
            go_roundw
            case rel => exact ⟨i + 1, g, m, c, cc, by omega, rfl, by go_num, Grow.trans' G1.out HG.out, HR1.out.later HG.out, HM.out, hmc, .skip HF.out (by rw [← HQ2.out]; simp)⟩
            case measure => simp [intOf]; omega
          · have CP := hide (putT_at g 0 c m cc x wr HM.out hmc (by have := HL.out; have := HM.out; omega) (HR1.out.later HG.out))
            go_wp2_with fail
            refine (CP.out).mono ?_
            rintro e w2 ⟨g2, c2, rfl, hb, hr, hc2⟩
            have G2 := hide (Grow.trans' (Grow.trans' G1.out HG.out) hb)
            have HR2 := hide hr
            clear hb hr x0 x1 x2 x3 x4 CP
            go_wp2
            go_roundw
            case rel =>
              have hP := HQ2.out.1 (by simp)
              have hnx : x ∉ cc := fun hc => by
                obtain ⟨j, hj, hjx, _⟩ := ((refs_spec kinT HF.out).2 x).1 hc
                obtain ⟨z, hz, hzm, hn⟩ := hP
                rw [HX.out] at hz
                cases hz
                exact hn j x hjx hzm (.inr ⟨hj, rfl⟩)
              refine ⟨i + 1, g2, m + 1, c2, insO kinT cc x, by omega, rfl, by go_num, G2.out, by rw [← insT_eq cc x hnx]; exact HR2.out, ?_, hc2, .take HF.out HX.out hP⟩
              rw [← insT_eq cc x hnx, ins_eq, ← HM.out]
              have : posT cc x ≤ cc.length := (List.takeWhile_sublist _).length_le
              simp; omega
            case measure => simp [intOf]; omega
    · have hin : i = n := by omega
      have hi2 : ¬ (i : Int) < (n : Int) := by omega
      clear hg
      go_wp2
      go_ret
      refine ⟨_, rfl, HG.out, _, _, _, rfl, ?_⟩
      have e : cc = chainO kinT d := by
        refine chainO_eq kinT (refs_chain kinT ?_)
        rw [HI.out.1, ← hin]; exact HF.out
      rw [← e]
      exact ⟨HM.out, hmc, .inr ⟨g, 0, rfl, HR.out⟩⟩

end Go.Proofs.YtehianjfpmbfpaaGreat
