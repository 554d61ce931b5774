/-
  What lowest does to the world: from a place, the fronts of what ways do to each place, in a map of its own; what was there stays as it was. It ends, as what is not covered yet grows less with each round that finds anything.
-/
import Derived.Test.YtehianjfpmbfpaaGreatQAd
import Derived.Deep.LoopGhost
namespace Go.Proofs.YtehianjfpmbfpaaGreat
set_option maxRecDepth 100000
open Go.RowKit Go.Maps Go.Deep
set_option linter.unusedVariables false
set_option linter.unusedSimpArgs false
attribute [local go_sem ↓] run_makeMap

theorem leftP_le {P : List Lc} {f : Int} {dep : Lc → Int} {L R : Lc → List Sm} : leftP P f dep (fun x => addL (L x) (R x)) ≤ leftP P f dep L :=
  sumP_le fun x _ => leftC_le fun s h => addL_cov h
theorem leftP_lt {P : List Lc} {f : Int} {dep : Lc → Int} {L R : Lc → List Sm} (hR : ∀ x, ∀ s ∈ R x, Like f (dep x) s) {x : Lc} (hx : x ∈ P) (hne : freshL (L x) (R x) ≠ []) : leftP P f dep (fun x => addL (L x) (R x)) < leftP P f dep L := by
  obtain ⟨s, hs⟩ := List.exists_mem_of_ne_nil _ hne
  obtain ⟨h1, h2, h3⟩ := freshL_sub hs
  refine Nat.lt_of_succ_le (sumP_lt 1 (fun y _ => leftC_le fun s h => addL_cov h) ⟨x, hx, ?_⟩)
  exact leftC_lt (hR x s h1) (fun s h => addL_cov h) h3 (addL_has h1 h2)
/-- How many rounds may still come. -/
def todoL (P : List Lc) (f : Int) (dep : Lc → Int) (L : Lc → List Sm) (c : Nat) : Nat := 2 * leftP P f dep L + if c = 0 then 0 else 1
theorem todoL_lt {P : List Lc} {f : Int} {dep : Lc → Int} {L R : Lc → List Sm} {c c' : Nat} (hc : c ≠ 0) (hR : ∀ x, ∀ s ∈ R x, Like f (dep x) s) (hc' : c' ≠ 0 → ∃ x ∈ P, freshL (L x) (R x) ≠ []) : todoL P f dep (fun x => addL (L x) (R x)) c' < todoL P f dep L c := by
  unfold todoL
  rw [if_neg hc]
  by_cases h : c' = 0
  · rw [if_pos h]
    have := leftP_le (P := P) (f := f) (dep := dep) (L := L) (R := R)
    omega
  · rw [if_neg h]
    obtain ⟨x, hx, hne⟩ := hc' h
    have := leftP_lt hR hx hne
    omega
/-- What the steps' rows are. -/
structure StpS (P : List Lc) (T : Lc → List Sp) (S : List Stp) : Prop where
  mem : ∀ y : Stp, y ∈ S ↔ y.a ∈ P ∧ (⟨y.b, y.r⟩ : Sp) ∈ T y.a
  to : ∀ x ∈ P, ∀ y ∈ T x, y.b ∈ P
  few : sumP P (fun x => (T x).length) ≤ 60

set_option maxHeartbeats 4000000 in
theorem lowest_any (sb : Nat) (P : List Lc) (fs : Lc → Option Value) (T : Lc → List Sp) (S : List Stp) (x : Lc) (s0 : Sm) (f : Int) (dep : Lc → Int) (w : World) (hP : P.length ≤ 60) (hM : StpM w sb P fs T) (hSS : StpS P T S) (hx : x ∈ P) (h0 : mayS s0 = true)
    (hWy : ∀ b s, Way S x s0 b s → b ∈ P ∧ Like f (dep b) s) :
    Calls Tryz.prog 32 #[.map (some sb), .agg #[.int .i64 x.n, .int .i64 x.p], .agg #[.int .i64 s0.f, .int .i64 s0.t, .int .i64 s0.k, .int .i64 s0.ep, .int .i64 s0.x, .int .i64 s0.y, .int .i64 s0.z]] w fun e w' => ∃ lb fl L, e = .returned (.map (some lb)) ∧ Grow w w' ∧ w.heap.size ≤ lb ∧ InF w' lb P fl L ∧ ∀ b, Front (Way S x s0 b) (L b) := by
  obtain ⟨hnd, hwf⟩ : P.Nodup ∧ ∀ y ∈ P, LcWf y := by obtain ⟨D, hD⟩ := hM.map; exact ⟨hD.nodup, hD.wf⟩
  have hPb : P.length < 1000000000 := by omega
  have HM := hide hM
  have HSS := hide hSS
  have HX := hide hx
  have H0 := hide h0
  have HW := hide hWy
  have e2 : ((w.alloc (.cells #[.int .i64 x.n, .int .i64 x.p] 27)).alloc (.cells #[.int .i64 s0.f, .int .i64 s0.t, .int .i64 s0.k, .int .i64 s0.ep, .int .i64 s0.x, .int .i64 s0.y, .int .i64 s0.z] 68)).heap.size = w.heap.size + 1 + 1 := by simp
  have e3 : (((w.alloc (.cells #[.int .i64 x.n, .int .i64 x.p] 27)).alloc (.cells #[.int .i64 s0.f, .int .i64 s0.t, .int .i64 s0.k, .int .i64 s0.ep, .int .i64 s0.x, .int .i64 s0.y, .int .i64 s0.z] 68)).alloc (.map #[] 0)).heap.size = w.heap.size + 1 + 1 + 1 := by simp
  have e4 : ((((w.alloc (.cells #[.int .i64 x.n, .int .i64 x.p] 27)).alloc (.cells #[.int .i64 s0.f, .int .i64 s0.t, .int .i64 s0.k, .int .i64 s0.ep, .int .i64 s0.x, .int .i64 s0.y, .int .i64 s0.z] 68)).alloc (.map #[] 0)).alloc (.map #[] 0)).heap.size = w.heap.size + 1 + 1 + 1 + 1 := by simp
  have G4 : Hid (Grow w ((((w.alloc (.cells #[.int .i64 x.n, .int .i64 x.p] 27)).alloc (.cells #[.int .i64 s0.f, .int .i64 s0.t, .int .i64 s0.k, .int .i64 s0.ep, .int .i64 s0.x, .int .i64 s0.y, .int .i64 s0.z] 68)).alloc (.map #[] 0)).alloc (.map #[] 0))) := hide (Grow.trans' (Grow.trans' (Grow.trans' (Grow.alloc' _ _) (Grow.alloc' _ _)) (Grow.alloc' _ _)) (Grow.alloc' _ _))
  have G5 : Hid (Grow w (((((w.alloc (.cells #[.int .i64 x.n, .int .i64 x.p] 27)).alloc (.cells #[.int .i64 s0.f, .int .i64 s0.t, .int .i64 s0.k, .int .i64 s0.ep, .int .i64 s0.x, .int .i64 s0.y, .int .i64 s0.z] 68)).alloc (.map #[] 0)).alloc (.map #[] 0)).alloc (.cells #[.int .i64 s0.f, .int .i64 s0.t, .int .i64 s0.k, .int .i64 s0.ep, .int .i64 s0.x, .int .i64 s0.y, .int .i64 s0.z] 68))) := hide (Grow.trans' G4.out (Grow.alloc' _ _))
  have HL5 : Hid (InF (((((w.alloc (.cells #[.int .i64 x.n, .int .i64 x.p] 27)).alloc (.cells #[.int .i64 s0.f, .int .i64 s0.t, .int .i64 s0.k, .int .i64 s0.ep, .int .i64 s0.x, .int .i64 s0.y, .int .i64 s0.z] 68)).alloc (.map #[] 0)).alloc (.map #[] 0)).alloc (.cells #[.int .i64 s0.f, .int .i64 s0.t, .int .i64 s0.k, .int .i64 s0.ep, .int .i64 s0.x, .int .i64 s0.y, .int .i64 s0.z] 68)) (w.heap.size + 1 + 1) P (fun _ => none) fun _ => []) := hide (by rw [← e2]; exact (InF.new _ P hnd hwf).later (Grow.trans' (Grow.alloc' _ _) (Grow.alloc' _ _)))
  have HR5 : Hid (InF (((((w.alloc (.cells #[.int .i64 x.n, .int .i64 x.p] 27)).alloc (.cells #[.int .i64 s0.f, .int .i64 s0.t, .int .i64 s0.k, .int .i64 s0.ep, .int .i64 s0.x, .int .i64 s0.y, .int .i64 s0.z] 68)).alloc (.map #[] 0)).alloc (.map #[] 0)).alloc (.cells #[.int .i64 s0.f, .int .i64 s0.t, .int .i64 s0.k, .int .i64 s0.ep, .int .i64 s0.x, .int .i64 s0.y, .int .i64 s0.z] 68)) (w.heap.size + 1 + 1 + 1) P (fun _ => none) fun _ => []) := hide (by rw [← e3]; exact (InF.new _ P hnd hwf).later (Grow.alloc' _ _))
  have HS5 : Hid (IsSms (((((w.alloc (.cells #[.int .i64 x.n, .int .i64 x.p] 27)).alloc (.cells #[.int .i64 s0.f, .int .i64 s0.t, .int .i64 s0.k, .int .i64 s0.ep, .int .i64 s0.x, .int .i64 s0.y, .int .i64 s0.z] 68)).alloc (.map #[] 0)).alloc (.map #[] 0)).alloc (.cells #[.int .i64 s0.f, .int .i64 s0.t, .int .i64 s0.k, .int .i64 s0.ep, .int .i64 s0.x, .int .i64 s0.y, .int .i64 s0.z] 68)) (some ⟨w.heap.size + 1 + 1 + 1 + 1, 0, none⟩) 1 1 [s0]) := hide (by rw [← e4]; exact ⟨rfl, Nat.le_refl _, .inr ⟨_, _, rfl, RowM_one _ s0⟩⟩)
  have hs5 : w.heap.size + 1 + 1 + 1 + 1 < (((((w.alloc (.cells #[.int .i64 x.n, .int .i64 x.p] 27)).alloc (.cells #[.int .i64 s0.f, .int .i64 s0.t, .int .i64 s0.k, .int .i64 s0.ep, .int .i64 s0.x, .int .i64 s0.y, .int .i64 s0.z] 68)).alloc (.map #[] 0)).alloc (.map #[] 0)).alloc (.cells #[.int .i64 s0.f, .int .i64 s0.t, .int .i64 s0.k, .int .i64 s0.ep, .int .i64 s0.x, .int .i64 s0.y, .int .i64 s0.z] 68)).heap.size := by simp
  have HN := hide hnd
  have HWF := hide hwf
  clear hM hSS hx h0 hWy hnd hwf e2 e3 e4
  go_enter Tryz.func32, Tryz.ntmps32
  go_wp2_with (refine wpList_set_F rfl _ _ _ 81 (.inr rfl) Tryz.underlying81 (x := x) rfl rfl rfl HR5.out hPb HX.out HS5.out (fun a q => by cases q; exact hs5) ?_)
  intro w6 hI6 hg6
  have hm5 := hide HR5.out.map.isMap
  have GW6 : Hid (Grow w w6) := hide (growL_step G5.out hg6 (by omega))
  have HL6 := hide (HL5.out.mapTurn hg6 hm5.out.choose_spec.choose_spec (by omega))
  have HR6 := hide hI6
  obtain ⟨lb, hlb⟩ : ∃ lb, lb = w.heap.size + 1 + 1 := ⟨_, rfl⟩
  obtain ⟨rb, hrb⟩ : ∃ rb, rb = w.heap.size + 1 + 1 + 1 := ⟨_, rfl⟩
  obtain ⟨v6, hv6⟩ : ∃ v6 : Value, v6 = .slice (some ⟨w.heap.size + 1 + 1 + 1 + 1, 0, none⟩) 1 1 := ⟨_, rfl⟩
  rw [← hlb] at HL6
  rw [← hv6, ← hrb] at HR6
  clear hI6 hg6 G4 G5 HL5 HR5 HS5 hs5 hm5
  go_wp2_with fail
  rw [← hrb, ← hlb]
  have hlw : w.heap.size ≤ lb := by omega
  have hne : rb ≠ lb := by omega
  clear hlb hrb hv6
  have hc6 : cntV P (putV (fun _ => none) x v6) = 1 := by
    rw [cntV_put HN.out HX.out]
    simp [cntV]
  have HP6 : Hid (Pend S x s0 (fun _ => []) (updL (fun _ => []) x [s0])) := hide (by
    have e : (updL (fun _ => []) x [s0]) = fun b => if b = x then [s0] else [] := rfl
    rw [e]; exact pend_start)
  go_loopg [8] (todoL P f dep (fun _ => []) 1) (fun k v wr => ∃ (fl : Lc → Option Value) (L : Lc → List Sm) (rk : Nat) (fr : Lc → Option Value) (R : Lc → List Sm), v = .map (some rk) ∧ k = todoL P f dep L (cntV P fr) ∧ Grow w wr ∧ InF wr lb P fl L ∧ InF wr rk P fr R ∧ (cntV P fr = 0 ↔ ∀ y, R y = []) ∧ rk ≠ lb ∧ Pend S x s0 L R ∧ ∀ y, (R y).length ≤ BIG * 60)
  case atStart => exact ⟨_, _, rb, _, _, rfl, by rw [hc6], GW6.out, HL6.out, HR6.out, by rw [hc6]; exact ⟨fun h => (by cases h), fun h => (by have := h x; rw [updL_same] at this; cases this)⟩, hne, HP6.out, fun y => by
    unfold updL
    split
    · simp [BIG_eq]
    · simp⟩
  case round =>
    obtain ⟨fl, L, rk, fr, R, rfl, hgk, hg, hIL, hIR, hem, hrk, hPd, hRl⟩ := hrel
    have HG := hide hg
    have HIL := hide hIL
    have HIR := hide hIR
    have HE := hide hem
    have HPd := hide hPd
    have HRl := hide hRl
    have HGK := hide hgk
    have hlen := fun ty => MapL.len hIR.map Tryz.underlying81 ty
    obtain ⟨c, hc⟩ : ∃ c, cntV P fr = c := ⟨_, rfl⟩
    rw [hc] at hlen HE HGK
    clear hg hIL hIR hem hPd hRl hgk hc GW6 HL6 HR6 HP6 hc6
    by_cases h0 : c = 0
    · subst h0
      go_wp2_with fail
      go_ret
      first
        | exact ⟨lb, fl, L, rfl, HG.out, hlw, HIL.out, HPd.out.done (HE.out.1 (by simp))⟩
        | exact ⟨lb, rfl, HG.out, hlw, fl, L, HIL.out, HPd.out.done (HE.out.1 (by simp))⟩
        | exact ⟨lb, rfl, HG.out, hlw, ⟨fl, L, HIL.out, HPd.out.done (HE.out.1 (by simp))⟩⟩
    · have hc0 : (0 : Int) < (c : Int) := by omega
      have hLL : ∀ y, ∀ s ∈ L y, Like f (dep y) s := fun y s hs => (HW.out y s (HPd.out.part.way y s hs)).2
      have hRL : ∀ y, ∀ s ∈ R y, Like f (dep y) s := fun y s hs => (HW.out y s (HPd.out.way y s hs)).2
      have HRL := hide hRL
      have CA := hide (padd_any lb rk P fl fr L R f dep wr hP HIL.out HIR.out hrk HPd.out.part.ch hLL hRL HRl.out)
      clear hLL hRL
      go_wp2_with fail
      refine CA.out.mono ?_
      rintro _ w2 ⟨fb, fl2, ff, rfl, hg2, hI2, hF2⟩
      have G2 := hide (growL_step HG.out hg2 hlw)
      have HI2 := hide hI2
      have CF := hide (further_any sb fb P fs ff T (fun y => freshL (L y) (R y)) w2 hP (HM.out.later G2.out) hF2.is HSS.out.to HSS.out.few (fun y => freshL_len (HRL.out y)))
      have hlb2 : lb < w2.heap.size := hI2.map.lt
      clear hg2 hI2 hF2 CA HG HIL HIR hlen
      go_wp2_with fail
      refine CF.out.mono ?_
      rintro _ w3 ⟨rb3, fr3, R3, rfl, hg3, hG3, hmem, hl3⟩
      have G3 := hide (Grow.trans' G2.out hg3)
      have HI3 := hide (HI2.out.later hg3)
      have HR3 := hide hG3.is
      have HE3 := hide hG3.empty
      have hrk3 : rb3 ≠ lb := by have := hG3.lo; omega
      have HMm := hide hmem
      have HL3 := hide hl3
      have hP3 : Pend S x s0 (fun b => addL (L b) (R b)) R3 := HPd.out.round H0.out fun b s => by
        rw [HMm.out]
        constructor
        · rintro ⟨a, ha, hs⟩
          obtain ⟨y, hy, e, r, hr, he, rfl⟩ := mem_conL.1 hs
          exact ⟨⟨a, y.b, y.r⟩, (HSS.out.mem _).2 ⟨ha, hy⟩, e, r, hr, he, rfl⟩
        · rintro ⟨y, hy, e, r, hr, he, rfl⟩
          obtain ⟨ha, hy'⟩ := (HSS.out.mem y).1 hy
          exact ⟨y.a, ha, mem_conL.2 ⟨_, hy', e, r, hr, he, rfl⟩⟩
      have HP3 := hide hP3
      have HM3 : Hid (todoL P f dep (fun b => addL (L b) (R b)) (cntV P fr3) < gk) := hide (by
        rw [HGK.out]
        refine todoL_lt h0 HRL.out fun h => ?_
        have h1 : ¬ ∀ b, R3 b = [] := fun k => h (HE3.out.2 k)
        obtain ⟨b, hb⟩ := Classical.not_forall.1 h1
        obtain ⟨s, hs⟩ := List.exists_mem_of_ne_nil _ hb
        obtain ⟨a, ha, hs'⟩ := (HMm.out b s).1 hs
        refine ⟨a, ha, fun k => ?_⟩
        rw [k, conL_nil] at hs'
        cases hs')
      clear hg3 hG3 hmem hl3 hP3 CF HI2 HRL
      go_wp2_with fail
      go_roundg (todoL P f dep (fun b => addL (L b) (R b)) (cntV P fr3))
      case rel => exact ⟨_, _, rb3, fr3, R3, rfl, rfl, G3.out, HI3.out, HR3.out, HE3.out, hrk3, HP3.out, HL3.out⟩
      case measure => exact HM3.out

end Go.Proofs.YtehianjfpmbfpaaGreat
