/-
  What the document's own Next, Prev, Same and Numbers do to the world: Next and Prev tell the plain rows, Same and Numbers whether two rows are the same; what was there stays as it was.
-/
import Derived.Test.YtjpaclcpebpcjaaHBlk
import Derived.Test.YtjpaclcpebpcjaaEndG
namespace Go.Proofs.Ytjpaclcpebpcjaa
set_option maxRecDepth 100000
open Go.RowKit Go.Sort
set_option linter.unusedVariables false
set_option linter.unusedSimpArgs false
attribute [local go_sem ↓] eqLc

theorem sameRow_iff {α : Type} (d e : List α) : d = e ↔ d.length = e.length ∧ ∀ k (h1 : k < d.length) (h2 : k < e.length), d[k] = e[k] :=
  ⟨fun h => by subst h; exact ⟨rfl, fun _ _ _ => rfl⟩, fun ⟨h1, h2⟩ => List.ext_getElem h1 h2⟩
set_option maxHeartbeats 1000000 in
theorem sameL_len (s s' : Option Addr) (cap cap' n m : Nat) (w : World) (hn : n ≠ m) :
    Calls Try.prog 21 #[.slice s n cap, .slice s' m cap'] w fun e w' => e = .returned (.bool false) ∧ Grow w w' := by
  have h : ¬ ((n : Int) = (m : Int)) := by omega
  go_enter Try.func21, Try.ntmps21
  go_wp2
  all_goals go_ret
  all_goals exact ⟨rfl, below_drewN (Below.refl _ _) 0⟩
set_option maxHeartbeats 2000000 in
theorem sameL_eqlen (s s' : Option Addr) (cap cap' n : Nat) (d e : List Lc) (w : World) (hbig : n ≤ 1000000) (h1 : IsLcs w s n cap d) (h2 : IsLcs w s' n cap' e) :
    Calls Try.prog 21 #[.slice s n cap, .slice s' n cap'] w fun e' w' => (∃ p : Bool, e' = .returned (.bool p) ∧ (p = true ↔ d = e)) ∧ Grow w w' := by
  have H1 := hide h1.2.2
  have H2 := hide h2.2.2
  have HD := hide h1.1
  have HE := hide h2.1
  clear h1 h2
  go_enter Try.func21, Try.ntmps21
  go_wp2
  go_loopw [5] (fun i wr => ∃ k : Nat, k ≤ n ∧ i = .int .i64 k ∧ (∃ q, wr = w.drewN q) ∧ ∀ j (a : j < d.length) (b : j < e.length), j < k → d[j] = e[j]) (fun i _ => n - (intOf i).toNat)
  case atStart => exact ⟨0, Nat.zero_le _, rfl, ⟨0, rfl⟩, fun j a b h => by omega⟩
  case round =>
    obtain ⟨k, hk, rfl, ⟨q, rfl⟩, hall⟩ := hrel
    have HA := hide hall
    clear hall
    by_cases hlt : k < n
    · have hkd : k < d.length := by rw [HD.out]; exact hlt
      have hke : k < e.length := by rw [HE.out]; exact hlt
      have hne : ¬ d = [] := fun h => by rw [h] at hkd; simp at hkd
      have hne' : ¬ e = [] := fun h => by rw [h] at hke; simp at hke
      obtain ⟨b, o, rfl, hr1⟩ := H1.out.resolve_left hne
      obtain ⟨b', o', rfl, hr2⟩ := H2.out.resolve_left hne'
      obtain ⟨p0, p1⟩ := hr1.at k hkd
      obtain ⟨q0, q1⟩ := hr2.at k hke
      obtain ⟨x, hx⟩ : ∃ x, x = d[k] := ⟨_, rfl⟩
      obtain ⟨y, hy⟩ : ∃ y, y = e[k] := ⟨_, rfl⟩
      rw [← hx] at p0 p1
      rw [← hy] at q0 q1
      have HX := hide hx
      have HY := hide hy
      have hi1 : (0 : Int) ≤ (k : Int) := by omega
      have hi2 : (k : Int) < (n : Int) := by omega
      clear hne hne' hr1 hr2 hx hy
      cases es : eqL x y
      · go_wp2
        go_quiet (fail)
        go_wp2
        go_ret
        refine ⟨⟨false, rfl, ?_⟩, ?_⟩
        · constructor
          · intro h; cases h
          · intro h
            subst h
            have : x = y := HX.out.trans HY.out.symm
            rw [(eqL_iff x y).2 this] at es; cases es
        · first | exact below_drewN (Below.refl _ _) _ | exact below_drewN (below_drewN (Below.refl _ _) _) _
      · have hxy := (eqL_iff x y).1 es
        have HXY := hide hxy
        clear hxy
        go_wp2
        go_quiet (fail)
        go_wp2
        go_roundw
        case rel =>
          refine ⟨k + 1, by omega, by go_num, ⟨_, rfl⟩, fun j a b h => ?_⟩
          by_cases hj : j < k
          · exact HA.out j a b hj
          · have : j = k := by omega
            subst this
            exact HX.out.symm.trans (HXY.out.trans HY.out)
        case measure => simp [intOf]; omega
    · go_wp2
      go_ret
      refine ⟨⟨true, rfl, ?_⟩, below_drewN (Below.refl _ _) _⟩
      have : d = e := (sameRow_iff d e).2 ⟨by rw [HD.out, HE.out], fun j a b => HA.out j a b (by rw [HD.out] at a; omega)⟩
      simp [this]
/-- A row and itself. -/
theorem sameL_self (s s' : Option Addr) (cap cap' n m : Nat) (d : List Lc) (w : World) (hbig : n ≤ 1000000) (h1 : IsLcs w s n cap d) (h2 : IsLcs w s' m cap' d) :
    Calls Try.prog 21 #[.slice s n cap, .slice s' m cap'] w fun e' w' => e' = .returned (.bool true) ∧ Grow w w' := by
  have h : m = n := by rw [← h1.1, ← h2.1]
  subst h
  refine (sameL_eqlen s s' cap cap' m d d w hbig h1 h2).mono fun e' w' ⟨⟨q, hq, hr⟩, hg⟩ => ⟨?_, hg⟩
  rw [hq, hr.2 rfl]
set_option maxHeartbeats 1000000 in
theorem numsR_len (s s' : Option Addr) (cap cap' n m : Nat) (w : World) (hn : n ≠ m) :
    Calls Try.prog 26 #[.slice s n cap, .slice s' m cap'] w fun e w' => e = .returned (.bool false) ∧ Grow w w' := by
  have h : ¬ ((n : Int) = (m : Int)) := by omega
  go_enter Try.func26, Try.ntmps26
  go_wp2
  all_goals go_ret
  all_goals exact ⟨rfl, below_drewN (Below.refl _ _) 0⟩
set_option maxHeartbeats 2000000 in
theorem numsR_eqlen (s s' : Option Addr) (cap cap' n : Nat) (d e : List Int) (w : World) (hbig : n ≤ 1000000) (h1 : IsIns w s n cap d) (h2 : IsIns w s' n cap' e) :
    Calls Try.prog 26 #[.slice s n cap, .slice s' n cap'] w fun e' w' => (∃ p : Bool, e' = .returned (.bool p) ∧ (p = true ↔ d = e)) ∧ Grow w w' := by
  have H1 := hide h1.2.2
  have H2 := hide h2.2.2
  have HD := hide h1.1
  have HE := hide h2.1
  clear h1 h2
  go_enter Try.func26, Try.ntmps26
  go_wp2
  go_loopw [5] (fun i wr => ∃ k : Nat, k ≤ n ∧ i = .int .i64 k ∧ (∃ q, wr = w.drewN q) ∧ ∀ j (a : j < d.length) (b : j < e.length), j < k → d[j] = e[j]) (fun i _ => n - (intOf i).toNat)
  case atStart => exact ⟨0, Nat.zero_le _, rfl, ⟨0, rfl⟩, fun j a b h => by omega⟩
  case round =>
    obtain ⟨k, hk, rfl, ⟨q, rfl⟩, hall⟩ := hrel
    have HA := hide hall
    clear hall
    by_cases hlt : k < n
    · have hkd : k < d.length := by rw [HD.out]; exact hlt
      have hke : k < e.length := by rw [HE.out]; exact hlt
      have hne : ¬ d = [] := fun h => by rw [h] at hkd; simp at hkd
      have hne' : ¬ e = [] := fun h => by rw [h] at hke; simp at hke
      obtain ⟨b, o, rfl, hr1⟩ := H1.out.resolve_left hne
      obtain ⟨b', o', rfl, hr2⟩ := H2.out.resolve_left hne'
      have p0 := hr1.at k hkd
      have q0 := hr2.at k hke
      obtain ⟨x, hx⟩ : ∃ x, x = d[k] := ⟨_, rfl⟩
      obtain ⟨y, hy⟩ : ∃ y, y = e[k] := ⟨_, rfl⟩
      rw [← hx] at p0 
      rw [← hy] at q0 
      have HX := hide hx
      have HY := hide hy
      have hi1 : (0 : Int) ≤ (k : Int) := by omega
      have hi2 : (k : Int) < (n : Int) := by omega
      clear hne hne' hr1 hr2 hx hy
      cases es : (x == y)
      · go_wp2
        go_quiet (fail)
        go_wp2
        go_ret
        refine ⟨⟨false, rfl, ?_⟩, ?_⟩
        · constructor
          · intro h; cases h
          · intro h
            subst h
            have : x = y := HX.out.trans HY.out.symm
            rw [this] at es; simp at es
        · first | exact below_drewN (Below.refl _ _) _ | exact below_drewN (below_drewN (Below.refl _ _) _) _
      · have hxy := eq_of_beq es
        have HXY := hide hxy
        clear hxy
        go_wp2
        go_quiet (fail)
        go_wp2
        go_roundw
        case rel =>
          refine ⟨k + 1, by omega, by go_num, ⟨_, rfl⟩, fun j a b h => ?_⟩
          by_cases hj : j < k
          · exact HA.out j a b hj
          · have : j = k := by omega
            subst this
            exact HX.out.symm.trans (HXY.out.trans HY.out)
        case measure => simp [intOf]; omega
    · go_wp2
      go_ret
      refine ⟨⟨true, rfl, ?_⟩, below_drewN (Below.refl _ _) _⟩
      have : d = e := (sameRow_iff d e).2 ⟨by rw [HD.out, HE.out], fun j a b => HA.out j a b (by rw [HD.out] at a; omega)⟩
      simp [this]
/-- A row and itself. -/
theorem numsR_self (s s' : Option Addr) (cap cap' n m : Nat) (d : List Int) (w : World) (hbig : n ≤ 1000000) (h1 : IsIns w s n cap d) (h2 : IsIns w s' m cap' d) :
    Calls Try.prog 26 #[.slice s n cap, .slice s' m cap'] w fun e' w' => e' = .returned (.bool true) ∧ Grow w w' := by
  have h : m = n := by rw [← h1.1, ← h2.1]
  subst h
  refine (numsR_eqlen s s' cap cap' m d d w hbig h1 h2).mono fun e' w' ⟨⟨q, hq, hr⟩, hg⟩ => ⟨?_, hg⟩
  rw [hq, hr.2 rfl]

/-- A slice that the call owns, at the end of append. -/
def AppL (base n : Nat) (d : List Lc) (v : Value) (w : World) : Prop := ∃ s2 c2, v = .slice s2 n c2 ∧ OwnL w base s2 n c2 d ∧ True
theorem AppL.later {base n : Nat} {d : List Lc} {v : Value} {w w' : World} (hg : Grow w w') : AppL base n d v w → AppL base n d v w' := fun ⟨s2, c2, e, h, l⟩ => ⟨s2, c2, e, h.later hg, l⟩
/-- A new slice of one place. -/
def OneL (t : Lc) (v : Value) (w : World) : Prop := ∃ g, v = .slice (some ⟨g, 0, none⟩) 1 1 ∧ IsLcs w (some ⟨g, 0, none⟩) 1 1 [t]
theorem OneL.later {t : Lc} {v : Value} {w w' : World} (hg : Grow w w') : OneL t v w → OneL t v w' := fun ⟨g, e, h⟩ => ⟨g, e, h.later hg⟩
theorem oneL_new (w : World) (t : Lc) : OneL t (.slice (some ⟨w.heap.size, 0, none⟩) 1 1) (w.alloc (.cells #[.int .i64 t.n, .int .i64 t.p] 25)) := ⟨_, rfl, isLcs_one w t⟩
theorem run_apL {ws w : World} (hg : Grow ws w) (rt : TypeId) (s : Option Addr) (n cap : Nat) (d e : List Lc) (hown : OwnL w ws.heap.size s n cap d) (s' : Option Addr) (m c : Nat) (he : IsLcs w s' m c e) (hlen : n + m ≤ 1000000) :
    ∃ s2 c2 w2, (Builtin.append_ #[42, 42] rt #[.slice s n cap, .slice s' m c]).run Try.prog w = .ok (.slice s2 (n + m) c2) w2
      ∧ OwnL w2 ws.heap.size s2 (n + m) c2 (d ++ e) ∧ Grow ws w2 ∧ True := by
  obtain ⟨s2, c2, w2, h1, h2, h3⟩ := run_ap_lc w rt ws.heap.size s n cap d e hown s' m c he hlen hg.size
  exact ⟨s2, c2, w2, h1, h2, (GrewBut.mk h3 fun b hb => (hown.lt b hb).2).grow hg (Nat.le_refl _), trivial⟩

set_option maxHeartbeats 4000000 in
theorem rnext_raw (gs : Option Addr) (gn gc : Nat) (gt : Option Addr) (gm gq : Nat) (E : List Ed) (i : Int) (w : World) (hm : gm ≤ 40) (hg : IsEds w gt gm gq E) :
    Calls Try.prog 25 #[.agg #[.slice gs gn gc, .slice gt gm gq], .int .i64 i] w fun e w' => ∃ s n c, e = .returned (.slice s n c) ∧ Grow w w' ∧ OwnL w' w.heap.size s n c (nextP E i) := by
  have GG : Hid (Grow w (w.alloc (.cells #[.slice gs gn gc, .slice gt gm gq] 39))) := hide (Grow.alloc' _ _)
  have KG : Hid (BoxG (w.alloc (.cells #[.slice gs gn gc, .slice gt gm gq] 39)) w.heap.size ⟨gs, gn, gc, gt, gm, gq, [], []⟩) := hide (BoxG.new w ⟨gs, gn, gc, gt, gm, gq, [], []⟩)
  have HI := hide (hg.later GG.out)
  clear hg
  have G1 : Hid (Grow (w.alloc (.cells #[.slice gs gn gc, .slice gt gm gq] 39)) ((w.alloc (.cells #[.slice gs gn gc, .slice gt gm gq] 39)).alloc (.cells #[] 25))) := hide (Grow.alloc' _ _)
  have O1 : Hid (OwnL ((w.alloc (.cells #[.slice gs gn gc, .slice gt gm gq] 39)).alloc (.cells #[] 25)) (w.alloc (.cells #[.slice gs gn gc, .slice gt gm gq] 39)).heap.size (some ⟨w.heap.size + 1, 0, none⟩) 0 0 []) := hide (by have := OwnL.lit0 (w.alloc (.cells #[.slice gs gn gc, .slice gt gm gq] 39)) _ (Nat.le_refl _); simpa using this)
  go_enter Try.func25, Try.ntmps25
  go_wp2_with fail
  generalize (w.alloc (.cells #[.slice gs gn gc, .slice gt gm gq] 39)) = w0 at *
  generalize w.heap.size = P at *
  go_loopw [5, 6] (fun v ix wr => ∃ (k : Nat) (s : Option Addr) (m c : Nat), k ≤ gm ∧ m ≤ k ∧ v = .slice s m c ∧ ix = .int .i64 k ∧ Grow w0 wr ∧ OwnL wr w0.heap.size s m c (nextP (E.take k) i)) (fun _ ix _ => gm - (intOf ix).toNat)
  case atStart => exact ⟨0, _, 0, 0, Nat.zero_le _, Nat.le_refl _, rfl, rfl, G1.out, by simpa [nextP] using O1.out⟩
  case round =>
    obtain ⟨k, s, m, c, hk, hmk, rfl, rfl, hg, hO⟩ := hrel
    have HG := hide hg
    have HO := hide hO
    obtain ⟨g0, g1⟩ := KG.out.later hg
    dsimp only at g0 g1
    clear g0
    by_cases hlt : k < gm
    · have hkd : k < E.length := by rw [HI.out.1]; exact hlt
      have hne : ¬ E = [] := fun h => by rw [h] at hkd; simp at hkd
      obtain ⟨be, o, rfl, hr1⟩ := HI.out.2.2.resolve_left hne
      obtain ⟨p0, p1, p2⟩ := (hr1.later hg).at k hkd
      have HS := hide (nextP_step E i k hkd)
      obtain ⟨x, hx⟩ : ∃ x, x = E[k] := ⟨_, rfl⟩
      rw [← hx] at p0 p1 p2 HS
      obtain ⟨xf, xt, xp⟩ := x
      dsimp only at p0 p1 p2 HS
      have PB := hide p1
      have PC := hide p2
      have PG := hide g1
      have hi1 : (0 : Int) ≤ (k : Int) := by omega
      have hi2 : (k : Int) < (gm : Int) := by omega
      have HR1 : Hid (∀ wq, Grow w0 wq → wq.cell? ⟨be, o + k * 3 + 1, none⟩ = some (.int .i64 xt) ∧ wq.cell? ⟨be, o + k * 3 + 2, none⟩ = some (.int .i64 xp)) := hide (fun wq hq => by
        have := (hr1.later hq).at k hkd
        rw [← hx] at this
        exact ⟨this.2.1, this.2.2⟩)
      clear hne hr1 hx hkd hg hO p1 p2
      obtain ⟨T, hT⟩ : ∃ T, T = nextP (E.take k) i := ⟨_, rfl⟩
      rw [← hT] at HS HO
      clear hT
      by_cases hc : xf = i
      · subst hc
        have HT := hide (show nextP (E.take (k + 1)) xf = T ++ [⟨xt, xp⟩] by rw [HS.out, if_pos rfl])
        clear HS
        go_wp2_with fail
        clear p0 g1
        have HGG : ∀ wa wb, Grow w0 wa → Grow wa wb → Grow w0 wb := fun _ _ h q => Grow.trans' h q
        have HBG : ∀ wa wb, Grow wa wb → OwnL wa w0.heap.size s m c T → OwnL wb w0.heap.size s m c T := fun _ _ q h => h.later q
        have HG0 : ∀ w', Grow wr w' → w'.heap = wr.heap → Grow w0 w' := fun _ h _ => Grow.trans' HG.out h
        have HB0 : ∀ w', Grow wr w' → w'.heap = wr.heap → OwnL w' w0.heap.size s m c T := fun _ h _ => HO.out.later h
        have HKG : ∀ w', Grow w0 w' → w'.cell? ⟨P, 1, none⟩ = some (.slice (some ⟨be, o, none⟩) gm gq) := fun w' h => (KG.out.later h).2
        have HP1 : ∀ w', Grow w0 w' → w'.cell? ⟨be, o + k * 3 + 1, none⟩ = some (.int .i64 xt) := fun w' h => (HR1.out w' h).1
        have HP2 : ∀ w', Grow w0 w' → w'.cell? ⟨be, o + k * 3 + 2, none⟩ = some (.int .i64 xp) := fun w' h => (HR1.out w' h).2
        let FF : Nat → Value → World → Prop := fun i vF wF => match i with | 0 => vF = .slice s m c | 1 => vF = .pointer (some ⟨P, 1, none⟩) | 2 => vF = .slice (some ⟨be, o, none⟩) gm gq | 3 => vF = .int .i64 (k : Int) | 4 => vF = .pointer (some ⟨be, o + k * 3, none⟩) | 5 => vF = .pointer (some ⟨be, o + k * 3 + 1, none⟩) | 6 => vF = .int .i64 xt | 7 => vF = .pointer (some ⟨P, 1, none⟩) | 8 => vF = .slice (some ⟨be, o, none⟩) gm gq | 9 => vF = .int .i64 (k : Int) | 10 => vF = .pointer (some ⟨be, o + k * 3, none⟩) | 11 => vF = .pointer (some ⟨be, o + k * 3 + 2, none⟩) | 12 => vF = .int .i64 xp | 13 => vF = .agg #[.int .i64 xt, .int .i64 xp] | 14 => OneL ⟨xt, xp⟩ vF wF | 15 => AppL w0.heap.size (m + 1) (T ++ [⟨xt, xp⟩]) vF wF | _ => True
        let GG : World → Prop := fun w' => Grow w0 w'
        let BB : World → Prop := fun w' => OwnL w' w0.heap.size s m c T
        have hstab : ∀ k v w1 w2, Grow w1 w2 → FF k v w1 → FF k v w2 := by
          intro k v w1 w2 hg h
          match k with
          | 0 => exact h
          | 1 => exact h
          | 2 => exact h
          | 3 => exact h
          | 4 => exact h
          | 5 => exact h
          | 6 => exact h
          | 7 => exact h
          | 8 => exact h
          | 9 => exact h
          | 10 => exact h
          | 11 => exact h
          | 12 => exact h
          | 13 => exact h
          | 14 => exact OneL.later hg h
          | 15 => exact AppL.later hg h
          | k + 16 => exact trivial
        have hGg : ∀ w1 w2, GG w1 → Grow w1 w2 → GG w2 := HGG
        have hBg : ∀ w1 w2, Grow w1 w2 → BB w1 → BB w2 := HBG
        refine wp_region_endG FF GG BB (fun i => match i with | 14 => some 15 | _ => none) 15 16 _ rfl rfl rfl (by kernel_rfl) (by kernel_rfl) HG0 HB0 ?_ ?_
        · refine ⟨?_, ?_, ?_, ?_, ?_, ?_, ?_, ?_, ?_, ?_, ?_, ?_, ?_, ?_, ?_, ?_, trivial⟩
          · refine stepG_run hGg hBg hstab rfl ?_
            intro a' w' hg hs hd hb
            have e5 : a'.eval (.tmp 5) = .slice s m c := hs.rest 5 rfl
            have ec : ∀ v, a'.eval (.const v) = v := fun _ => rfl
            have ef : ∀ g, a'.eval (.func g) = .func (.func g) #[] #[] := fun _ => rfl
            clear hd hs
            refine wpv (v := .slice s m c) ?_ ⟨_, rfl, Grow.rfl' _, rfl⟩
            (generalize a'.eval = ev at ec ef e5 ⊢; simp [execOp, go_sem, *])
          · refine stepG_run hGg hBg hstab rfl ?_
            intro a' w' hg hs hd hb
            have e2 : a'.eval (.tmp 2) = .pointer (some ⟨P, 0, none⟩) := hs.rest 2 rfl
            have ec : ∀ v, a'.eval (.const v) = v := fun _ => rfl
            have ef : ∀ g, a'.eval (.func g) = .func (.func g) #[] #[] := fun _ => rfl
            clear hd hs
            refine wpv (v := .pointer (some ⟨P, 1, none⟩)) ?_ ⟨_, rfl, Grow.rfl' _, rfl⟩
            (generalize a'.eval = ev at ec ef e2 ⊢; simp [execOp, go_sem, *])
          · refine stepG_run hGg hBg hstab rfl ?_
            intro a' w' hg hs hd hb
            have e24 : a'.eval (.tmp 24) = .pointer (some ⟨P, 1, none⟩) := hd ⟨1, Ground.data⟩ (by simp) rfl rfl
            have ec : ∀ v, a'.eval (.const v) = v := fun _ => rfl
            have ef : ∀ g, a'.eval (.func g) = .func (.func g) #[] #[] := fun _ => rfl
            have p0 := HKG w' hg
            clear hd hs
            refine wpv (v := .slice (some ⟨be, o, none⟩) gm gq) ?_ ⟨_, rfl, Grow.rfl' _, rfl⟩
            (generalize a'.eval = ev at ec ef e24 ⊢; simp [execOp, go_sem, *])
          · refine stepG_run hGg hBg hstab rfl ?_
            intro a' w' hg hs hd hb
            have e6 : a'.eval (.tmp 6) = .int .i64 (k : Int) := hs.rest 6 rfl
            have ec : ∀ v, a'.eval (.const v) = v := fun _ => rfl
            have ef : ∀ g, a'.eval (.func g) = .func (.func g) #[] #[] := fun _ => rfl
            clear hd hs
            refine wpv (v := .int .i64 (k : Int)) ?_ ⟨_, rfl, Grow.rfl' _, rfl⟩
            (generalize a'.eval = ev at ec ef e6 ⊢; simp [execOp, go_sem, *])
          · refine stepG_run hGg hBg hstab rfl ?_
            intro a' w' hg hs hd hb
            have e25 : a'.eval (.tmp 25) = .slice (some ⟨be, o, none⟩) gm gq := hd ⟨2, Ground.data⟩ (by simp) rfl rfl
            have e26 : a'.eval (.tmp 26) = .int .i64 (k : Int) := hd ⟨3, Ground.data⟩ (by simp) rfl rfl
            have ec : ∀ v, a'.eval (.const v) = v := fun _ => rfl
            have ef : ∀ g, a'.eval (.func g) = .func (.func g) #[] #[] := fun _ => rfl
            clear hd hs
            refine wpv (v := .pointer (some ⟨be, o + k * 3, none⟩)) ?_ ⟨_, rfl, Grow.rfl' _, rfl⟩
            (generalize a'.eval = ev at ec ef e25 e26 ⊢; simp [execOp, go_sem, *])
          · refine stepG_run hGg hBg hstab rfl ?_
            intro a' w' hg hs hd hb
            have e27 : a'.eval (.tmp 27) = .pointer (some ⟨be, o + k * 3, none⟩) := hd ⟨4, Ground.data⟩ (by simp) rfl rfl
            have ec : ∀ v, a'.eval (.const v) = v := fun _ => rfl
            have ef : ∀ g, a'.eval (.func g) = .func (.func g) #[] #[] := fun _ => rfl
            clear hd hs
            refine wpv (v := .pointer (some ⟨be, o + k * 3 + 1, none⟩)) ?_ ⟨_, rfl, Grow.rfl' _, rfl⟩
            (generalize a'.eval = ev at ec ef e27 ⊢; simp [execOp, go_sem, *])
          · refine stepG_run hGg hBg hstab rfl ?_
            intro a' w' hg hs hd hb
            have e28 : a'.eval (.tmp 28) = .pointer (some ⟨be, o + k * 3 + 1, none⟩) := hd ⟨5, Ground.data⟩ (by simp) rfl rfl
            have ec : ∀ v, a'.eval (.const v) = v := fun _ => rfl
            have ef : ∀ g, a'.eval (.func g) = .func (.func g) #[] #[] := fun _ => rfl
            have p0 := HP1 w' hg
            clear hd hs
            refine wpv (v := .int .i64 xt) ?_ ⟨_, rfl, Grow.rfl' _, rfl⟩
            (generalize a'.eval = ev at ec ef e28 ⊢; simp [execOp, go_sem, *])
          · refine stepG_run hGg hBg hstab rfl ?_
            intro a' w' hg hs hd hb
            have e2 : a'.eval (.tmp 2) = .pointer (some ⟨P, 0, none⟩) := hs.rest 2 rfl
            have ec : ∀ v, a'.eval (.const v) = v := fun _ => rfl
            have ef : ∀ g, a'.eval (.func g) = .func (.func g) #[] #[] := fun _ => rfl
            clear hd hs
            refine wpv (v := .pointer (some ⟨P, 1, none⟩)) ?_ ⟨_, rfl, Grow.rfl' _, rfl⟩
            (generalize a'.eval = ev at ec ef e2 ⊢; simp [execOp, go_sem, *])
          · refine stepG_run hGg hBg hstab rfl ?_
            intro a' w' hg hs hd hb
            have e30 : a'.eval (.tmp 30) = .pointer (some ⟨P, 1, none⟩) := hd ⟨7, Ground.data⟩ (by simp) rfl rfl
            have ec : ∀ v, a'.eval (.const v) = v := fun _ => rfl
            have ef : ∀ g, a'.eval (.func g) = .func (.func g) #[] #[] := fun _ => rfl
            have p0 := HKG w' hg
            clear hd hs
            refine wpv (v := .slice (some ⟨be, o, none⟩) gm gq) ?_ ⟨_, rfl, Grow.rfl' _, rfl⟩
            (generalize a'.eval = ev at ec ef e30 ⊢; simp [execOp, go_sem, *])
          · refine stepG_run hGg hBg hstab rfl ?_
            intro a' w' hg hs hd hb
            have e6 : a'.eval (.tmp 6) = .int .i64 (k : Int) := hs.rest 6 rfl
            have ec : ∀ v, a'.eval (.const v) = v := fun _ => rfl
            have ef : ∀ g, a'.eval (.func g) = .func (.func g) #[] #[] := fun _ => rfl
            clear hd hs
            refine wpv (v := .int .i64 (k : Int)) ?_ ⟨_, rfl, Grow.rfl' _, rfl⟩
            (generalize a'.eval = ev at ec ef e6 ⊢; simp [execOp, go_sem, *])
          · refine stepG_run hGg hBg hstab rfl ?_
            intro a' w' hg hs hd hb
            have e31 : a'.eval (.tmp 31) = .slice (some ⟨be, o, none⟩) gm gq := hd ⟨8, Ground.data⟩ (by simp) rfl rfl
            have e32 : a'.eval (.tmp 32) = .int .i64 (k : Int) := hd ⟨9, Ground.data⟩ (by simp) rfl rfl
            have ec : ∀ v, a'.eval (.const v) = v := fun _ => rfl
            have ef : ∀ g, a'.eval (.func g) = .func (.func g) #[] #[] := fun _ => rfl
            clear hd hs
            refine wpv (v := .pointer (some ⟨be, o + k * 3, none⟩)) ?_ ⟨_, rfl, Grow.rfl' _, rfl⟩
            (generalize a'.eval = ev at ec ef e31 e32 ⊢; simp [execOp, go_sem, *])
          · refine stepG_run hGg hBg hstab rfl ?_
            intro a' w' hg hs hd hb
            have e33 : a'.eval (.tmp 33) = .pointer (some ⟨be, o + k * 3, none⟩) := hd ⟨10, Ground.data⟩ (by simp) rfl rfl
            have ec : ∀ v, a'.eval (.const v) = v := fun _ => rfl
            have ef : ∀ g, a'.eval (.func g) = .func (.func g) #[] #[] := fun _ => rfl
            clear hd hs
            refine wpv (v := .pointer (some ⟨be, o + k * 3 + 2, none⟩)) ?_ ⟨_, rfl, Grow.rfl' _, rfl⟩
            (generalize a'.eval = ev at ec ef e33 ⊢; simp [execOp, go_sem, *])
          · refine stepG_run hGg hBg hstab rfl ?_
            intro a' w' hg hs hd hb
            have e34 : a'.eval (.tmp 34) = .pointer (some ⟨be, o + k * 3 + 2, none⟩) := hd ⟨11, Ground.data⟩ (by simp) rfl rfl
            have ec : ∀ v, a'.eval (.const v) = v := fun _ => rfl
            have ef : ∀ g, a'.eval (.func g) = .func (.func g) #[] #[] := fun _ => rfl
            have p0 := HP2 w' hg
            clear hd hs
            refine wpv (v := .int .i64 xp) ?_ ⟨_, rfl, Grow.rfl' _, rfl⟩
            (generalize a'.eval = ev at ec ef e34 ⊢; simp [execOp, go_sem, *])
          · refine stepG_run hGg hBg hstab rfl ?_
            intro a' w' hg hs hd hb
            have e29 : a'.eval (.tmp 29) = .int .i64 xt := hd ⟨6, Ground.data⟩ (by simp) rfl rfl
            have e35 : a'.eval (.tmp 35) = .int .i64 xp := hd ⟨12, Ground.data⟩ (by simp) rfl rfl
            have ec : ∀ v, a'.eval (.const v) = v := fun _ => rfl
            have ef : ∀ g, a'.eval (.func g) = .func (.func g) #[] #[] := fun _ => rfl
            clear hd hs
            refine wpv (v := .agg #[.int .i64 xt, .int .i64 xp]) ?_ ⟨_, rfl, Grow.rfl' _, rfl⟩
            (generalize a'.eval = ev at ec ef e29 e35 ⊢; simp [execOp, go_sem, *])
          · refine stepG_run hGg hBg hstab rfl ?_
            intro a' w' hg hs hd hb
            have e36 : a'.eval (.tmp 36) = .agg #[.int .i64 xt, .int .i64 xp] := hd ⟨13, Ground.data⟩ (by simp) rfl rfl
            have ec : ∀ v, a'.eval (.const v) = v := fun _ => rfl
            have ef : ∀ g, a'.eval (.func g) = .func (.func g) #[] #[] := fun _ => rfl
            clear hd hs
            refine wpv (v := .slice (some ⟨w'.heap.size, 0, none⟩) 1 1) (w' := w'.alloc (.cells #[.int .i64 xt, .int .i64 xp] 25)) ?_ ⟨_, rfl, Grow.alloc' _ _, oneL_new w' ⟨xt, xp⟩⟩
            (generalize a'.eval = ev at ec ef e36 ⊢; simp [execOp, go_sem, *])
          · refine stepG_take rfl ?_
            intro a' w' hg hs hd hb
            have e23 : a'.eval (.tmp 23) = .slice s m c := hd ⟨0, Ground.data⟩ (by simp) rfl rfl
            obtain ⟨g37, e37, h37⟩ : OneL ⟨xt, xp⟩ (a'.eval (.tmp 37)) w' := hd ⟨14, Ground.data⟩ (by simp) rfl rfl
            have ec : ∀ v, a'.eval (.const v) = v := fun _ => rfl
            have ef : ∀ g, a'.eval (.func g) = .func (.func g) #[] #[] := fun _ => rfl
            clear hd hs
            obtain ⟨s2, c2, w2, hrun, hown, hgr, hlie⟩ := run_apL hg 42 s m c T [⟨xt, xp⟩] (hb rfl) (some ⟨g37, 0, none⟩) 1 1 h37 (by omega)
            refine wpv (v := .slice s2 _ c2) (w' := w2) ?_ ⟨_, rfl, hgr, ⟨s2, c2, rfl, hown, hlie⟩, ?_, fun h _ => absurd rfl h⟩
            rotate_left
            · intro j u hj h
              match j with
              | 0 => exact h
              | 1 => exact h
              | 2 => exact h
              | 3 => exact h
              | 4 => exact h
              | 5 => exact h
              | 6 => exact h
              | 7 => exact h
              | 8 => exact h
              | 9 => exact h
              | 10 => exact h
              | 11 => exact h
              | 12 => exact h
              | 13 => exact h
              | 14 => cases hj
              | 15 => cases hj
              | j + 16 => exact trivial
            · unfold execOp; simp only [resolve, invoke, builtin, Sem.run_bind, Sem.run_pure, Result.andThen_ok, List.map_toArray, List.map_cons, List.map_nil, e23, e37, hrun]
        · intro a' w' hg hs hd
          obtain ⟨sa38, ca38, e38, h38, t38⟩ : AppL w0.heap.size (m + 1) (T ++ [⟨xt, xp⟩]) (a'.eval (.tmp 38)) w' := hd 15 (by omega) rfl
          have ec : ∀ v, a'.eval (.const v) = v := fun _ => rfl
          have ef : ∀ g, a'.eval (.func g) = .func (.func g) #[] #[] := fun _ => rfl
          have HF := hide h38
          have HG3 := hide hg
          refine wpv (v := .slice sa38 (m + 1) ca38) (w' := w') ?_ ?_
          · (generalize a'.eval = ev at ec ef e38 ⊢; simp [execOp, go_sem, *])
          clear h38 t38 e38 ec ef hg HGG HBG HG0 HB0 hGg hBg hstab
          rw [frame_eq hs [false, false, false, false, false, true, false, false, false, false, false, false, false, false, false, false, false, false, false, false, false, false, false, true, true, true, true, true, true, true, true, true, true, true, true, true, true, true, true, false] (by kernel_rfl)]; simp only [mergeL]; clear hs hd; generalize a'.tmps = TT at *; try go_frame
          go_wp2_with fail
          go_roundw
          case rel => exact ⟨k + 1, sa38, m + 1, ca38, by omega, by omega, rfl, by go_num, HG3.out, by rw [HT.out]; exact HF.out⟩
          case measure => simp [intOf]; omega
      · have HT : Hid (OwnL wr w0.heap.size s m c (nextP (E.take (k + 1)) i)) := hide (by rw [HS.out, if_neg hc, List.append_nil]; exact HO.out)
        clear HS HO
        go_wp2_with fail
        go_roundw
        case rel => exact ⟨k + 1, s, m, c, by omega, by omega, rfl, by go_num, HG.out, HT.out⟩
        case measure => simp [intOf]; omega
    · have hkn : E.take k = E := List.take_of_length_le (by rw [HI.out.1]; omega)
      have hi2 : ¬ (k : Int) < (gm : Int) := by omega
      rw [hkn] at HO
      clear hkn hO hg
      go_wp2_with fail
      go_ret
      exact ⟨s, m, c, rfl, Grow.trans' GG.out HG.out, HO.out.rebase (by have := GG.out.size; omega)⟩

set_option maxHeartbeats 4000000 in
theorem rprev_raw (gs : Option Addr) (gn gc : Nat) (gt : Option Addr) (gm gq : Nat) (E : List Ed) (n p : Int) (w : World) (hm : gm ≤ 40) (hg : IsEds w gt gm gq E) :
    Calls Try.prog 28 #[.agg #[.slice gs gn gc, .slice gt gm gq], .agg #[.int .i64 n, .int .i64 p]] w fun e w' => ∃ s m c, e = .returned (.slice s m c) ∧ Grow w w' ∧ OwnI w' w.heap.size s m c (prevP E ⟨n, p⟩) := by
  have GG : Hid (Grow w ((w.alloc (.cells #[.slice gs gn gc, .slice gt gm gq] 39)).alloc (.cells #[.int .i64 n, .int .i64 p] 25))) := hide (Grow.trans' (Grow.alloc' _ _) (Grow.alloc' _ _))
  have KG : Hid (BoxG ((w.alloc (.cells #[.slice gs gn gc, .slice gt gm gq] 39)).alloc (.cells #[.int .i64 n, .int .i64 p] 25)) w.heap.size ⟨gs, gn, gc, gt, gm, gq, [], []⟩) := hide ((BoxG.new w ⟨gs, gn, gc, gt, gm, gq, [], []⟩).later (Grow.alloc' _ _))
  have hz1 : (w.alloc (.cells #[.slice gs gn gc, .slice gt gm gq] 39)).heap.size = w.heap.size + 1 := by simp
  have hz2 : ((w.alloc (.cells #[.slice gs gn gc, .slice gt gm gq] 39)).alloc (.cells #[.int .i64 n, .int .i64 p] 25)).heap.size = w.heap.size + 2 := by simp
  have KL : Hid (BoxL ((w.alloc (.cells #[.slice gs gn gc, .slice gt gm gq] 39)).alloc (.cells #[.int .i64 n, .int .i64 p] 25)) (w.heap.size + 1) ⟨n, p⟩) := hide (by rw [← hz1]; exact BoxL.new _ ⟨n, p⟩)
  have HI := hide (hg.later GG.out)
  have G1 : Hid (Grow ((w.alloc (.cells #[.slice gs gn gc, .slice gt gm gq] 39)).alloc (.cells #[.int .i64 n, .int .i64 p] 25)) (((w.alloc (.cells #[.slice gs gn gc, .slice gt gm gq] 39)).alloc (.cells #[.int .i64 n, .int .i64 p] 25)).alloc (.cells #[] 3))) := hide (Grow.alloc' _ _)
  have O1 : Hid (OwnI (((w.alloc (.cells #[.slice gs gn gc, .slice gt gm gq] 39)).alloc (.cells #[.int .i64 n, .int .i64 p] 25)).alloc (.cells #[] 3)) ((w.alloc (.cells #[.slice gs gn gc, .slice gt gm gq] 39)).alloc (.cells #[.int .i64 n, .int .i64 p] 25)).heap.size (some ⟨w.heap.size + 2, 0, none⟩) 0 0 []) := hide (by have := OwnI.lit0 ((w.alloc (.cells #[.slice gs gn gc, .slice gt gm gq] 39)).alloc (.cells #[.int .i64 n, .int .i64 p] 25)) _ (Nat.le_refl _); rw [hz2] at this ⊢; exact this)
  clear hg hz1 hz2
  go_enter Try.func28, Try.ntmps28
  go_wp2_with fail
  generalize (w.alloc (.cells #[.slice gs gn gc, .slice gt gm gq] 39)).alloc (.cells #[.int .i64 n, .int .i64 p] 25) = w0 at *
  generalize w.heap.size = P at *
  go_loopw [5, 6] (fun v ix wr => ∃ (k : Nat) (s : Option Addr) (m c : Nat), k ≤ gm ∧ m ≤ k ∧ v = .slice s m c ∧ ix = .int .i64 k ∧ Grow w0 wr ∧ OwnI wr w0.heap.size s m c (prevP (E.take k) ⟨n, p⟩)) (fun _ ix _ => gm - (intOf ix).toNat)
  case atStart => exact ⟨0, _, 0, 0, Nat.zero_le _, Nat.le_refl _, rfl, rfl, G1.out, by simpa [prevP] using O1.out⟩
  case round =>
    obtain ⟨k, s, m, c, hk, hmk, rfl, rfl, hg, hO⟩ := hrel
    have HG := hide hg
    have HO := hide hO
    obtain ⟨g0, g1⟩ := KG.out.later hg
    obtain ⟨l0, l1⟩ := KL.out.later hg
    dsimp only at g0 g1 l0 l1
    clear g0
    by_cases hlt : k < gm
    · have hkd : k < E.length := by rw [HI.out.1]; exact hlt
      have hne : ¬ E = [] := fun h => by rw [h] at hkd; simp at hkd
      obtain ⟨be, o, rfl, hr1⟩ := HI.out.2.2.resolve_left hne
      obtain ⟨p0, p1, p2⟩ := (hr1.later hg).at k hkd
      have HS := hide (prevP_step E ⟨n, p⟩ k hkd)
      obtain ⟨x, hx⟩ : ∃ x, x = E[k] := ⟨_, rfl⟩
      rw [← hx] at p0 p1 p2 HS
      have HR1 : Hid (∀ wq, Grow w0 wq → wq.cell? ⟨be, o + k * 3, none⟩ = some (.int .i64 x.f)) := hide (fun wq hq => by
        have := (hr1.later hq).at k hkd
        rw [← hx] at this
        exact this.1)
      obtain ⟨xf, xt, xp⟩ := x
      dsimp only at p0 p1 p2 HS HR1
      have hi1 : (0 : Int) ≤ (k : Int) := by omega
      have hi2 : (k : Int) < (gm : Int) := by omega
      have hsz := hg.size
      clear hne hr1 hx hkd hg hO p0
      obtain ⟨T, hT⟩ : ∃ T, T = prevP (E.take k) ⟨n, p⟩ := ⟨_, rfl⟩
      rw [← hT] at HS HO
      have HKG : Hid (∀ wq, Grow w0 wq → wq.cell? ⟨P, 1, none⟩ = some (.slice (some ⟨be, o, none⟩) gm gq)) := hide (fun w' h => (KG.out.later h).2)
      clear hT
      have hc : (xt = n ∧ xp = p) ∨ (xt = n ∧ ¬ xp = p) ∨ ¬ xt = n := by omega
      rcases hc with ⟨rfl, rfl⟩ | ⟨rfl, hc⟩ | hc
      · have HT := hide (show prevP (E.take (k + 1)) ⟨xt, xp⟩ = T ++ [xf] by rw [HS.out, if_pos ⟨rfl, rfl⟩])
        clear HS
        go_wp2_with fail
        go_quiet (fail)
        have G2 := hide (Grow.trans' HG.out (below_drewN (Below.refl _ _) nq))
        have O2 := hide (HO.out.later (below_drewN (Below.refl _ _) nq))
        clear p1 p2 g1 l0 l1 HG HO hsz
        generalize wr.drewN nq = wz at *
        have g1 := HKG.out wz G2.out
        have p0 := HR1.out wz G2.out
        have hsz := G2.out.size
        go_wp2_with (at_builtin; refine wpList_apd_int rfl _ _ rfl w0.heap.size s m c T [xf] rfl (O2.out.later (Grow.alloc' _ _)) (some ⟨wz.heap.size, 0, none⟩) 1 1 rfl (isIns_one wz xf) (by omega) (by simp; omega) ?_)
        intro s5 c5 w5 h5 gb
        have G5 := hide (gb.grow (Grow.trans' G2.out (Grow.alloc' _ _)) (Nat.le_refl _))
        have O5 : Hid (OwnI w5 w0.heap.size s5 (m + 1) c5 (prevP (E.take (k + 1)) ⟨xt, xp⟩)) := hide (by rw [HT.out]; exact h5)
        clear h5 gb G2 O2 HT g1 p0 hsz
        go_wp2_with fail
        go_roundw
        case rel => exact ⟨k + 1, s5, m + 1, c5, by omega, by omega, rfl, by go_num, G5.out, O5.out⟩
        case measure => simp [intOf]; omega
      · have HT : Hid (OwnI wr w0.heap.size s m c (prevP (E.take (k + 1)) ⟨xt, p⟩)) := hide (by rw [HS.out, if_neg (by rintro ⟨h1, h2⟩; exact hc h2), List.append_nil]; exact HO.out)
        clear HS HO
        go_wp2_with fail
        go_quiet (fail)
        have G2 := hide (Grow.trans' HG.out (below_drewN (Below.refl _ _) nq))
        have O2 := hide (HT.out.later (below_drewN (Below.refl _ _) nq))
        clear p1 p2 g1 l0 l1 HG HT hsz
        generalize wr.drewN nq = wz at *
        go_wp2_with fail
        go_roundw
        case rel => exact ⟨k + 1, s, m, c, by omega, by omega, rfl, by go_num, G2.out, O2.out⟩
        case measure => simp [intOf]; omega
      · have HT : Hid (OwnI wr w0.heap.size s m c (prevP (E.take (k + 1)) ⟨n, p⟩)) := hide (by rw [HS.out, if_neg (by rintro ⟨h1, h2⟩; exact hc h1), List.append_nil]; exact HO.out)
        clear HS HO
        go_wp2_with fail
        go_quiet (fail)
        have G2 := hide (Grow.trans' HG.out (below_drewN (Below.refl _ _) nq))
        have O2 := hide (HT.out.later (below_drewN (Below.refl _ _) nq))
        clear p1 p2 g1 l0 l1 HG HT hsz
        generalize wr.drewN nq = wz at *
        go_wp2_with fail
        go_roundw
        case rel => exact ⟨k + 1, s, m, c, by omega, by omega, rfl, by go_num, G2.out, O2.out⟩
        case measure => simp [intOf]; omega
    · have hkn : E.take k = E := List.take_of_length_le (by rw [HI.out.1]; omega)
      have hi2 : ¬ (k : Int) < (gm : Int) := by omega
      rw [hkn] at HO
      clear hkn hO hg
      go_wp2_with fail
      go_ret
      exact ⟨s, m, c, rfl, Grow.trans' GG.out HG.out, HO.out.rebase (by have := GG.out.size; omega)⟩

end Go.Proofs.Ytjpaclcpebpcjaa
