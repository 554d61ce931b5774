/-
  What the document's own Same and SameSums do to the world: of any two rows they say whether these are the same, and what was there stays as it was.
-/
import Derived.Test.YtehianjfpmbfpaaGreatRowVZ
import Derived.Test.YtehianjfpmbfpaaGreatEq
import Derived.Test.YtehianjfpmbfpaaGreatHBlkZ
namespace Go.Proofs.YtehianjfpmbfpaaGreat
open Go.RowKit
attribute [local go_sem ↓] eqTm
attribute [local go_sem ↓] eqSm
set_option linter.unusedVariables false

theorem sameRow_iff {α : Type} (d e : List α) : d = e ↔ d.length = e.length ∧ ∀ k (h1 : k < d.length) (h2 : k < e.length), d[k] = e[k] :=
  ⟨fun h => by subst h; exact ⟨rfl, fun _ _ _ => rfl⟩, fun ⟨h1, h2⟩ => List.ext_getElem h1 h2⟩

theorem eqB_same_iff (a b : Tm) : eqB a b = true ↔ a = b := by
  cases a; cases b
  simp [eqB, and_assoc]
set_option maxHeartbeats 1000000 in
theorem sameT_len (s s' : Option Addr) (cap cap' n m : Nat) (w : World) (hn : n ≠ m) :
    Calls Tryz.prog 15 #[.slice s n cap, .slice s' m cap'] w fun e w' => e = .returned (.bool false) ∧ Grow w w' := by
  have h : ¬ ((n : Int) = (m : Int)) := by omega
  go_enter Tryz.func15, Tryz.ntmps15
  go_wp2
  all_goals go_ret
  all_goals exact ⟨rfl, below_drewN (Below.refl _ _) 0⟩
set_option maxHeartbeats 2000000 in
theorem sameT_eqlen (s s' : Option Addr) (cap cap' n : Nat) (d e : List Tm) (w : World) (hbig : n ≤ 1000000000000) (h1 : IsTms w s n cap d) (h2 : IsTms w s' n cap' e) :
    Calls Tryz.prog 15 #[.slice s n cap, .slice s' n cap'] w fun e' w' => (∃ p : Bool, e' = .returned (.bool p) ∧ (p = true ↔ d = e)) ∧ Grow w w' := by
  have H1 := hide h1.2.2
  have H2 := hide h2.2.2
  have HD := hide h1.1
  have HE := hide h2.1
  clear h1 h2
  go_enter Tryz.func15, Tryz.ntmps15
  go_wp2
  go_loopw [5] (fun i wr => ∃ k : Nat, k ≤ n ∧ i = .int .i64 k ∧ (∃ q, wr = w.drewN q) ∧ ∀ j (a : j < d.length) (b : j < e.length), j < k → d[j] = e[j]) (fun i _ => n - (intOf i).toNat)
  case atStart => exact ⟨0, Nat.zero_le _, rfl, ⟨0, rfl⟩, fun j a b h => by omega⟩
  case round =>
    obtain ⟨k, hk, rfl, ⟨q, rfl⟩, hall⟩ := hrel
    have HA := hide hall
    clear hall
    by_cases hlt : k < n
    · have hkd : k < d.length := by rw [HD.out]; exact hlt
      have hke : k < e.length := by rw [HE.out]; exact hlt
      have hne : ¬ d = [] := fun h => by rw [h] at hkd; simp at hkd
      have hne' : ¬ e = [] := fun h => by rw [h] at hke; simp at hke
      obtain ⟨b, o, rfl, hr1⟩ := H1.out.resolve_left hne
      obtain ⟨b', o', rfl, hr2⟩ := H2.out.resolve_left hne'
      obtain ⟨p0, p1, p2, p3, p4⟩ := hr1.at k hkd
      obtain ⟨q0, q1, q2, q3, q4⟩ := hr2.at k hke
      obtain ⟨x, hx⟩ : ∃ x, x = d[k] := ⟨_, rfl⟩
      obtain ⟨y, hy⟩ : ∃ y, y = e[k] := ⟨_, rfl⟩
      rw [← hx] at p0 p1 p2 p3 p4
      rw [← hy] at q0 q1 q2 q3 q4
      have HX := hide hx
      have HY := hide hy
      have hi1 : (0 : Int) ≤ (k : Int) := by omega
      have hi2 : (k : Int) < (n : Int) := by omega
      clear hne hne' hr1 hr2 hx hy
      cases es : eqB x y
      · go_wp2
        go_quiet (fail)
        go_wp2
        go_ret
        refine ⟨⟨false, rfl, ?_⟩, ?_⟩
        · constructor
          · intro h; cases h
          · intro h
            subst h
            have : x = y := HX.out.trans HY.out.symm
            rw [(eqB_same_iff x y).2 this] at es
            cases es
        · first | exact below_drewN (Below.refl _ _) _ | exact below_drewN (below_drewN (Below.refl _ _) _) _
      · have hxy := (eqB_same_iff x y).1 es
        have HXY := hide hxy
        clear hxy
        go_wp2
        go_quiet (fail)
        go_wp2
        go_roundw
        case rel =>
          refine ⟨k + 1, by omega, by go_num, ⟨_, rfl⟩, fun j a b h => ?_⟩
          by_cases hj : j < k
          · exact HA.out j a b hj
          · have : j = k := by omega
            subst this
            exact HX.out.symm.trans (HXY.out.trans HY.out)
        case measure => simp [intOf]; omega
    · go_wp2
      go_ret
      refine ⟨⟨true, rfl, ?_⟩, below_drewN (Below.refl _ _) _⟩
      have : d = e := (sameRow_iff d e).2 ⟨by rw [HD.out, HE.out], fun j a b => HA.out j a b (by rw [HD.out] at a; omega)⟩
      simp [this]
/-- Of any two rows. -/
theorem sameT_any (s s' : Option Addr) (cap cap' n m : Nat) (d e : List Tm) (p : Bool) (hp : p = true ↔ d = e) (w : World) (hbig : n ≤ 1000000000000) (h1 : IsTms w s n cap d) (h2 : IsTms w s' m cap' e) :
    Calls Tryz.prog 15 #[.slice s n cap, .slice s' m cap'] w fun e' w' => e' = .returned (.bool p) ∧ Grow w w' := by
  by_cases h : n = m
  · subst h
    refine (sameT_eqlen s s' cap cap' n d e w hbig h1 h2).mono fun e' w' ⟨⟨q, hq, hr⟩, hg⟩ => ⟨?_, hg⟩
    have : q = p := by rw [Bool.eq_iff_iff]; exact hr.trans hp.symm
    rw [hq, this]
  · have : p = false := by
      cases hp' : p
      · rfl
      · have := hp.1 hp'
        exact absurd (by rw [← h1.1, ← h2.1, this]) h
    rw [this]
    exact sameT_len s s' cap cap' n m w h
theorem eqS_same_iff (a b : Sm) : eqS a b = true ↔ a = b := by
  cases a; cases b
  simp [eqS, and_assoc]
set_option maxHeartbeats 1000000 in
theorem sameM_len (s s' : Option Addr) (cap cap' n m : Nat) (w : World) (hn : n ≠ m) :
    Calls Tryz.prog 12 #[.slice s n cap, .slice s' m cap'] w fun e w' => e = .returned (.bool false) ∧ Grow w w' := by
  have h : ¬ ((n : Int) = (m : Int)) := by omega
  go_enter Tryz.func12, Tryz.ntmps12
  go_wp2
  all_goals go_ret
  all_goals exact ⟨rfl, below_drewN (Below.refl _ _) 0⟩
set_option maxHeartbeats 2000000 in
theorem sameM_eqlen (s s' : Option Addr) (cap cap' n : Nat) (d e : List Sm) (w : World) (hbig : n ≤ 1000000000000) (h1 : IsSms w s n cap d) (h2 : IsSms w s' n cap' e) :
    Calls Tryz.prog 12 #[.slice s n cap, .slice s' n cap'] w fun e' w' => (∃ p : Bool, e' = .returned (.bool p) ∧ (p = true ↔ d = e)) ∧ Grow w w' := by
  have H1 := hide h1.2.2
  have H2 := hide h2.2.2
  have HD := hide h1.1
  have HE := hide h2.1
  clear h1 h2
  go_enter Tryz.func12, Tryz.ntmps12
  go_wp2
  go_loopw [5] (fun i wr => ∃ k : Nat, k ≤ n ∧ i = .int .i64 k ∧ (∃ q, wr = w.drewN q) ∧ ∀ j (a : j < d.length) (b : j < e.length), j < k → d[j] = e[j]) (fun i _ => n - (intOf i).toNat)
  case atStart => exact ⟨0, Nat.zero_le _, rfl, ⟨0, rfl⟩, fun j a b h => by omega⟩
  case round =>
    obtain ⟨k, hk, rfl, ⟨q, rfl⟩, hall⟩ := hrel
    have HA := hide hall
    clear hall
    by_cases hlt : k < n
    · have hkd : k < d.length := by rw [HD.out]; exact hlt
      have hke : k < e.length := by rw [HE.out]; exact hlt
      have hne : ¬ d = [] := fun h => by rw [h] at hkd; simp at hkd
      have hne' : ¬ e = [] := fun h => by rw [h] at hke; simp at hke
      obtain ⟨b, o, rfl, hr1⟩ := H1.out.resolve_left hne
      obtain ⟨b', o', rfl, hr2⟩ := H2.out.resolve_left hne'
      obtain ⟨p0, p1, p2, p3, p4, p5, p6⟩ := hr1.at k hkd
      obtain ⟨q0, q1, q2, q3, q4, q5, q6⟩ := hr2.at k hke
      obtain ⟨x, hx⟩ : ∃ x, x = d[k] := ⟨_, rfl⟩
      obtain ⟨y, hy⟩ : ∃ y, y = e[k] := ⟨_, rfl⟩
      rw [← hx] at p0 p1 p2 p3 p4 p5 p6
      rw [← hy] at q0 q1 q2 q3 q4 q5 q6
      have HX := hide hx
      have HY := hide hy
      have hi1 : (0 : Int) ≤ (k : Int) := by omega
      have hi2 : (k : Int) < (n : Int) := by omega
      clear hne hne' hr1 hr2 hx hy
      cases es : eqS x y
      · go_wp2
        go_quiet (fail)
        go_wp2
        go_ret
        refine ⟨⟨false, rfl, ?_⟩, ?_⟩
        · constructor
          · intro h; cases h
          · intro h
            subst h
            have : x = y := HX.out.trans HY.out.symm
            rw [(eqS_same_iff x y).2 this] at es
            cases es
        · first | exact below_drewN (Below.refl _ _) _ | exact below_drewN (below_drewN (Below.refl _ _) _) _
      · have hxy := (eqS_same_iff x y).1 es
        have HXY := hide hxy
        clear hxy
        go_wp2
        go_quiet (fail)
        go_wp2
        go_roundw
        case rel =>
          refine ⟨k + 1, by omega, by go_num, ⟨_, rfl⟩, fun j a b h => ?_⟩
          by_cases hj : j < k
          · exact HA.out j a b hj
          · have : j = k := by omega
            subst this
            exact HX.out.symm.trans (HXY.out.trans HY.out)
        case measure => simp [intOf]; omega
    · go_wp2
      go_ret
      refine ⟨⟨true, rfl, ?_⟩, below_drewN (Below.refl _ _) _⟩
      have : d = e := (sameRow_iff d e).2 ⟨by rw [HD.out, HE.out], fun j a b => HA.out j a b (by rw [HD.out] at a; omega)⟩
      simp [this]
/-- Of any two rows. -/
theorem sameM_any (s s' : Option Addr) (cap cap' n m : Nat) (d e : List Sm) (p : Bool) (hp : p = true ↔ d = e) (w : World) (hbig : n ≤ 1000000000000) (h1 : IsSms w s n cap d) (h2 : IsSms w s' m cap' e) :
    Calls Tryz.prog 12 #[.slice s n cap, .slice s' m cap'] w fun e' w' => e' = .returned (.bool p) ∧ Grow w w' := by
  by_cases h : n = m
  · subst h
    refine (sameM_eqlen s s' cap cap' n d e w hbig h1 h2).mono fun e' w' ⟨⟨q, hq, hr⟩, hg⟩ => ⟨?_, hg⟩
    have : q = p := by rw [Bool.eq_iff_iff]; exact hr.trans hp.symm
    rw [hq, this]
  · have : p = false := by
      cases hp' : p
      · rfl
      · have := hp.1 hp'
        exact absurd (by rw [← h1.1, ← h2.1, this]) h
    rw [this]
    exact sameM_len s s' cap cap' n m w h

end Go.Proofs.YtehianjfpmbfpaaGreat
