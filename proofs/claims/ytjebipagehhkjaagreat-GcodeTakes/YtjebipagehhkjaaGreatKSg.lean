/-
  What the document's SameGraph does to the world: it tells whether two graphs are the same; what was there stays as it was.
-/
import Derived.Test.YtjebipagehhkjaaGreatKRw
namespace Go.Proofs.YtjebipagehhkjaaGreat
set_option maxRecDepth 100000
open Go.ChangeShapes Go.WideShapes Go.ChangeAt Go.RowKit Go.Deep Go.Sort
set_option linter.unusedVariables false
set_option linter.unusedSimpArgs false

def eqN (a b : Nd) : Bool := a.k == b.k && a.a == b.a && a.b == b.b && a.d == b.d
def eqE (a b : Ed) : Bool := a.f == b.f && a.t == b.t && a.p == b.p
theorem eqN_iff (a b : Nd) : eqN a b = true ↔ a = b := by
  constructor
  · intro h
    simp [eqN] at h
    exact Nd.ext' h.1.1.1 h.1.1.2 h.1.2 h.2
  · rintro rfl
    simp [eqN]
theorem eqE_iff (a b : Ed) : eqE a b = true ↔ a = b := by
  constructor
  · intro h
    simp [eqE] at h
    exact Ed.ext' h.1.1 h.1.2 h.2
  · rintro rfl
    simp [eqE]
theorem eqNd (a b c d a' b' c' d' : Int) (w : World) : (Op.equalIn 10000 37 (.agg #[.int .i64 a, .int .i64 b, .int .i64 c, .int .i64 d]) (.agg #[.int .i64 a', .int .i64 b', .int .i64 c', .int .i64 d'])).run Tryz.prog w = .ok (eqN ⟨a, b, c, d⟩ ⟨a', b', c', d'⟩) w := by
  have u3 := Tryz.underlying3
  have a3 := Tryz.isAgg3
  have z3 := Tryz.sizeOf3
  have hS : Tryz.prog.underlying 37 = some (.struct (Tryz.prog.fieldsOf 37)) := by kernel_rfl
  rw [show (10000 : Nat) = 9999 + 1 from rfl, run_equalIn_agg w 9999 37 _ _ hS (by kernel_rfl)]
  simp only [Program.fieldsOf, Tryz.underlying37]
  go_simp
  unfold eqN
  by_cases h1 : a = a' <;> by_cases h2 : b = b' <;> by_cases h3 : c = c' <;> by_cases h4 : d = d' <;> simp [h1, h2, h3, h4]
theorem eqEd (a b c a' b' c' : Int) (w : World) : (Op.equalIn 10000 39 (.agg #[.int .i64 a, .int .i64 b, .int .i64 c]) (.agg #[.int .i64 a', .int .i64 b', .int .i64 c'])).run Tryz.prog w = .ok (eqE ⟨a, b, c⟩ ⟨a', b', c'⟩) w := by
  have u3 := Tryz.underlying3
  have a3 := Tryz.isAgg3
  have z3 := Tryz.sizeOf3
  have hS : Tryz.prog.underlying 39 = some (.struct (Tryz.prog.fieldsOf 39)) := by kernel_rfl
  rw [show (10000 : Nat) = 9999 + 1 from rfl, run_equalIn_agg w 9999 39 _ _ hS (by kernel_rfl)]
  simp only [Program.fieldsOf, Tryz.underlying39]
  go_simp
  unfold eqE
  by_cases h1 : a = a' <;> by_cases h2 : b = b' <;> by_cases h3 : c = c' <;> simp [h1, h2, h3]
attribute [local go_sem ↓] eqNd eqEd
theorem sameG_len {N M : List Nd} {E F : List Ed} (h : N.length ≠ M.length ∨ E.length ≠ F.length) : sameG N E M F = false := by
  cases hs : sameG N E M F with
  | false => rfl
  | true =>
    simp only [sameG, Bool.and_eq_true, decide_eq_true_eq] at hs
    obtain ⟨rfl, rfl⟩ := hs
    rcases h with h | h <;> exact absurd rfl h
theorem sameG_noN {N M : List Nd} {E F : List Ed} (h : N ≠ M) : sameG N E M F = false := by simp [sameG, h]
theorem sameG_noE {N M : List Nd} {E F : List Ed} (h : E ≠ F) : sameG N E M F = false := by simp [sameG, h]

theorem upto_eq {α : Type} {l m : List α} {k : Nat} (h : ∀ q (h1 : q < l.length) (h2 : q < m.length), q < k → l[q] = m[q]) (hk : ∀ (h1 : k < l.length) (h2 : k < m.length), l[k] = m[k]) : ∀ q (h1 : q < l.length) (h2 : q < m.length), q < k + 1 → l[q] = m[q] := by
  intro q h1 h2 hq
  by_cases e : q < k
  · exact h q h1 h2 e
  · have : q = k := by omega
    subst this
    exact hk h1 h2

set_option maxHeartbeats 1000000 in
theorem same_1 (gs : Option Addr) (gn gc : Nat) (gt : Option Addr) (gm gq : Nat) (N : List Nd) (E : List Ed) (hs : Option Addr) (hn hc : Nat) (ht : Option Addr) (hm hq : Nat) (M : List Nd) (F : List Ed) (w : World) (h1 : ¬ gn = hn) : Calls Tryz.prog 10 #[.agg #[.slice gs gn gc, .slice gt gm gq], .agg #[.slice hs hn hc, .slice ht hm hq]] w fun e w' => e = .returned (.bool false) ∧ Grow w w' := by
  have G0 : Hid (Grow w ((w.alloc (.cells #[.slice gs gn gc, .slice gt gm gq] 27)).alloc (.cells #[.slice hs hn hc, .slice ht hm hq] 27))) := hide (Grow.trans' (Grow.alloc' _ _) (Grow.alloc' _ _))
  have i1 : ¬ (gn : Int) = (hn : Int) := by omega
  go_enter Tryz.func10, Tryz.ntmps10
  go_wp2_with fail
  go_ret
  exact ⟨rfl, G0.out⟩
set_option maxHeartbeats 1000000 in
theorem same_2 (gs : Option Addr) (gn gc : Nat) (gt : Option Addr) (gm gq : Nat) (N : List Nd) (E : List Ed) (hs : Option Addr) (hn hc : Nat) (ht : Option Addr) (hm hq : Nat) (M : List Nd) (F : List Ed) (w : World) (h1 : gn = hn) (h2 : ¬ gm = hm) : Calls Tryz.prog 10 #[.agg #[.slice gs gn gc, .slice gt gm gq], .agg #[.slice hs hn hc, .slice ht hm hq]] w fun e w' => e = .returned (.bool false) ∧ Grow w w' := by
  have G0 : Hid (Grow w ((w.alloc (.cells #[.slice gs gn gc, .slice gt gm gq] 27)).alloc (.cells #[.slice hs hn hc, .slice ht hm hq] 27))) := hide (Grow.trans' (Grow.alloc' _ _) (Grow.alloc' _ _))
  subst h1
  have i2 : ¬ (gm : Int) = (hm : Int) := by omega
  go_enter Tryz.func10, Tryz.ntmps10
  go_wp2_with fail
  go_ret
  exact ⟨rfl, G0.out⟩
set_option maxHeartbeats 8000000 in
theorem same_3 (gs : Option Addr) (gn gc : Nat) (gt : Option Addr) (gm gq : Nat) (N : List Nd) (E : List Ed) (hs : Option Addr) (hc : Nat) (ht : Option Addr) (hq : Nat) (M : List Nd) (F : List Ed) (w : World) (hgn : gn ≤ 1000000) (hgm : gm ≤ 1000000) (hN : IsNds w gs gn gc N) (hE : IsEds w gt gm gq E) (hM : IsNds w hs gn hc M) (hF : IsEds w ht gm hq F) : Calls Tryz.prog 10 #[.agg #[.slice gs gn gc, .slice gt gm gq], .agg #[.slice hs gn hc, .slice ht gm hq]] w fun e w' => e = .returned (.bool (sameG N E M F)) ∧ Grow w w' := by
  obtain ⟨z, hz⟩ : ∃ z, sameG N E M F = z := ⟨_, rfl⟩
  have HZ := hide hz
  rw [hz]
  clear hz
  have G0 : Hid (Grow w ((w.alloc (.cells #[.slice gs gn gc, .slice gt gm gq] 27)).alloc (.cells #[.slice hs gn hc, .slice ht gm hq] 27))) := hide (Grow.trans' (Grow.alloc' _ _) (Grow.alloc' _ _))
  have KG : Hid (BoxG ((w.alloc (.cells #[.slice gs gn gc, .slice gt gm gq] 27)).alloc (.cells #[.slice hs gn hc, .slice ht gm hq] 27)) w.heap.size ⟨gs, gn, gc, gt, gm, gq, [], []⟩) := hide ((BoxG.new w ⟨gs, gn, gc, gt, gm, gq, [], []⟩).later (Grow.alloc' _ _))
  have KH : Hid (BoxG ((w.alloc (.cells #[.slice gs gn gc, .slice gt gm gq] 27)).alloc (.cells #[.slice hs gn hc, .slice ht gm hq] 27)) (w.heap.size + 1) ⟨hs, gn, hc, ht, gm, hq, [], []⟩) := hide (by
    have := BoxG.new (w.alloc (.cells #[.slice gs gn gc, .slice gt gm gq] 27)) ⟨hs, gn, hc, ht, gm, hq, [], []⟩
    rw [show (w.alloc (.cells #[.slice gs gn gc, .slice gt gm gq] 27)).heap.size = w.heap.size + 1 by simp] at this
    exact this)
  have HN := hide hN
  have HE := hide hE
  have HM := hide hM
  have HF := hide hF
  have HNl : Hid (N.length = gn) := hide hN.1
  have HEl : Hid (E.length = gm) := hide hE.1
  have HMl : Hid (M.length = gn) := hide hM.1
  have HFl : Hid (F.length = gm) := hide hF.1
  clear hN hE hM hF
  go_enter Tryz.func10, Tryz.ntmps10
  go_wp2_with fail
  generalize ((w.alloc (.cells #[.slice gs gn gc, .slice gt gm gq] 27)).alloc (.cells #[.slice hs gn hc, .slice ht gm hq] 27)) = w0 at *
  obtain ⟨P, hP⟩ : ∃ P, P = w.heap.size := ⟨_, rfl⟩
  rw [← hP] at KG KH ⊢
  clear hP
  go_loopw [5] (fun i wr => ∃ k : Nat, k ≤ gn ∧ i = .int .i64 (k : Int) ∧ Grow w0 wr ∧ ∀ q (h1 : q < N.length) (h2 : q < M.length), q < k → N[q] = M[q]) (fun i _ => gn - (intOf i).toNat)
  case atStart => exact ⟨0, Nat.zero_le _, rfl, Grow.rfl' _, fun q _ _ h => by omega⟩
  case round =>
    obtain ⟨k, hk, rfl, hg, hall⟩ := hrel
    generalize wr = wi at *
    have HG := hide hg
    have HA := hide hall
    obtain ⟨g0, g1⟩ := KG.out.later hg
    obtain ⟨h0, h1⟩ := KH.out.later hg
    dsimp only at g0 g1 h0 h1
    clear hall
    by_cases hlt : k < gn
    · have hkN : k < N.length := by rw [HNl.out]; exact hlt
      have hkM : k < M.length := by rw [HMl.out]; exact hlt
      have hneN : ¬ N = [] := fun h => by rw [h] at hkN; simp at hkN
      have hneM : ¬ M = [] := fun h => by rw [h] at hkM; simp at hkM
      obtain ⟨bN, oN, rfl, hrN⟩ := HN.out.2.2.resolve_left hneN
      obtain ⟨bM, oM, rfl, hrM⟩ := HM.out.2.2.resolve_left hneM
      obtain ⟨p0, p1, p2, p3⟩ := (hrN.later (Grow.trans' G0.out hg)).at k hkN
      obtain ⟨r0, r1, r2, r3⟩ := (hrM.later (Grow.trans' G0.out hg)).at k hkM
      have HUN := hide (fun (h : N[k] ≠ M[k]) => HZ.out.symm.trans (sameG_noN (E := E) (F := F) (rows_un hkN hkM h)))
      have HUP := hide (fun (h : N[k] = M[k]) => upto_eq HA.out (fun _ _ => h))
      obtain ⟨x, hx⟩ : ∃ x, x = N[k] := ⟨_, rfl⟩
      obtain ⟨y, hy⟩ : ∃ y, y = M[k] := ⟨_, rfl⟩
      rw [← hx, ← hy] at HUN HUP
      rw [← hx] at p0 p1 p2 p3
      rw [← hy] at r0 r1 r2 r3
      obtain ⟨xk, xa, xb, xd⟩ := x
      obtain ⟨yk, ya, yb, yd⟩ := y
      dsimp only at p0 p1 p2 p3 r0 r1 r2 r3
      have hi1 : (0 : Int) ≤ (k : Int) := by omega
      have hi2 : (k : Int) < (gn : Int) := by omega
      clear hkN hkM hneN hneM hrN hrM hg hx hy
      cases he : eqN ⟨xk, xa, xb, xd⟩ ⟨yk, ya, yb, yd⟩
      · have HU := hide (HUN.out (fun h => by rw [(eqN_iff _ _).2 h] at he; cases he))
        clear HUN HUP
        go_wp2_with fail
        go_quiet (fail)
        have HG2 := hide (Grow.trans' HG.out (below_drewN (Below.refl _ _) nq))
        generalize wi.drewN nq = wz at *
        go_wp2_with fail
        go_ret
        exact ⟨ret_bool (by rw [HU.out]), Grow.trans' G0.out HG2.out⟩
      · have HU := hide (HUP.out ((eqN_iff _ _).1 he))
        clear HUN HUP
        go_wp2_with fail
        go_quiet (fail)
        have HG2 := hide (Grow.trans' HG.out (below_drewN (Below.refl _ _) nq))
        generalize wi.drewN nq = wz at *
        go_wp2_with fail
        go_roundw
        case rel => exact ⟨k + 1, by omega, by go_num, HG2.out, HU.out⟩
        case measure => simp [intOf]; omega
    · have hi2 : ¬ (k : Int) < (gn : Int) := by omega
      have HNM : Hid (N = M) := hide (rows_same (by rw [HNl.out, HMl.out]) fun j h1 h2 => HA.out j h1 h2 (by rw [HNl.out] at h1; omega))
      have GI := hide hg
      clear hg hlt h0 h1 HA
      go_wp2_with fail
      clear g0 g1
      go_loopw [6] (fun i wr => ∃ k : Nat, k ≤ gm ∧ i = .int .i64 (k : Int) ∧ Grow w0 wr ∧ ∀ q (h1 : q < E.length) (h2 : q < F.length), q < k → E[q] = F[q]) (fun i _ => gm - (intOf i).toNat)
      case atStart => exact ⟨0, Nat.zero_le _, rfl, GI.out, fun q _ _ h => by omega⟩
      case round =>
        obtain ⟨j, hj, rfl, hg, hall⟩ := hrel
        generalize wr = wj at *
        have HG := hide hg
        have HA := hide hall
        obtain ⟨g0, g1⟩ := KG.out.later hg
        obtain ⟨h0, h1⟩ := KH.out.later hg
        dsimp only at g0 g1 h0 h1
        clear hall
        by_cases hlt : j < gm
        · have hkN : j < E.length := by rw [HEl.out]; exact hlt
          have hkM : j < F.length := by rw [HFl.out]; exact hlt
          have hneN : ¬ E = [] := fun h => by rw [h] at hkN; simp at hkN
          have hneM : ¬ F = [] := fun h => by rw [h] at hkM; simp at hkM
          obtain ⟨bE, oE, rfl, hrN⟩ := HE.out.2.2.resolve_left hneN
          obtain ⟨bF, oF, rfl, hrM⟩ := HF.out.2.2.resolve_left hneM
          obtain ⟨p0, p1, p2⟩ := (hrN.later (Grow.trans' G0.out hg)).at j hkN
          obtain ⟨r0, r1, r2⟩ := (hrM.later (Grow.trans' G0.out hg)).at j hkM
          have HUN := hide (fun (h : E[j] ≠ F[j]) => HZ.out.symm.trans (sameG_noE (N := N) (M := M) (rows_un hkN hkM h)))
          have HUP := hide (fun (h : E[j] = F[j]) => upto_eq HA.out (fun _ _ => h))
          obtain ⟨x, hx⟩ : ∃ x, x = E[j] := ⟨_, rfl⟩
          obtain ⟨y, hy⟩ : ∃ y, y = F[j] := ⟨_, rfl⟩
          rw [← hx, ← hy] at HUN HUP
          rw [← hx] at p0 p1 p2
          rw [← hy] at r0 r1 r2
          obtain ⟨xf, xt, xp⟩ := x
          obtain ⟨yf, yt, yp⟩ := y
          dsimp only at p0 p1 p2 r0 r1 r2
          have hi1 : (0 : Int) ≤ (j : Int) := by omega
          have hi3 : (j : Int) < (gm : Int) := by omega
          clear hkN hkM hneN hneM hrN hrM hg hx hy
          cases he : eqE ⟨xf, xt, xp⟩ ⟨yf, yt, yp⟩
          · have HU := hide (HUN.out (fun h => by rw [(eqE_iff _ _).2 h] at he; cases he))
            clear HUN HUP
            go_wp2_with fail
            go_quiet (fail)
            have HG2 := hide (Grow.trans' HG.out (below_drewN (Below.refl _ _) nq))
            generalize wj.drewN nq = wz at *
            go_wp2_with fail
            go_ret
            exact ⟨ret_bool (by rw [HU.out]), Grow.trans' G0.out HG2.out⟩
          · have HU := hide (HUP.out ((eqE_iff _ _).1 he))
            clear HUN HUP
            go_wp2_with fail
            go_quiet (fail)
            have HG2 := hide (Grow.trans' HG.out (below_drewN (Below.refl _ _) nq))
            generalize wj.drewN nq = wz at *
            go_wp2_with fail
            go_roundw
            case rel => exact ⟨j + 1, by omega, by go_num, HG2.out, HU.out⟩
            case measure => simp [intOf]; omega
        · have hi3 : ¬ (j : Int) < (gm : Int) := by omega
          have HEF : Hid (E = F) := hide (rows_same (by rw [HEl.out, HFl.out]) fun q h1 h2 => HA.out q h1 h2 (by rw [HEl.out] at h1; omega))
          have HT : Hid (z = true) := hide (by rw [← HZ.out]; simp [sameG, HNM.out, HEF.out])
          clear hg hlt h0 h1
          go_wp2_with fail
          go_ret
          exact ⟨ret_bool (by rw [HT.out]), Grow.trans' G0.out HG.out⟩
theorem same_any (gs : Option Addr) (gn gc : Nat) (gt : Option Addr) (gm gq : Nat) (N : List Nd) (E : List Ed) (hs : Option Addr) (hn hc : Nat) (ht : Option Addr) (hm hq : Nat) (M : List Nd) (F : List Ed) (w : World) (hgn : gn ≤ 1000000) (hgm : gm ≤ 1000000) (hN : IsNds w gs gn gc N) (hE : IsEds w gt gm gq E) (hM : IsNds w hs hn hc M) (hF : IsEds w ht hm hq F) {z : Bool} (hz : sameG N E M F = z) : Calls Tryz.prog 10 #[.agg #[.slice gs gn gc, .slice gt gm gq], .agg #[.slice hs hn hc, .slice ht hm hq]] w fun e w' => e = .returned (.bool z) ∧ Grow w w' := by
  subst hz
  by_cases h1 : gn = hn
  · by_cases h2 : gm = hm
    · subst h1
      subst h2
      exact same_3 gs gn gc gt gm gq N E hs hc ht hq M F w hgn hgm hN hE hM hF
    · rw [sameG_len (.inr (by rw [hE.1, hF.1]; exact h2))]
      exact same_2 gs gn gc gt gm gq N E hs hn hc ht hm hq M F w h1 h2
  · rw [sameG_len (.inl (by rw [hN.1, hM.1]; exact h1))]
    exact same_1 gs gn gc gt gm gq N E hs hn hc ht hm hq M F w h1
end Go.Proofs.YtjebipagehhkjaaGreat
