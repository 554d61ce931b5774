/-
  What the law's own head and its 'in' do to the world: the document's examples hold; whether a time is one of some; what was there stays as it was.
-/
import Derived.Test.YtpkhmhigoafklaaCAdd
import Derived.Test.YtpkhmhigoafklaaEq
namespace Go.Proofs.Ytpkhmhigoafklaa
set_option maxRecDepth 100000
open Go.RowKit Go.Sort
set_option linter.unusedVariables false
set_option linter.unusedSimpArgs false

theorem chainO_by {α : Type} (O : Kin α) {l s c : List α} (hp : s.Perm (l.filter O.may)) (hs : s.Pairwise fun a b => O.ord a b ≤ 0) (hc : greedyO O s = c) : chainO O l = c := by
  rw [← hc]; exact (chainO_eq O (greedy_chain O hp hs)).symm
def ex3 : Tm := ⟨3, 0, 0, 0, 0⟩
def ex1 : Tm := ⟨1, 0, 0, 0, 0⟩
def exS1 : Cs := Cs.none.next ex3 1
def exS2 : Cs := exS1.next ex1 1
def exS3 : Cs := exS2.next ex1 0
theorem exF0 : Cs.none.front = [] := chainO_nil kinT
theorem exF1 : exS1.front = [ex3] := chainO_by kinT (l := [ex3]) (s := [ex3]) (List.Perm.refl _) (by decide) rfl
theorem exF2 : exS2.front = [ex1] := chainO_by kinT (l := [ex1, ex3]) (s := [ex1, ex3]) (List.Perm.refl _) (by decide) rfl
theorem exF3 : exS3.front = [ex3] := chainO_by kinT (l := [ex3]) (s := [ex3]) (List.Perm.refl _) (by decide) rfl
theorem exA1 : Cs.none.err ex3 1 = 0 ∧ Cs.none.add ex3 1 = exS1 ∧ Cs.none.come ex3 1 = [ex3] := by
  have h0 : Cs.none.err ex3 1 = 0 := rfl
  have h1 : Cs.none.add ex3 1 = exS1 := rfl
  refine ⟨h0, h1, ?_⟩
  unfold Cs.come
  rw [h1, exF1, exF0]; rfl
theorem exA2 : exS1.err ex1 1 = 0 ∧ exS1.add ex1 1 = exS2 ∧ exS1.gone ex1 1 = [ex3] ∧ exS1.come ex1 1 = [ex1] := by
  have h0 : exS1.err ex1 1 = 0 := rfl
  have h1 : exS1.add ex1 1 = exS2 := rfl
  refine ⟨h0, h1, ?_, ?_⟩
  · unfold Cs.gone
    rw [h1, exF2, exF1]; rfl
  · unfold Cs.come
    rw [h1, exF2, exF1]; rfl
theorem exA3 : exS2.err ex1 (-1) = 0 ∧ exS2.add ex1 (-1) = exS3 ∧ exS2.gone ex1 (-1) = [ex1] ∧ exS2.come ex1 (-1) = [ex3] := by
  have h0 : exS2.err ex1 (-1) = 0 := rfl
  have h1 : exS2.add ex1 (-1) = exS3 := rfl
  refine ⟨h0, h1, ?_, ?_⟩
  · unfold Cs.gone
    rw [h1, exF3, exF2]; rfl
  · unfold Cs.come
    rw [h1, exF3, exF2]; rfl
theorem exO1 : exS1.ok := by rw [← exA1.2.1]; exact Cs.add_ok Cs.none_ok
theorem exO2 : exS2.ok := by rw [← exA2.2.1]; exact Cs.add_ok exO1
/-- A row of one. -/
theorem one_at {w : World} {s : Option Addr} {n cap : Nat} {t : Tm} (h : IsTms w s n cap [t]) : n = 1 ∧ ∃ b o, s = some ⟨b, o, none⟩ ∧ w.cell? ⟨b, o, none⟩ = some (.int .i64 t.e) := by
  obtain ⟨h1, h2, h3⟩ := h
  obtain ⟨b, o, rfl, hr⟩ := h3.resolve_left (by simp)
  exact ⟨h1.symm, b, o, rfl, hr 0 _ rfl⟩

set_option maxHeartbeats 4000000 in
theorem shown4_any (w : World) :
    Calls Try.prog 9 #[] w fun e w' => e = .returned (.bool true) ∧ Grow w w' := by
  go_enter Try.func9, Try.ntmps9
  go_wp2_with fail
  refine (new_any w).mono ?_
  rintro e w1 ⟨p, b, rfl, hb, hR, hp1, hb1⟩
  have G1 := hide hb
  have R1 := hide hR
  clear hb hR
  go_wp2_with fail
  refine (add_any p b Cs.none ex3 1 w1 Cs.none_ok R1.out).mono ?_
  rintro e w2 ⟨sx, nx, cx, sa, na, ca, rfl, hg, hR, -, hA⟩
  rw [exA1.2.1] at hR
  rw [exA1.2.2] at hA
  rw [exA1.1]
  have G2 := hide (grow_step G1.out hg hb1)
  have R2 := hide hR
  have hna : na = 1 := (one_at hA).1
  clear hg hR hA G1 R1
  subst hna
  go_wp2_with fail
  refine (add_any p b exS1 ex1 1 w2 exO1 R2.out).mono ?_
  rintro e w3 ⟨sg, ng, cg, sb, nb, cb, rfl, hg, hR, hG, hB⟩
  rw [exA2.2.1] at hR
  rw [exA2.2.2.1] at hG
  rw [exA2.2.2.2] at hB
  rw [exA2.1]
  have G3 := hide (grow_step G2.out hg hb1)
  have R3 := hide hR
  have HG3 := hide hG
  have HB3 := hide hB
  clear hg hR hG hB G2 R2
  go_wp2_with fail
  refine (add_any p b exS2 ex1 (-1) w3 exO2 R3.out).mono ?_
  rintro e w4 ⟨sh, nh, ch, sd, nd, cd, rfl, hg, hR, hH, hD⟩
  rw [exA3.2.2.1] at hH
  rw [exA3.2.2.2] at hD
  rw [exA3.1]
  have G4 := hide (grow_step G3.out hg hb1)
  obtain ⟨rfl, bg, og, rfl, cg0⟩ := one_at (HG3.out.turn R3.out.map.block hg)
  obtain ⟨rfl, bb, ob, rfl, cb0⟩ := one_at (HB3.out.turn R3.out.map.block hg)
  obtain ⟨rfl, bh, oh, rfl, ch0⟩ := one_at hH
  obtain ⟨rfl, bd, od, rfl, cd0⟩ := one_at hD
  clear hg hR hH hD G3 R3 HG3 HB3
  simp only [ex3, ex1] at cg0 cb0 ch0 cd0
  go_wp2
  go_ret
  exact ⟨rfl, G4.out⟩

attribute [local go_sem ↓] eqTm
set_option maxHeartbeats 2000000 in
theorem in_any (s : Option Addr) (n cap : Nat) (d : List Tm) (t : Tm) (w : World) (hbig : n ≤ 1000000) (hd : IsTms w s n cap d) :
    Calls Try.prog 21 #[.slice s n cap, .agg #[.int .i64 t.e, .int .i64 t.d, .int .i64 t.x, .int .i64 t.y, .int .i64 t.z]] w fun e w' => ∃ q : Bool, e = .returned (.bool q) ∧ (q = true ↔ t ∈ d) ∧ Grow w w' := by
  have G0 : Hid (Grow w (w.alloc (.cells #[.int .i64 t.e, .int .i64 t.d, .int .i64 t.x, .int .i64 t.y, .int .i64 t.z] 25))) := hide (Grow.alloc' _ _)
  have KX : Hid (Box (w.alloc (.cells #[.int .i64 t.e, .int .i64 t.d, .int .i64 t.x, .int .i64 t.y, .int .i64 t.z] 25)) w.heap.size t) := hide (Box.new _ _)
  have HD := hide (hd.later G0.out)
  have HN := hide hd.1
  clear hd
  go_enter Try.func21, Try.ntmps21
  go_wp2_with fail
  generalize w.alloc (.cells #[.int .i64 t.e, .int .i64 t.d, .int .i64 t.x, .int .i64 t.y, .int .i64 t.z] 25) = w0 at *
  go_loopw [5] (fun i wr => ∃ k : Nat, k ≤ n ∧ i = .int .i64 k ∧ (∃ q, wr = w0.drewN q) ∧ ∀ j (a : j < d.length), j < k → d[j] ≠ t) (fun i _ => n - (intOf i).toNat)
  case atStart => exact ⟨0, Nat.zero_le _, rfl, ⟨0, rfl⟩, fun j a h => by omega⟩
  case round =>
    obtain ⟨k, hk, rfl, ⟨q, rfl⟩, hall⟩ := hrel
    have HA := hide hall
    clear hall
    by_cases hlt : k < n
    · have hkd : k < d.length := by rw [HN.out]; exact hlt
      have hne : ¬ d = [] := fun h => by rw [h] at hkd; simp at hkd
      obtain ⟨b, o, rfl, hr1⟩ := HD.out.2.2.resolve_left hne
      obtain ⟨p0, p1, p2, p3, p4⟩ := hr1.at k hkd
      obtain ⟨x0, x1, x2, x3, x4⟩ := KX.out
      obtain ⟨x, hx⟩ : ∃ x, x = d[k] := ⟨_, rfl⟩
      rw [← hx] at p0 p1 p2 p3 p4
      have HX := hide hx
      have hi1 : (0 : Int) ≤ (k : Int) := by omega
      have hi2 : (k : Int) < (n : Int) := by omega
      clear hne hr1 hx
      cases es : eqB x t
      · have hxt : x ≠ t := fun e => by rw [(eqB_iff x t).2 e] at es; cases es
        have HXT := hide hxt
        clear hxt
        go_wp2
        go_quiet (fail)
        go_wp2
        go_roundw
        case rel =>
          refine ⟨k + 1, by omega, by go_num, ⟨_, rfl⟩, fun j a h => ?_⟩
          by_cases hj : j < k
          · exact HA.out j a hj
          · have : j = k := by omega
            subst this
            rw [← HX.out]; exact HXT.out
        case measure => simp [intOf]; omega
      · have hxt := (eqB_iff x t).1 es
        have HXT := hide hxt
        clear hxt
        go_wp2
        go_quiet (fail)
        go_wp2
        go_ret
        refine ⟨true, rfl, ⟨fun _ => ?_, fun _ => rfl⟩, ?_⟩
        · rw [← HXT.out, HX.out]; exact List.getElem_mem _
        · first | exact below_drewN G0.out _ | exact below_drewN (below_drewN G0.out _) _
    · go_wp2
      go_ret
      refine ⟨false, rfl, ⟨fun h => (by cases h), fun hm => ?_⟩, below_drewN G0.out _⟩
      obtain ⟨j, hj, e⟩ := List.getElem_of_mem hm
      exact absurd e (HA.out j hj (by rw [HN.out] at hj; omega))
/-- The answer named. -/
theorem in_at (s : Option Addr) (n cap : Nat) (d : List Tm) (t : Tm) {q : Bool} (hq : q = true ↔ t ∈ d) (w : World) (hbig : n ≤ 1000000) (hd : IsTms w s n cap d) :
    Calls Try.prog 21 #[.slice s n cap, .agg #[.int .i64 t.e, .int .i64 t.d, .int .i64 t.x, .int .i64 t.y, .int .i64 t.z]] w fun e w' => e = .returned (.bool q) ∧ Grow w w' := by
  refine (in_any s n cap d t w hbig hd).mono ?_
  rintro e w' ⟨q', rfl, h, hg⟩
  have : q' = q := by rw [Bool.eq_iff_iff]; exact h.trans hq.symm
  rw [this]
  exact ⟨rfl, hg⟩

end Go.Proofs.Ytpkhmhigoafklaa
