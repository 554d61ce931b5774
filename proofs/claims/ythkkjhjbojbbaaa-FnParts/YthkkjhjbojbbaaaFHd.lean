/-
  What the laws' own functions do to the world: shown is true; few are the first hundred records, those that may be; low are records with values of 30 bits; what was there stays as it was.
-/
import Derived.Test.YthkkjhjbojbbaaaFRed
import Derived.Test.YthkkjhjbojbbaaaFMap
namespace Go.Proofs.Ythkkjhjbojbbaaa
set_option maxRecDepth 100000
open Go.RowKit Go.Sort
attribute [local go_sem ↓] eqRc
set_option linter.unusedVariables false
set_option linter.unusedSimpArgs false

theorem example_red : redR 2 [⟨1, 5⟩, ⟨2, 6⟩, ⟨1, 7⟩] = [⟨1, 12⟩, ⟨2, 6⟩] := by
  have hk : keysR [⟨1, 5⟩, ⟨2, 6⟩, ⟨1, 7⟩] = [1, 2] := rises_unique (keysR_rises _) (by simp) fun x => by
    rw [keysR_mem]
    constructor
    · rintro ⟨r, hr, rfl⟩
      simp at hr
      rcases hr with rfl | rfl | rfl <;> simp
    · intro h
      simp at h
      rcases h with rfl | rfl
      · exact ⟨⟨1, 5⟩, by simp, rfl⟩
      · exact ⟨⟨2, 6⟩, by simp, rfl⟩
  unfold redR
  rw [hk]
  rfl
theorem map_is (a b : Int) (r : Rc) (hr : mayR r = true) {t : Rc} (ht : mapR a b r = t) (w : World) :
    Calls Try.prog 17 #[.int .i64 a, .int .i64 b, .agg #[.int .i64 r.k, .int .i64 r.v]] w fun e w' => e = .returned (.agg #[.int .i64 t.k, .int .i64 t.v]) ∧ Grow w w' := by rw [← ht]; exact map_any a b r hr w
set_option maxHeartbeats 2000000 in
theorem shown_any (w : World) : Calls Try.prog 9 #[] w fun e w' => e = .returned (.bool true) ∧ Grow w w' := by
  have R1 : Hid (IsRcs (w.alloc (.cells #[.int .i64 1, .int .i64 5, .int .i64 2, .int .i64 6, .int .i64 1, .int .i64 7] 23)) (some ⟨w.heap.size, 0, none⟩) 3 3 [⟨1, 5⟩, ⟨2, 6⟩, ⟨1, 7⟩]) :=
    hide ⟨rfl, Nat.le_refl _, .inr ⟨_, _, rfl, fun j v hj => by
      have hj' : j < 6 := by simpa [flatR, encR] using (List.getElem?_eq_some_iff.1 hj).1
      have : j = 0 ∨ j = 1 ∨ j = 2 ∨ j = 3 ∨ j = 4 ∨ j = 5 := by omega
      rcases this with rfl | rfl | rfl | rfl | rfl | rfl <;> simp [flatR, encR] at hj <;> subst hj <;> simp [go_sem]⟩⟩
  have C := hide (red_at 2 (some ⟨w.heap.size, 0, none⟩) 3 3 _ (w.alloc (.cells #[.int .i64 1, .int .i64 5, .int .i64 2, .int .i64 6, .int .i64 1, .int .i64 7] 23)) (by omega) (fun r hr => by simp at hr; rcases hr with rfl | rfl | rfl <;> rfl) R1.out)
  rw [example_red] at C
  have G0 : Hid (Grow w (w.alloc (.cells #[.int .i64 1, .int .i64 5, .int .i64 2, .int .i64 6, .int .i64 1, .int .i64 7] 23))) := hide (Grow.alloc' _ _)
  clear R1
  go_enter Try.func9, Try.ntmps9
  go_wp2_with fail
  refine (C.out).mono ?_
  rintro e w3 ⟨s3, n3, c3, rfl, hb, hI⟩
  have hn : n3 = 2 := hI.1.symm
  subst hn
  have I3 := hide hI
  have G3 := hide (Grow.trans' G0.out hb)
  have e1 := eqRc ⟨1, 7⟩ ⟨1, 7⟩
  have e2 := eqRc ⟨3, -1⟩ ⟨3, -1⟩
  have e3 := eqRc ⟨2, 1⟩ ⟨2, 1⟩
  have e4 := eqRc ⟨1, 12⟩ ⟨1, 12⟩
  have e5 := eqRc ⟨2, 6⟩ ⟨2, 6⟩
  simp only [show eqR ⟨1, 7⟩ ⟨1, 7⟩ = true from rfl, show eqR ⟨3, -1⟩ ⟨3, -1⟩ = true from rfl, show eqR ⟨2, 1⟩ ⟨2, 1⟩ = true from rfl, show eqR ⟨1, 12⟩ ⟨1, 12⟩ = true from rfl, show eqR ⟨2, 6⟩ ⟨2, 6⟩ = true from rfl] at e1 e2 e3 e4 e5
  clear hb hI C G0
  go_wp2_with fail
  refine (map_is 1 5 ⟨1, 2⟩ rfl (t := ⟨1, 7⟩) rfl _).mono ?_
  rintro e w4 ⟨rfl, hb⟩
  have G4 := hide (Grow.trans' G3.out hb)
  have I4 := hide (I3.out.later hb)
  clear hb G3 I3
  go_wp2_with fail
  refine (map_is 3 4 ⟨1, -1⟩ rfl (t := ⟨3, -1⟩) rfl _).mono ?_
  rintro e w5 ⟨rfl, hb⟩
  have G5 := hide (Grow.trans' G4.out hb)
  have I5 := hide (I4.out.later hb)
  clear hb G4 I4
  go_wp2_with fail
  refine (map_is 4 0 ⟨1, 2⟩ rfl (t := ⟨2, 1⟩) rfl _).mono ?_
  rintro e w6 ⟨rfl, hb⟩
  have G6 := hide (Grow.trans' G5.out hb)
  have I6 := I5.out.later hb
  obtain ⟨b, o, rfl, hr⟩ := I6.2.2.resolve_left (by simp)
  obtain ⟨p0, p1⟩ := hr.at 0 (by simp)
  obtain ⟨q0, q1⟩ := hr.at 1 (by simp)
  simp only [Nat.zero_mul, Nat.add_zero, Nat.one_mul, List.getElem_cons_zero, List.getElem_cons_succ] at p0 p1 q0 q1
  clear hb G5 I5 I6 hr
  go_wp2_with fail
  go_ret
  exact ⟨rfl, G6.out⟩

/-- The first hundred, those that may be. -/
def fewR (d : List Rc) : List Rc := (d.take 100).filter mayR
theorem fewR_may (d : List Rc) : ∀ r ∈ fewR d, mayR r = true := fun r hr => (List.mem_filter.1 hr).2
theorem fewR_len (d : List Rc) : (fewR d).length ≤ 100 := by
  have := List.length_filter_le mayR (d.take 100)
  rw [List.length_take] at this
  unfold fewR
  omega
theorem few_step (d : List Rc) (k : Nat) (hk : k < d.length) : (d.take (k + 1)).filter mayR = (d.take k).filter mayR ++ (if mayR d[k] = true then [d[k]] else []) := by
  rw [← List.take_append_getElem hk, List.filter_append]
  cases h : mayR d[k] <;> simp [h]
theorem filter_len (d : List Rc) (k : Nat) : ((d.take k).filter mayR).length ≤ k := by
  have := List.length_filter_le mayR (d.take k)
  rw [List.length_take] at this
  omega
set_option maxHeartbeats 4000000 in
theorem few_at (s : Option Addr) (n cap : Nat) (d : List Rc) (w : World) (hd : IsRcs w s n cap d) :
    Calls Try.prog 21 #[.slice s n cap] w fun e w' => ∃ s2 n2 c2, e = .returned (.slice s2 n2 c2) ∧ Grow w w' ∧ IsRcs w' s2 n2 c2 (fewR d) ∧ n2 ≤ 100 := by
  have HI := hide hd
  obtain ⟨N, hN⟩ : ∃ N, N = min n 100 := ⟨_, rfl⟩
  have hN1 : N ≤ n := by omega
  have hN2 : N ≤ 100 := by omega
  have hN3 : N = n ∨ N = 100 := by omega
  have G0 : Hid (Grow w (w.alloc (.cells #[] 23))) := hide (Grow.alloc' _ _)
  have O0 : Hid (OwnRV (w.alloc (.cells #[] 23)) w.heap.size (some ⟨w.heap.size, 0, none⟩) 0 0 []) := hide (.of (OwnR.lit0 w _ (Nat.le_refl _)) rfl)
  clear hd hN
  go_enter Try.func21, Try.ntmps21
  go_wp2_with fail
  go_loopw [3, 4] (fun v i wr => ∃ (k : Nat) (sl : Option Addr) (ml cl : Nat), k ≤ N ∧ v = .slice sl ml cl ∧ i = .int .i64 k ∧ Grow w wr ∧ OwnRV wr w.heap.size sl ml cl ((d.take k).filter mayR)) (fun _ i _ => N - (intOf i).toNat)
  case atStart => exact ⟨0, _, 0, 0, Nat.zero_le _, rfl, rfl, G0.out, O0.out⟩
  case round =>
    obtain ⟨k, sl, ml, cl, hk, rfl, rfl, hg, hO⟩ := hrel
    have HG := hide hg
    have HO := hide hO
    have hml : ml ≤ k := by rw [← hO.1]; exact filter_len d k
    have hsz := hg.size
    clear hO
    by_cases hlt : k < N
    · have hkd : k < d.length := by rw [HI.out.1]; omega
      have hne : ¬ d = [] := fun h => by rw [h] at hkd; simp at hkd
      obtain ⟨b, o, rfl, hr1⟩ := HI.out.2.2.resolve_left hne
      have HR := hide hr1
      obtain ⟨p0, p1⟩ := (hr1.later hg).at k hkd
      have HST := hide (few_step d k hkd)
      obtain ⟨x, hx⟩ : ∃ x, x = d[k] := ⟨_, rfl⟩
      rw [← hx] at p0 p1 HST
      have HX := hide hx
      have hi1 : (0 : Int) ≤ (k : Int) := by omega
      have hi2 : (k : Int) < (n : Int) := by omega
      have hi3 : (k : Int) < 100 := by omega
      have C := hide (refMay_any x wr)
      clear hne hr1 hx hg
      cases hmx : mayR x
      · rw [hmx] at C HST
        rw [if_neg (by simp), List.append_nil] at HST
        clear hmx
        go_wp2_with fail
        refine (C.out).mono ?_
        rintro e w2 ⟨rfl, hb⟩
        have G2 := hide (Grow.trans' HG.out hb)
        have O2 := hide (HO.out.later hb)
        clear p0 p1 hb C HO HG hsz
        go_wp2_with fail
        go_roundw
        case rel => exact ⟨k + 1, sl, ml, cl, by omega, rfl, by go_num, G2.out, by rw [HST.out]; exact O2.out⟩
        case measure => simp [intOf]; omega
      · rw [hmx] at C HST
        rw [if_pos rfl] at HST
        clear hmx
        go_wp2_with fail
        refine (C.out).mono ?_
        rintro e w2 ⟨rfl, hb⟩
        have G2 := hide (Grow.trans' HG.out hb)
        have O2 := hide (HO.out.later hb)
        clear p0 p1
        obtain ⟨p0, p1⟩ := (HR.out.later G2.out).at k hkd
        rw [← HX.out] at p0 p1
        have hsz2 := G2.out.size
        clear hb C HO HG hsz
        go_wp2_with (at_builtin; refine wpList_apd_rc rfl _ _ rfl w.heap.size sl ml cl ((d.take k).filter mayR) [x] rfl (O2.out.later (Grow.alloc' _ _)) (some ⟨w2.heap.size, 0, none⟩) 1 1 rfl ⟨rfl, Nat.le_refl _, .inr ⟨_, _, rfl, RowR_one w2 x⟩⟩ (by omega) (by simp; omega) ?_)
        intro s3 c3 w3 h3 gb
        have G3 := hide (gb.grow (Grow.trans' G2.out (Grow.alloc' _ _)) (Nat.le_refl _))
        have O3 : Hid (OwnRV w3 w.heap.size s3 (ml + 1) c3 ((d.take (k + 1)).filter mayR)) := hide (by rw [HST.out]; exact h3)
        clear h3 gb p0 p1 O2 G2 HST
        go_wp2_with fail
        go_roundw
        case rel => exact ⟨k + 1, s3, ml + 1, c3, by omega, rfl, by go_num, G3.out, O3.out⟩
        case measure => simp [intOf]; omega
    · have hkN : k = N := by omega
      have HF := hide (show (d.take k).filter mayR = fewR d by
        unfold fewR
        rcases hN3 with h | h
        · rw [List.take_of_length_le (by rw [HI.out.1]; omega), List.take_of_length_le (l := d) (i := 100) (by rw [HI.out.1]; omega)]
        · rw [hkN, h])
      rw [HF.out] at HO
      clear hg
      by_cases hkn : k < n
      · have hi2 : (k : Int) < (n : Int) := by omega
        have hi3 : ¬ (k : Int) < 100 := by omega
        go_wp2_with fail
        go_ret
        exact ⟨sl, ml, cl, rfl, HG.out, HO.out.is, by omega⟩
      · have hi2 : ¬ (k : Int) < (n : Int) := by omega
        go_wp2_with fail
        go_ret
        exact ⟨sl, ml, cl, rfl, HG.out, HO.out.is, by omega⟩

end Go.Proofs.Ythkkjhjbojbbaaa
