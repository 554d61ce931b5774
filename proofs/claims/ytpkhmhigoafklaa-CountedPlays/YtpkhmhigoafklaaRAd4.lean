/-
  What the document's own Add (of numbers of times) does to the world: the number is added or refused, the pointer's two cells are turned and nothing else, and what goes from the frontier and comes to it is told in rows of its own.
-/
import Derived.Test.YtpkhmhigoafklaaNxR
import Derived.Test.YtpkhmhigoafklaaCAdd
import Derived.Deep.Cut
namespace Go.Proofs.Ytpkhmhigoafklaa
set_option maxRecDepth 100000
open Go.RowKit Go.Sort
attribute [local go_sem ↓] eqTm run_headT run_tailT run_headI run_tailI
set_option linter.unusedVariables false
set_option linter.unusedSimpArgs false

/-- What the document's Add answers, and leaves. -/
def RAddPost (y : Nat) (s : Cs) (t : Tm) (n : Int) (w : World) (e : Ending) (w' : World) : Prop :=
  ∃ s1 n1 c1 s2 n2 c2 sT cT sN cN, e = .returned (.tuple #[.slice s1 n1 c1, .slice s2 n2 c2, .int .i64 (s.err t n)]) ∧ w.grownBy w' (some y) ∧ RepY w' y (s.add t n) sT cT sN cN ∧ IsTms w' s1 n1 c1 (s.gone t n) ∧ IsTms w' s2 n2 c2 (s.come t n)
theorem raddPost_err {y : Nat} {s : Cs} {t : Tm} {n : Int} {sT sN : Option Addr} {cT cN : Nat} {w w' : World} {k : Int} (he : s.err t n = k) (hk : k ≠ 0) (hg : Grow w w') (hR : RepY w y s sT cT sN cN) :
    RAddPost y s t n w (.returned (.tuple #[.slice none 0 0, .slice none 0 0, .int .i64 k])) w' := by
  have h0 : s.err t n ≠ 0 := by rw [he]; exact hk
  obtain ⟨h1, h2⟩ := Cs.gone_not h0
  have h3 : s.add t n = s := by unfold Cs.add; rw [if_neg h0]
  refine ⟨none, 0, 0, none, 0, 0, sT, cT, sN, cN, by rw [he], (grown_of hg).but _, ?_, ?_, ?_⟩
  · rw [h3]; exact hR.later hg
  · rw [h1]; exact isTms_nil _
  · rw [h2]; exact isTms_nil _

set_option maxHeartbeats 2000000 in
theorem radd_arg (y : Nat) (s : Cs) (sT sN : Option Addr) (cT cN : Nat) (t : Tm) (n : Int) (w : World) (h : (mayB t && fitsB n) = false) (hR : RepY w y s sT cT sN cN) :
    Calls Try.prog 13 #[.pointer (some ⟨y, 0, none⟩), .agg #[.int .i64 t.e, .int .i64 t.d, .int .i64 t.x, .int .i64 t.y, .int .i64 t.z], .int .i64 n] w (RAddPost y s t n w) := by
  have he : s.err t n = 1 := by unfold Cs.err; rw [h]; rfl
  have FIN := hide (fun w' (hg : Grow w w') => raddPost_err he (by decide) hg hR)
  have G0 : Hid (Grow w (w.alloc (.cells #[.int .i64 t.e, .int .i64 t.d, .int .i64 t.x, .int .i64 t.y, .int .i64 t.z] 25))) := hide (Grow.alloc' _ _)
  clear hR he
  cases hm : mayB t
  · have C1 := hide (fun w => refMayT_at t hm w)
    clear hm h
    go_enter Try.func13, Try.ntmps13
    go_wp2_with fail
    generalize w.alloc (.cells #[.int .i64 t.e, .int .i64 t.d, .int .i64 t.x, .int .i64 t.y, .int .i64 t.z] 25) = w0 at *
    refine (C1.out w0).mono ?_
    rintro e w1 ⟨rfl, hb⟩
    have G1 := hide (Grow.trans' G0.out hb)
    clear hb
    go_wp2_with fail
    go_ret3
    exact FIN.out w1 G1.out
  · have hf : fitsB n = false := by rw [hm] at h; simpa using h
    have C1 := hide (fun w => refMayT_at t hm w)
    have C2 := hide (fun w => rfits_any n hf w)
    clear hm h hf
    go_enter Try.func13, Try.ntmps13
    go_wp2_with fail
    generalize w.alloc (.cells #[.int .i64 t.e, .int .i64 t.d, .int .i64 t.x, .int .i64 t.y, .int .i64 t.z] 25) = w0 at *
    refine (C1.out w0).mono ?_
    rintro e w1 ⟨rfl, hb⟩
    have G1 := hide (Grow.trans' G0.out hb)
    clear hb
    go_wp2_with fail
    refine (C2.out w1).mono ?_
    rintro e w2 ⟨rfl, rfl⟩
    go_wp2_with fail
    go_ret3
    exact FIN.out _ G1.out

theorem drop_take_succ (T : List Tm) (t : Tm) (k : Nat) (h : k < T.length) : dropT (T.take (k + 1)) t = dropT (T.take k) t ++ (if eqB T[k] t = true then [] else [T[k]]) := by
  unfold dropT
  rw [filter_take_succ _ T k h]
  by_cases e : eqB T[k] t = true <;> simp [e]
theorem row_ge {w : World} {base n cap : Nat} {s : Option Addr} {d : List Tm} (h : OwnSV w base s n cap d) : ∀ k, s.map (·.block) = some k → base ≤ k := by
  intro k hk
  cases s with
  | none => cases hk
  | some a => have := (ownSV_le h a rfl).2; simp at hk; omega
theorem rowI_ge {w : World} {base n cap : Nat} {s : Option Addr} {d : List Int} (h : OwnIV w base s n cap d) : ∀ k, s.map (·.block) = some k → base ≤ k := by
  intro k hk
  cases s with
  | none => cases hk
  | some a => have := (h.lt a rfl).2; simp at hk; omega
/-- A cell of an older block, while a row turns. -/
theorem cell_row {w w' : World} {row : Option Nat} {a : Addr} {v : Value} {base : Nat} (hg : w.grownBy w' row) (h : w.cell? a = some v) (hr : ∀ k, row = some k → base ≤ k) (ha : a.block < base) : w'.cell? a = some v :=
  hg.cell h fun e => by have := hr _ e.symm; omega

theorem map_put_drop (f : Tm → Int) (T : List Tm) (t : Tm) (u : Int) : (dropT T t).map (putF f t u) = (dropT T t).map f :=
  List.map_congr_left fun x hx => putF_other _ _ (mem_dropT.1 hx).2

set_option maxHeartbeats 8000000 in
theorem radd_main (y : Nat) (s : Cs) (sT sN : Option Addr) (cT cN : Nat) (t : Tm) (n : Int) (w : World) (hm : mayB t = true) (hf : fitsB n = true) (hok : s.ok) (hR : RepY w y s sT cT sN cN) :
    Calls Try.prog 13 #[.pointer (some ⟨y, 0, none⟩), .agg #[.int .i64 t.e, .int .i64 t.d, .int .i64 t.x, .int .i64 t.y, .int .i64 t.z], .int .i64 n] w (RAddPost y s t n w) := by
  have HM := hide hm
  have HF := hide hf
  have HOK := hide hok
  have ER := hide (fun w' k (he : s.err t n = k) (hk : k ≠ 0) (hg : Grow w w') => raddPost_err he hk hg hR)
  have G0 : Hid (Grow w (w.alloc (.cells #[.int .i64 t.e, .int .i64 t.d, .int .i64 t.x, .int .i64 t.y, .int .i64 t.z] 25))) := hide (Grow.alloc' _ _)
  have KX : Hid (Box (w.alloc (.cells #[.int .i64 t.e, .int .i64 t.d, .int .i64 t.x, .int .i64 t.y, .int .i64 t.z] 25)) w.heap.size t) := hide (Box.new _ _)
  have HR := hide (hR.later G0.out)
  have C1 := hide (fun w => refMayT_at t hm w)
  have C2 := hide (fun w => rfits_any n hf w)
  have hyl : y < w.heap.size := hR.lt
  obtain ⟨c, hc⟩ : ∃ c, c = s.f t := ⟨_, rfl⟩
  have hcf := hok.fits t
  rw [← hc] at hcf
  obtain ⟨hc1, hc2⟩ := (fitsB_iff c).1 hcf
  obtain ⟨hn1, hn2⟩ := (fitsB_iff n).1 hf
  have HC := hide hc
  obtain ⟨N, hN⟩ : ∃ N, N = s.T.length := ⟨_, rfl⟩
  have hN4 : N ≤ 400 := by rw [hN]; exact hok.few
  have HN := hide hN
  clear hm hf hR hok hcf hc hN
  go_enter Try.func13, Try.ntmps13
  go_wp2_with fail
  generalize w.alloc (.cells #[.int .i64 t.e, .int .i64 t.d, .int .i64 t.x, .int .i64 t.y, .int .i64 t.z] 25) = w0 at *
  refine (C1.out w0).mono ?_
  rintro e w1 ⟨rfl, hb⟩
  have G1 := hide (Grow.trans' G0.out hb)
  have HR1 := hide (HR.out.later hb)
  have KX1 := hide (KX.out.later hb)
  clear hb G0 HR KX
  go_wp2_with fail
  refine (C2.out w1).mono ?_
  rintro e w2 ⟨rfl, rfl⟩
  clear C1 C2
  obtain ⟨x0, x1, x2, x3, x4⟩ := KX1.out
  have CC := hide (rcount_any y s sT sN cT cN t HC.out.symm w2 HOK.out HR1.out)
  go_wp2_with fail
  refine (CC.out).mono ?_
  rintro e w3 ⟨rfl, hb⟩
  have G3 := hide (Grow.trans' G1.out hb)
  have HR3 := hide (HR1.out.later hb)
  have KX3 := hide (KX1.out.later hb)
  clear hb CC x0 x1 x2 x3 x4 G1 HR1 KX1
  cases hs : fitsB (c + n)
  · have C3 := hide (fun w => rfits_any (c + n) hs w)
    have he : s.err t n = 4 := by
      unfold Cs.err
      rw [HM.out, HF.out, ← HC.out, hs]; rfl
    have HE := hide he
    clear hs he
    go_wp2_with fail
    refine (C3.out w3).mono ?_
    rintro e w4 ⟨rfl, rfl⟩
    go_wp2_with fail
    go_ret3
    exact ER.out _ 4 HE.out (by decide) G3.out
  · have C3 := hide (fun w => rfits_any (c + n) hs w)
    obtain ⟨hs1, hs2⟩ := (fitsB_iff (c + n)).1 hs
    have HS := hide hs
    clear hs
    go_wp2_with fail
    refine (C3.out w3).mono ?_
    rintro e w4 ⟨rfl, rfl⟩
    clear C3
    obtain ⟨u, hu⟩ : ∃ u, u = c + n := ⟨_, rfl⟩
    rw [← hu] at hs1 hs2 HS ⊢
    have HU := hide hu
    obtain ⟨nb, hnb⟩ : ∃ nb, nb = w4.heap.size := ⟨_, rfl⟩
    have NX0 : Hid (NextR (w4.alloc (.cells #[.slice none 0 0, .slice none 0 0] 33)) nb none 0 0 [] none 0 0 []) := hide (hnb ▸ NextR.new w4)
    have VX0 : Hid (Grow w4 (w4.alloc (.cells #[.slice none 0 0, .slice none 0 0] 33))) := hide (Grow.alloc' _ _)
    have hynb : y < nb := by have := G3.out.size; omega
    have hwnb : w.heap.size < nb := by have := KX3.out.lt; omega
    have hn4 : w4.heap.size ≤ nb := by omega
    clear hu
    go_wp2_with fail
    rw [← hnb]
    clear hnb
    generalize w4.alloc (.cells #[.slice none 0 0, .slice none 0 0] 33) = w5 at *
    go_loopw [12] (fun i wr => ∃ (k : Nat) (sX : Option Addr) (mX cX : Nat) (sZ : Option Addr) (cZ : Nat), k ≤ N ∧ i = .int .i64 k ∧ Grow w4 wr ∧ NextR wr nb sX mX cX (dropT (s.T.take k) t) sZ mX cZ ((dropT (s.T.take k) t).map s.f)) (fun i _ => N - (intOf i).toNat)
    case atStart => exact ⟨0, none, 0, 0, none, 0, Nat.zero_le _, rfl, VX0.out, NX0.out⟩
    case round =>
      obtain ⟨k, sX, mX, cX, sZ, cZ, hk, rfl, hg, hNX⟩ := hrel
      have HG := hide hg
      have HNX := hide hNX
      have d0 := cell_later hg HR3.out.cell0
      rw [← HN.out] at d0
      have hmX : mX ≤ 400 := by
        have h1 := hNX.ownT.1
        have h2 : (dropT (s.T.take k) t).length ≤ (s.T.take k).length := List.length_filter_le _ _
        rw [List.length_take] at h2
        omega
      clear hg hNX NX0 VX0
      by_cases hlt : k < N
      · have hkd : k < s.T.length := by rw [← HN.out]; exact hlt
        have hne : ¬ s.T = [] := fun h => by rw [h] at hkd; simp at hkd
        obtain ⟨bt, ot, rfl, hr1⟩ := HR3.out.times.2.2.resolve_left hne
        obtain ⟨bn, on, rfl, hr2⟩ := HR3.out.nums.row.resolve_left (fun h => hne (by simpa using h))
        obtain ⟨p0, p1, p2, p3, p4⟩ := (hr1.later HG.out).at k hkd
        have q0 := cell_later HG.out (hr2 k (by simpa using hkd))
        rw [List.getElem_map] at q0
        obtain ⟨x, hx⟩ : ∃ x, x = s.T[k] := ⟨_, rfl⟩
        have HE := hide (drop_take_succ s.T t k hkd)
        rw [← hx] at p0 p1 p2 p3 p4 q0 HE
        obtain ⟨cx, hcx⟩ : ∃ cx, s.f x = cx := ⟨_, rfl⟩
        rw [hcx] at q0
        have HCX := hide hcx
        obtain ⟨x0, x1, x2, x3, x4⟩ := KX3.out.later HG.out
        have d1 := cell_later HG.out HR3.out.cell1
        rw [← HN.out] at d1
        have hi1 : (0 : Int) ≤ (k : Int) := by omega
        have hi2 : (k : Int) < (N : Int) := by omega
        have hbt : bt < nb := Nat.lt_of_lt_of_le (World.block_lt_of_cell? _ _ (hr1.at k hkd).1) hn4
        have hbn : bn < nb := Nat.lt_of_lt_of_le (World.block_lt_of_cell? _ _ (hr2 k (by simpa using hkd))) hn4
        have sp0 := cell_regrown p0; have sp1 := cell_regrown p1; have sp2 := cell_regrown p2; have sp3 := cell_regrown p3; have sp4 := cell_regrown p4
        have sx0 := cell_regrown x0; have sx1 := cell_regrown x1; have sx2 := cell_regrown x2; have sx3 := cell_regrown x3; have sx4 := cell_regrown x4
        have sd0 := cell_regrown d0
        clear hne hr1 hr2 hx hcx
        cases es : eqB x t
        all_goals
          have HES := hide es
          go_wp2_with fail
          refine wp_region_quiet_below (by kernel_rfl) (by kernel_rfl) ?_
          repeat (go_big_quiet_step (fail))
          refine wpQuiet_nil ?_
          intro _ hw'
          obtain ⟨⟨dq, osq⟩, hw''⟩ := hw'
          subst hw''
          have GB := hide (Grow.trans' HG.out (below_regrown wr dq osq))
          have NB := hide (HNX.out.later (below_regrown wr dq osq))
          have D0 := hide (cell_regrown d0 dq osq)
          have D1 := hide (cell_regrown d1 dq osq)
          have PP := hide (And.intro (cell_regrown p0 dq osq) (And.intro (cell_regrown p1 dq osq) (And.intro (cell_regrown p2 dq osq) (And.intro (cell_regrown p3 dq osq) (cell_regrown p4 dq osq)))))
          have Q0 := hide (cell_regrown q0 dq osq)
          clear sp0 sp1 sp2 sp3 sp4 sx0 sx1 sx2 sx3 sx4 sd0 p0 p1 p2 p3 p4 x0 x1 x2 x3 x4 d0 d1 q0 HG HNX es
          generalize grow (redrawn wr dq) osq = wc at *
          go_wp2_with fail
        · obtain ⟨LT, hLT⟩ : ∃ LT, LT = dropT (s.T.take k) t := ⟨_, rfl⟩
          rw [← hLT] at NB HE
          have hrow := row_ge NB.out.ownT
          have hrowN := rowI_ge NB.out.ownN
          have hzc : nb < wc.heap.size := NB.out.lt
          have HGG : ∀ w1 w2, wc.grownBy w1 (sX.map (·.block)) → Grow w1 w2 → wc.grownBy w2 (sX.map (·.block)) := fun _ _ h q => grown_post h q
          have HBG : ∀ w1 w2, Grow w1 w2 → OwnSV w1 (nb + 1) sX mX cX LT → OwnSV w2 (nb + 1) sX mX cX LT := fun _ _ q h => h.later q
          have HG0 : ∀ w', Grow wc w' → w'.heap = wc.heap → wc.grownBy w' (sX.map (·.block)) := fun _ h _ => (grown_of h).but _
          have HB0 : ∀ w', Grow wc w' → w'.heap = wc.heap → OwnSV w' (nb + 1) sX mX cX LT := fun _ h _ => NB.out.ownT.later h
          clear hLT
          let FF : Nat → Value → World → Prop := fun i vF wF => match i with | 0 => vF = .pointer (some ⟨nb, 0, none⟩) | 1 => vF = .pointer (some ⟨nb, 0, none⟩) | 2 => vF = .pointer (some ⟨nb, 0, none⟩) | 3 => vF = .pointer (some ⟨nb, 0, none⟩) | 4 => vF = .slice sX mX cX | 5 => vF = .pointer (some ⟨y, 0, none⟩) | 6 => vF = .pointer (some ⟨y, 0, none⟩) | 7 => vF = .pointer (some ⟨y, 0, none⟩) | 8 => vF = .slice (some ⟨bt, ot, none⟩) N cT | 9 => vF = .int .i64 (k : Int) | 10 => vF = .pointer (some ⟨bt, ot + k * 5, none⟩) | 11 => vF = .agg #[.int .i64 x.e, .int .i64 x.d, .int .i64 x.x, .int .i64 x.y, .int .i64 x.z] | 12 => BoxR x vF wF | 13 => AppT wc (nb + 1) sX (mX + 1) (LT ++ [x]) vF wF | 14 => vF = .pointer (some ⟨nb, 0, none⟩) | 15 => vF = .pointer (some ⟨nb, 0, none⟩) | _ => True
          let GG : World → Prop := fun w' => wc.grownBy w' (sX.map (·.block))
          let BB : World → Prop := fun w' => OwnSV w' (nb + 1) sX mX cX LT
          have hstab : ∀ k v w1 w2, Grow w1 w2 → FF k v w1 → FF k v w2 := by
            intro k v w1 w2 hg h
            match k with
            | 0 => exact h
            | 1 => exact h
            | 2 => exact h
            | 3 => exact h
            | 4 => exact h
            | 5 => exact h
            | 6 => exact h
            | 7 => exact h
            | 8 => exact h
            | 9 => exact h
            | 10 => exact h
            | 11 => exact h
            | 12 => exact BoxR.later hg h
            | 13 => exact AppT.later hg h
            | 14 => exact h
            | 15 => exact h
            | k + 16 => exact trivial
          have hGg : ∀ w1 w2, GG w1 → Grow w1 w2 → GG w2 := HGG
          have hBg : ∀ w1 w2, Grow w1 w2 → BB w1 → BB w2 := HBG
          refine wp_region_endG FF GG BB (fun i => match i with | 12 => some 13 | _ => none) 13 16 _ rfl rfl rfl (by kernel_rfl) (by kernel_rfl) HG0 HB0 ?_ ?_
          · refine ⟨?_, ?_, ?_, ?_, ?_, ?_, ?_, ?_, ?_, ?_, ?_, ?_, ?_, ?_, ?_, ?_, trivial⟩
            · refine stepG_run hGg hBg hstab rfl ?_
              intro a' w' hg hs hd hb
              have e11 : a'.eval (.tmp 11) = .pointer (some ⟨nb, 0, none⟩) := hs.rest 11 rfl
              have ec : ∀ v, a'.eval (.const v) = v := fun _ => rfl
              have ef : ∀ g, a'.eval (.func g) = .func (.func g) #[] #[] := fun _ => rfl
              clear hd hs
              refine wpv (v := .pointer (some ⟨nb, 0, none⟩)) ?_ ⟨_, rfl, Grow.rfl' _, rfl⟩
              (generalize a'.eval = ev at ec ef e11 ⊢; simp [execOp, go_sem, *])
            · refine stepG_run hGg hBg hstab rfl ?_
              intro a' w' hg hs hd hb
              have e11 : a'.eval (.tmp 11) = .pointer (some ⟨nb, 0, none⟩) := hs.rest 11 rfl
              have ec : ∀ v, a'.eval (.const v) = v := fun _ => rfl
              have ef : ∀ g, a'.eval (.func g) = .func (.func g) #[] #[] := fun _ => rfl
              clear hd hs
              refine wpv (v := .pointer (some ⟨nb, 0, none⟩)) ?_ ⟨_, rfl, Grow.rfl' _, rfl⟩
              (generalize a'.eval = ev at ec ef e11 ⊢; simp [execOp, go_sem, *])
            · refine stepG_run hGg hBg hstab rfl ?_
              intro a' w' hg hs hd hb
              have e56 : a'.eval (.tmp 56) = .pointer (some ⟨nb, 0, none⟩) := hd ⟨1, Ground.data⟩ (by simp) rfl rfl
              have ec : ∀ v, a'.eval (.const v) = v := fun _ => rfl
              have ef : ∀ g, a'.eval (.func g) = .func (.func g) #[] #[] := fun _ => rfl
              clear hd hs
              refine wpv (v := .pointer (some ⟨nb, 0, none⟩)) ?_ ⟨_, rfl, Grow.rfl' _, rfl⟩
              (generalize a'.eval = ev at ec ef e56 ⊢; simp [execOp, go_sem, *])
            · refine stepG_run hGg hBg hstab rfl ?_
              intro a' w' hg hs hd hb
              have e57 : a'.eval (.tmp 57) = .pointer (some ⟨nb, 0, none⟩) := hd ⟨2, Ground.data⟩ (by simp) rfl rfl
              have ec : ∀ v, a'.eval (.const v) = v := fun _ => rfl
              have ef : ∀ g, a'.eval (.func g) = .func (.func g) #[] #[] := fun _ => rfl
              clear hd hs
              refine wpv (v := .pointer (some ⟨nb, 0, none⟩)) ?_ ⟨_, rfl, Grow.rfl' _, rfl⟩
              (generalize a'.eval = ev at ec ef e57 ⊢; simp [execOp, go_sem, *])
            · refine stepG_run hGg hBg hstab rfl ?_
              intro a' w' hg hs hd hb
              have e58 : a'.eval (.tmp 58) = .pointer (some ⟨nb, 0, none⟩) := hd ⟨3, Ground.data⟩ (by simp) rfl rfl
              have ec : ∀ v, a'.eval (.const v) = v := fun _ => rfl
              have ef : ∀ g, a'.eval (.func g) = .func (.func g) #[] #[] := fun _ => rfl
              have hq := cell_row hg NB.out.cell0 hrow (show nb < nb + 1 by omega)
              clear hd hs
              refine wpv (v := .slice sX mX cX) ?_ ⟨_, rfl, Grow.rfl' _, rfl⟩
              (generalize a'.eval = ev at ec ef e58 ⊢; simp [execOp, go_sem, *])
            · refine stepG_run hGg hBg hstab rfl ?_
              intro a' w' hg hs hd hb
              have e0 : a'.eval (.tmp 0) = .pointer (some ⟨y, 0, none⟩) := hs.rest 0 rfl
              have ec : ∀ v, a'.eval (.const v) = v := fun _ => rfl
              have ef : ∀ g, a'.eval (.func g) = .func (.func g) #[] #[] := fun _ => rfl
              clear hd hs
              refine wpv (v := .pointer (some ⟨y, 0, none⟩)) ?_ ⟨_, rfl, Grow.rfl' _, rfl⟩
              (generalize a'.eval = ev at ec ef e0 ⊢; simp [execOp, go_sem, *])
            · refine stepG_run hGg hBg hstab rfl ?_
              intro a' w' hg hs hd hb
              have e60 : a'.eval (.tmp 60) = .pointer (some ⟨y, 0, none⟩) := hd ⟨5, Ground.data⟩ (by simp) rfl rfl
              have ec : ∀ v, a'.eval (.const v) = v := fun _ => rfl
              have ef : ∀ g, a'.eval (.func g) = .func (.func g) #[] #[] := fun _ => rfl
              clear hd hs
              refine wpv (v := .pointer (some ⟨y, 0, none⟩)) ?_ ⟨_, rfl, Grow.rfl' _, rfl⟩
              (generalize a'.eval = ev at ec ef e60 ⊢; simp [execOp, go_sem, *])
            · refine stepG_run hGg hBg hstab rfl ?_
              intro a' w' hg hs hd hb
              have e61 : a'.eval (.tmp 61) = .pointer (some ⟨y, 0, none⟩) := hd ⟨6, Ground.data⟩ (by simp) rfl rfl
              have ec : ∀ v, a'.eval (.const v) = v := fun _ => rfl
              have ef : ∀ g, a'.eval (.func g) = .func (.func g) #[] #[] := fun _ => rfl
              clear hd hs
              refine wpv (v := .pointer (some ⟨y, 0, none⟩)) ?_ ⟨_, rfl, Grow.rfl' _, rfl⟩
              (generalize a'.eval = ev at ec ef e61 ⊢; simp [execOp, go_sem, *])
            · refine stepG_run hGg hBg hstab rfl ?_
              intro a' w' hg hs hd hb
              have e62 : a'.eval (.tmp 62) = .pointer (some ⟨y, 0, none⟩) := hd ⟨7, Ground.data⟩ (by simp) rfl rfl
              have ec : ∀ v, a'.eval (.const v) = v := fun _ => rfl
              have ef : ∀ g, a'.eval (.func g) = .func (.func g) #[] #[] := fun _ => rfl
              have hq := cell_row hg D0.out hrow (show y < nb + 1 by omega)
              clear hd hs
              refine wpv (v := .slice (some ⟨bt, ot, none⟩) N cT) ?_ ⟨_, rfl, Grow.rfl' _, rfl⟩
              (generalize a'.eval = ev at ec ef e62 ⊢; simp [execOp, go_sem, *])
            · refine stepG_run hGg hBg hstab rfl ?_
              intro a' w' hg hs hd hb
              have e12 : a'.eval (.tmp 12) = .int .i64 (k : Int) := hs.rest 12 rfl
              have ec : ∀ v, a'.eval (.const v) = v := fun _ => rfl
              have ef : ∀ g, a'.eval (.func g) = .func (.func g) #[] #[] := fun _ => rfl
              clear hd hs
              refine wpv (v := .int .i64 (k : Int)) ?_ ⟨_, rfl, Grow.rfl' _, rfl⟩
              (generalize a'.eval = ev at ec ef e12 ⊢; simp [execOp, go_sem, *])
            · refine stepG_run hGg hBg hstab rfl ?_
              intro a' w' hg hs hd hb
              have e63 : a'.eval (.tmp 63) = .slice (some ⟨bt, ot, none⟩) N cT := hd ⟨8, Ground.data⟩ (by simp) rfl rfl
              have e64 : a'.eval (.tmp 64) = .int .i64 (k : Int) := hd ⟨9, Ground.data⟩ (by simp) rfl rfl
              have ec : ∀ v, a'.eval (.const v) = v := fun _ => rfl
              have ef : ∀ g, a'.eval (.func g) = .func (.func g) #[] #[] := fun _ => rfl
              clear hd hs
              refine wpv (v := .pointer (some ⟨bt, ot + k * 5, none⟩)) ?_ ⟨_, rfl, Grow.rfl' _, rfl⟩
              (generalize a'.eval = ev at ec ef e63 e64 ⊢; simp [execOp, go_sem, *])
            · refine stepG_run hGg hBg hstab rfl ?_
              intro a' w' hg hs hd hb
              have e65 : a'.eval (.tmp 65) = .pointer (some ⟨bt, ot + k * 5, none⟩) := hd ⟨10, Ground.data⟩ (by simp) rfl rfl
              have ec : ∀ v, a'.eval (.const v) = v := fun _ => rfl
              have ef : ∀ g, a'.eval (.func g) = .func (.func g) #[] #[] := fun _ => rfl
              have q0 := cell_row hg PP.out.1 hrow (show bt < nb + 1 by omega); have q1 := cell_row hg PP.out.2.1 hrow (show bt < nb + 1 by omega); have q2 := cell_row hg PP.out.2.2.1 hrow (show bt < nb + 1 by omega); have q3 := cell_row hg PP.out.2.2.2.1 hrow (show bt < nb + 1 by omega); have q4 := cell_row hg PP.out.2.2.2.2 hrow (show bt < nb + 1 by omega)
              clear hd hs
              refine wpv (v := .agg #[.int .i64 x.e, .int .i64 x.d, .int .i64 x.x, .int .i64 x.y, .int .i64 x.z]) ?_ ⟨_, rfl, Grow.rfl' _, rfl⟩
              (generalize a'.eval = ev at ec ef e65 ⊢; simp [execOp, go_sem, *])
            · refine stepG_run hGg hBg hstab rfl ?_
              intro a' w' hg hs hd hb
              have e66 : a'.eval (.tmp 66) = .agg #[.int .i64 x.e, .int .i64 x.d, .int .i64 x.x, .int .i64 x.y, .int .i64 x.z] := hd ⟨11, Ground.data⟩ (by simp) rfl rfl
              have ec : ∀ v, a'.eval (.const v) = v := fun _ => rfl
              have ef : ∀ g, a'.eval (.func g) = .func (.func g) #[] #[] := fun _ => rfl
              clear hd hs
              refine wpv (v := .slice (some ⟨w'.heap.size, 0, none⟩) 1 1) (w' := w'.alloc (.cells #[.int .i64 x.e, .int .i64 x.d, .int .i64 x.x, .int .i64 x.y, .int .i64 x.z] 25)) ?_ ⟨_, rfl, Grow.alloc' _ _, boxR_one _ _⟩
              (generalize a'.eval = ev at ec ef e66 ⊢; simp [execOp, go_sem, *])
            · refine stepG_take rfl ?_
              intro a' w' hg hs hd hb
              have e59 : a'.eval (.tmp 59) = .slice sX mX cX := hd ⟨4, Ground.data⟩ (by simp) rfl rfl
              obtain ⟨b67, e67, r67⟩ : BoxR x (a'.eval (.tmp 67)) w' := hd ⟨12, Ground.data⟩ (by simp) rfl rfl
              have ec : ∀ v, a'.eval (.const v) = v := fun _ => rfl
              have ef : ∀ g, a'.eval (.func g) = .func (.func g) #[] #[] := fun _ => rfl
              clear hd hs
              obtain ⟨s2, c2, w2, hrun, hown, hgr, hlie⟩ := run_aptG hg.size 30 (nb + 1) sX mX cX LT [x] (hb rfl) (some ⟨b67, 0, none⟩) 1 1 (boxR_is r67) (by omega) (by have := hg.size; omega)
              refine wpv (v := .slice s2 _ c2) (w' := w2) ?_ ⟨_, rfl, World.grownBy.trans hg hgr, ⟨s2, c2, rfl, hown, hlie⟩, ?_, fun h _ => absurd rfl h⟩
              rotate_left
              · intro j u hj h
                match j with
                | 0 => exact h
                | 1 => exact h
                | 2 => exact h
                | 3 => exact h
                | 4 => exact h
                | 5 => exact h
                | 6 => exact h
                | 7 => exact h
                | 8 => exact h
                | 9 => exact h
                | 10 => exact h
                | 11 => exact h
                | 12 => cases hj
                | 13 => cases hj
                | 14 => exact h
                | 15 => exact h
                | j + 16 => exact trivial
              · unfold execOp; simp only [resolve, invoke, builtin, Sem.run_bind, Sem.run_pure, Result.andThen_ok, List.map_toArray, List.map_cons, List.map_nil, e59, e67, hrun]
            · refine stepG_run hGg hBg hstab rfl ?_
              intro a' w' hg hs hd hb
              have e55 : a'.eval (.tmp 55) = .pointer (some ⟨nb, 0, none⟩) := hd ⟨0, Ground.data⟩ (by simp) rfl rfl
              have ec : ∀ v, a'.eval (.const v) = v := fun _ => rfl
              have ef : ∀ g, a'.eval (.func g) = .func (.func g) #[] #[] := fun _ => rfl
              clear hd hs
              refine wpv (v := .pointer (some ⟨nb, 0, none⟩)) ?_ ⟨_, rfl, Grow.rfl' _, rfl⟩
              (generalize a'.eval = ev at ec ef e55 ⊢; simp [execOp, go_sem, *])
            · refine stepG_run hGg hBg hstab rfl ?_
              intro a' w' hg hs hd hb
              have e69 : a'.eval (.tmp 69) = .pointer (some ⟨nb, 0, none⟩) := hd ⟨14, Ground.data⟩ (by simp) rfl rfl
              have ec : ∀ v, a'.eval (.const v) = v := fun _ => rfl
              have ef : ∀ g, a'.eval (.func g) = .func (.func g) #[] #[] := fun _ => rfl
              clear hd hs
              refine wpv (v := .pointer (some ⟨nb, 0, none⟩)) ?_ ⟨_, rfl, Grow.rfl' _, rfl⟩
              (generalize a'.eval = ev at ec ef e69 ⊢; simp [execOp, go_sem, *])
          · intro a' w' hg hs hd
            have e70 : a'.eval (.tmp 70) = .pointer (some ⟨nb, 0, none⟩) := hd 15 (by omega) rfl
            obtain ⟨s68, c68, e68, o68, l68⟩ : AppT wc (nb + 1) sX (mX + 1) (LT ++ [x]) (a'.eval (.tmp 68)) w' := hd 13 (by omega) rfl
            have ec : ∀ v, a'.eval (.const v) = v := fun _ => rfl
            have ef : ∀ g, a'.eval (.func g) = .func (.func g) #[] #[] := fun _ => rfl
            have hq0 := cell_row hg NB.out.cell0 hrow (show nb < nb + 1 by omega)
            have hf0 : w'.frozen? ⟨nb, 0, none⟩ = false := by rw [World.frozen?_of_block (w := wc) (hg.block nb hzc (fun e => by have := hrow _ e.symm; omega))]; exact NB.out.free0
            refine wps (w' := w'.setCell ⟨nb, 0, none⟩ (.slice s68 (mX + 1) c68)) ?_ ?_
            · (generalize a'.eval = ev at ec ef e70 e68 ⊢; simp [execOp, go_sem, *])
            have N2 := hide (NB.out.setT hg o68 l68)
            have G2 := hide (grow_turn (p := ⟨nb, 0, none⟩) (u := .slice s68 (mX + 1) c68) GB.out hg (fun q hq => by have := hrow q hq; omega) hn4)
            have D2 := hide (show (w'.setCell ⟨nb, 0, none⟩ (.slice s68 (mX + 1) c68)).cell? ⟨y, 1, none⟩ = some (.slice (some ⟨bn, on, none⟩) N cN) from by rw [World.cell?_of_block (w := w') (setCell_block _ _ _ _ (show y ≠ nb by omega))]; exact cell_row hg D1.out hrow (show y < nb + 1 by omega))
            have Q2 := hide (show (w'.setCell ⟨nb, 0, none⟩ (.slice s68 (mX + 1) c68)).cell? ⟨bn, on + k, none⟩ = some (.int .i64 cx) from by rw [World.cell?_of_block (w := w') (setCell_block _ _ _ _ (show bn ≠ nb by omega))]; exact cell_row hg Q0.out hrow (show bn < nb + 1 by omega))
            clear hq0 hf0 e68 o68 l68 e70 ec ef hg HGG HBG HG0 HB0 hGg hBg hstab GB NB D0 D1 PP Q0
            rw [frame_eq hs [false, false, false, false, false, false, false, false, false, false, false, false, false, false, false, false, false, false, false, false, false, false, false, false, false, false, false, false, false, false, false, false, false, false, false, false, false, false, false, false, false, false, false, false, false, false, false, false, false, false, false, false, false, false, false, true, true, true, true, true, true, true, true, true, true, true, true, true, true, true, true, false, false, false, false, false, false, false, false, false, false, false, false, false, false, false, false, false, false, false, false, false, false, false, false, false, false, false, false, false, false, false, false, false, false, false, false, false, false, false, false, false, false, false, false, false, false, false, false, false, false, false, false, false, false, false, false, false, false, false, false, false, false, false, false, false, false, false, false, false, false, false, false, false, false, false, false, false, false, false, false, false, false, false, false, false, false, false, false, false, false, false, false, false, false, false, false, false, false, false, false, false, false, false, false, false, false, false, false, false, false, false, false, false, false, false, false, false, false, false, false, false, false, false, false, false, false, false, false, false, false, false] (by kernel_rfl)]; simp only [mergeL]; clear hs hd; generalize a'.tmps = TT at *; try go_frame
            generalize w'.setCell ⟨nb, 0, none⟩ (.slice s68 (mX + 1) c68) = wd at *
            have hzd : nb < wd.heap.size := N2.out.lt
            have HGG : ∀ w1 w2, wd.grownBy w1 (sZ.map (·.block)) → Grow w1 w2 → wd.grownBy w2 (sZ.map (·.block)) := fun _ _ h q => grown_post h q
            have HBG : ∀ w1 w2, Grow w1 w2 → OwnIV w1 (nb + 1) sZ mX cZ (LT.map s.f) → OwnIV w2 (nb + 1) sZ mX cZ (LT.map s.f) := fun _ _ q h => h.later q
            have HG0 : ∀ w', Grow wd w' → w'.heap = wd.heap → wd.grownBy w' (sZ.map (·.block)) := fun _ h _ => (grown_of h).but _
            have HB0 : ∀ w', Grow wd w' → w'.heap = wd.heap → OwnIV w' (nb + 1) sZ mX cZ (LT.map s.f) := fun _ h _ => N2.out.ownN.later h
            go_wp2_with fail
            let FF : Nat → Value → World → Prop := fun i vF wF => match i with | 0 => vF = .pointer (some ⟨nb, 0, none⟩) | 1 => vF = .pointer (some ⟨nb, 0, none⟩) | 2 => vF = .pointer (some ⟨nb, 0, none⟩) | 3 => vF = .pointer (some ⟨nb, 1, none⟩) | 4 => vF = .slice sZ mX cZ | 5 => vF = .pointer (some ⟨y, 0, none⟩) | 6 => vF = .pointer (some ⟨y, 0, none⟩) | 7 => vF = .pointer (some ⟨y, 1, none⟩) | 8 => vF = .slice (some ⟨bn, on, none⟩) N cN | 9 => vF = .int .i64 (k : Int) | 10 => vF = .pointer (some ⟨bn, on + k, none⟩) | 11 => vF = .int .i64 cx | 12 => BoxJ cx vF wF | 13 => AppI wd (nb + 1) sZ (mX + 1) (LT.map s.f ++ [cx]) vF wF | 14 => vF = .pointer (some ⟨nb, 0, none⟩) | 15 => vF = .pointer (some ⟨nb, 1, none⟩) | _ => True
            let GG : World → Prop := fun w' => wd.grownBy w' (sZ.map (·.block))
            let BB : World → Prop := fun w' => OwnIV w' (nb + 1) sZ mX cZ (LT.map s.f)
            have hstab : ∀ k v w1 w2, Grow w1 w2 → FF k v w1 → FF k v w2 := by
              intro k v w1 w2 hg h
              match k with
              | 0 => exact h
              | 1 => exact h
              | 2 => exact h
              | 3 => exact h
              | 4 => exact h
              | 5 => exact h
              | 6 => exact h
              | 7 => exact h
              | 8 => exact h
              | 9 => exact h
              | 10 => exact h
              | 11 => exact h
              | 12 => exact BoxJ.later hg h
              | 13 => exact AppI.later hg h
              | 14 => exact h
              | 15 => exact h
              | k + 16 => exact trivial
            have hGg : ∀ w1 w2, GG w1 → Grow w1 w2 → GG w2 := HGG
            have hBg : ∀ w1 w2, Grow w1 w2 → BB w1 → BB w2 := HBG
            refine wp_region_endG FF GG BB (fun i => match i with | 12 => some 13 | _ => none) 13 16 _ rfl rfl rfl (by kernel_rfl) (by kernel_rfl) HG0 HB0 ?_ ?_
            · refine ⟨?_, ?_, ?_, ?_, ?_, ?_, ?_, ?_, ?_, ?_, ?_, ?_, ?_, ?_, ?_, ?_, trivial⟩
              · refine stepG_run hGg hBg hstab rfl ?_
                intro a' w' hg hs hd hb
                have e11 : a'.eval (.tmp 11) = .pointer (some ⟨nb, 0, none⟩) := hs.rest 11 rfl
                have ec : ∀ v, a'.eval (.const v) = v := fun _ => rfl
                have ef : ∀ g, a'.eval (.func g) = .func (.func g) #[] #[] := fun _ => rfl
                clear hd hs
                refine wpv (v := .pointer (some ⟨nb, 0, none⟩)) ?_ ⟨_, rfl, Grow.rfl' _, rfl⟩
                (generalize a'.eval = ev at ec ef e11 ⊢; simp [execOp, go_sem, *])
              · refine stepG_run hGg hBg hstab rfl ?_
                intro a' w' hg hs hd hb
                have e11 : a'.eval (.tmp 11) = .pointer (some ⟨nb, 0, none⟩) := hs.rest 11 rfl
                have ec : ∀ v, a'.eval (.const v) = v := fun _ => rfl
                have ef : ∀ g, a'.eval (.func g) = .func (.func g) #[] #[] := fun _ => rfl
                clear hd hs
                refine wpv (v := .pointer (some ⟨nb, 0, none⟩)) ?_ ⟨_, rfl, Grow.rfl' _, rfl⟩
                (generalize a'.eval = ev at ec ef e11 ⊢; simp [execOp, go_sem, *])
              · refine stepG_run hGg hBg hstab rfl ?_
                intro a' w' hg hs hd hb
                have e72 : a'.eval (.tmp 72) = .pointer (some ⟨nb, 0, none⟩) := hd ⟨1, Ground.data⟩ (by simp) rfl rfl
                have ec : ∀ v, a'.eval (.const v) = v := fun _ => rfl
                have ef : ∀ g, a'.eval (.func g) = .func (.func g) #[] #[] := fun _ => rfl
                clear hd hs
                refine wpv (v := .pointer (some ⟨nb, 0, none⟩)) ?_ ⟨_, rfl, Grow.rfl' _, rfl⟩
                (generalize a'.eval = ev at ec ef e72 ⊢; simp [execOp, go_sem, *])
              · refine stepG_run hGg hBg hstab rfl ?_
                intro a' w' hg hs hd hb
                have e73 : a'.eval (.tmp 73) = .pointer (some ⟨nb, 0, none⟩) := hd ⟨2, Ground.data⟩ (by simp) rfl rfl
                have ec : ∀ v, a'.eval (.const v) = v := fun _ => rfl
                have ef : ∀ g, a'.eval (.func g) = .func (.func g) #[] #[] := fun _ => rfl
                clear hd hs
                refine wpv (v := .pointer (some ⟨nb, 1, none⟩)) ?_ ⟨_, rfl, Grow.rfl' _, rfl⟩
                (generalize a'.eval = ev at ec ef e73 ⊢; simp [execOp, go_sem, *])
              · refine stepG_run hGg hBg hstab rfl ?_
                intro a' w' hg hs hd hb
                have e74 : a'.eval (.tmp 74) = .pointer (some ⟨nb, 1, none⟩) := hd ⟨3, Ground.data⟩ (by simp) rfl rfl
                have ec : ∀ v, a'.eval (.const v) = v := fun _ => rfl
                have ef : ∀ g, a'.eval (.func g) = .func (.func g) #[] #[] := fun _ => rfl
                have hq := cell_row hg N2.out.cell1 hrowN (show nb < nb + 1 by omega)
                clear hd hs
                refine wpv (v := .slice sZ mX cZ) ?_ ⟨_, rfl, Grow.rfl' _, rfl⟩
                (generalize a'.eval = ev at ec ef e74 ⊢; simp [execOp, go_sem, *])
              · refine stepG_run hGg hBg hstab rfl ?_
                intro a' w' hg hs hd hb
                have e0 : a'.eval (.tmp 0) = .pointer (some ⟨y, 0, none⟩) := hs.rest 0 rfl
                have ec : ∀ v, a'.eval (.const v) = v := fun _ => rfl
                have ef : ∀ g, a'.eval (.func g) = .func (.func g) #[] #[] := fun _ => rfl
                clear hd hs
                refine wpv (v := .pointer (some ⟨y, 0, none⟩)) ?_ ⟨_, rfl, Grow.rfl' _, rfl⟩
                (generalize a'.eval = ev at ec ef e0 ⊢; simp [execOp, go_sem, *])
              · refine stepG_run hGg hBg hstab rfl ?_
                intro a' w' hg hs hd hb
                have e76 : a'.eval (.tmp 76) = .pointer (some ⟨y, 0, none⟩) := hd ⟨5, Ground.data⟩ (by simp) rfl rfl
                have ec : ∀ v, a'.eval (.const v) = v := fun _ => rfl
                have ef : ∀ g, a'.eval (.func g) = .func (.func g) #[] #[] := fun _ => rfl
                clear hd hs
                refine wpv (v := .pointer (some ⟨y, 0, none⟩)) ?_ ⟨_, rfl, Grow.rfl' _, rfl⟩
                (generalize a'.eval = ev at ec ef e76 ⊢; simp [execOp, go_sem, *])
              · refine stepG_run hGg hBg hstab rfl ?_
                intro a' w' hg hs hd hb
                have e77 : a'.eval (.tmp 77) = .pointer (some ⟨y, 0, none⟩) := hd ⟨6, Ground.data⟩ (by simp) rfl rfl
                have ec : ∀ v, a'.eval (.const v) = v := fun _ => rfl
                have ef : ∀ g, a'.eval (.func g) = .func (.func g) #[] #[] := fun _ => rfl
                clear hd hs
                refine wpv (v := .pointer (some ⟨y, 1, none⟩)) ?_ ⟨_, rfl, Grow.rfl' _, rfl⟩
                (generalize a'.eval = ev at ec ef e77 ⊢; simp [execOp, go_sem, *])
              · refine stepG_run hGg hBg hstab rfl ?_
                intro a' w' hg hs hd hb
                have e78 : a'.eval (.tmp 78) = .pointer (some ⟨y, 1, none⟩) := hd ⟨7, Ground.data⟩ (by simp) rfl rfl
                have ec : ∀ v, a'.eval (.const v) = v := fun _ => rfl
                have ef : ∀ g, a'.eval (.func g) = .func (.func g) #[] #[] := fun _ => rfl
                have hq := cell_row hg D2.out hrowN (show y < nb + 1 by omega)
                clear hd hs
                refine wpv (v := .slice (some ⟨bn, on, none⟩) N cN) ?_ ⟨_, rfl, Grow.rfl' _, rfl⟩
                (generalize a'.eval = ev at ec ef e78 ⊢; simp [execOp, go_sem, *])
              · refine stepG_run hGg hBg hstab rfl ?_
                intro a' w' hg hs hd hb
                have e12 : a'.eval (.tmp 12) = .int .i64 (k : Int) := hs.rest 12 rfl
                have ec : ∀ v, a'.eval (.const v) = v := fun _ => rfl
                have ef : ∀ g, a'.eval (.func g) = .func (.func g) #[] #[] := fun _ => rfl
                clear hd hs
                refine wpv (v := .int .i64 (k : Int)) ?_ ⟨_, rfl, Grow.rfl' _, rfl⟩
                (generalize a'.eval = ev at ec ef e12 ⊢; simp [execOp, go_sem, *])
              · refine stepG_run hGg hBg hstab rfl ?_
                intro a' w' hg hs hd hb
                have e79 : a'.eval (.tmp 79) = .slice (some ⟨bn, on, none⟩) N cN := hd ⟨8, Ground.data⟩ (by simp) rfl rfl
                have e80 : a'.eval (.tmp 80) = .int .i64 (k : Int) := hd ⟨9, Ground.data⟩ (by simp) rfl rfl
                have ec : ∀ v, a'.eval (.const v) = v := fun _ => rfl
                have ef : ∀ g, a'.eval (.func g) = .func (.func g) #[] #[] := fun _ => rfl
                clear hd hs
                refine wpv (v := .pointer (some ⟨bn, on + k, none⟩)) ?_ ⟨_, rfl, Grow.rfl' _, rfl⟩
                (generalize a'.eval = ev at ec ef e79 e80 ⊢; simp [execOp, go_sem, *])
              · refine stepG_run hGg hBg hstab rfl ?_
                intro a' w' hg hs hd hb
                have e81 : a'.eval (.tmp 81) = .pointer (some ⟨bn, on + k, none⟩) := hd ⟨10, Ground.data⟩ (by simp) rfl rfl
                have ec : ∀ v, a'.eval (.const v) = v := fun _ => rfl
                have ef : ∀ g, a'.eval (.func g) = .func (.func g) #[] #[] := fun _ => rfl
                have hq := cell_row hg Q2.out hrowN (show bn < nb + 1 by omega)
                clear hd hs
                refine wpv (v := .int .i64 cx) ?_ ⟨_, rfl, Grow.rfl' _, rfl⟩
                (generalize a'.eval = ev at ec ef e81 ⊢; simp [execOp, go_sem, *])
              · refine stepG_run hGg hBg hstab rfl ?_
                intro a' w' hg hs hd hb
                have e82 : a'.eval (.tmp 82) = .int .i64 cx := hd ⟨11, Ground.data⟩ (by simp) rfl rfl
                have ec : ∀ v, a'.eval (.const v) = v := fun _ => rfl
                have ef : ∀ g, a'.eval (.func g) = .func (.func g) #[] #[] := fun _ => rfl
                clear hd hs
                refine wpv (v := .slice (some ⟨w'.heap.size, 0, none⟩) 1 1) (w' := w'.alloc (.cells #[.int .i64 cx] 3)) ?_ ⟨_, rfl, Grow.alloc' _ _, boxJ_one _ _⟩
                (generalize a'.eval = ev at ec ef e82 ⊢; simp [execOp, go_sem, *])
              · refine stepG_take rfl ?_
                intro a' w' hg hs hd hb
                have e75 : a'.eval (.tmp 75) = .slice sZ mX cZ := hd ⟨4, Ground.data⟩ (by simp) rfl rfl
                obtain ⟨b83, e83, r83⟩ : BoxJ cx (a'.eval (.tmp 83)) w' := hd ⟨12, Ground.data⟩ (by simp) rfl rfl
                have ec : ∀ v, a'.eval (.const v) = v := fun _ => rfl
                have ef : ∀ g, a'.eval (.func g) = .func (.func g) #[] #[] := fun _ => rfl
                clear hd hs
                obtain ⟨s2, c2, w2, hrun, hown, hgr, hlie⟩ := run_apiG hg.size 31 (nb + 1) sZ mX cZ (LT.map s.f) [cx] (hb rfl) (some ⟨b83, 0, none⟩) 1 1 r83 (by omega) (by have := hg.size; omega)
                refine wpv (v := .slice s2 _ c2) (w' := w2) ?_ ⟨_, rfl, World.grownBy.trans hg hgr, ⟨s2, c2, rfl, hown, hlie⟩, ?_, fun h _ => absurd rfl h⟩
                rotate_left
                · intro j u hj h
                  match j with
                  | 0 => exact h
                  | 1 => exact h
                  | 2 => exact h
                  | 3 => exact h
                  | 4 => exact h
                  | 5 => exact h
                  | 6 => exact h
                  | 7 => exact h
                  | 8 => exact h
                  | 9 => exact h
                  | 10 => exact h
                  | 11 => exact h
                  | 12 => cases hj
                  | 13 => cases hj
                  | 14 => exact h
                  | 15 => exact h
                  | j + 16 => exact trivial
                · unfold execOp; simp only [resolve, invoke, builtin, Sem.run_bind, Sem.run_pure, Result.andThen_ok, List.map_toArray, List.map_cons, List.map_nil, e75, e83, hrun]
              · refine stepG_run hGg hBg hstab rfl ?_
                intro a' w' hg hs hd hb
                have e71 : a'.eval (.tmp 71) = .pointer (some ⟨nb, 0, none⟩) := hd ⟨0, Ground.data⟩ (by simp) rfl rfl
                have ec : ∀ v, a'.eval (.const v) = v := fun _ => rfl
                have ef : ∀ g, a'.eval (.func g) = .func (.func g) #[] #[] := fun _ => rfl
                clear hd hs
                refine wpv (v := .pointer (some ⟨nb, 0, none⟩)) ?_ ⟨_, rfl, Grow.rfl' _, rfl⟩
                (generalize a'.eval = ev at ec ef e71 ⊢; simp [execOp, go_sem, *])
              · refine stepG_run hGg hBg hstab rfl ?_
                intro a' w' hg hs hd hb
                have e85 : a'.eval (.tmp 85) = .pointer (some ⟨nb, 0, none⟩) := hd ⟨14, Ground.data⟩ (by simp) rfl rfl
                have ec : ∀ v, a'.eval (.const v) = v := fun _ => rfl
                have ef : ∀ g, a'.eval (.func g) = .func (.func g) #[] #[] := fun _ => rfl
                clear hd hs
                refine wpv (v := .pointer (some ⟨nb, 1, none⟩)) ?_ ⟨_, rfl, Grow.rfl' _, rfl⟩
                (generalize a'.eval = ev at ec ef e85 ⊢; simp [execOp, go_sem, *])
            · intro a' w' hg hs hd
              have e86 : a'.eval (.tmp 86) = .pointer (some ⟨nb, 1, none⟩) := hd 15 (by omega) rfl
              obtain ⟨s84, c84, e84, o84, l84⟩ : AppI wd (nb + 1) sZ (mX + 1) (LT.map s.f ++ [cx]) (a'.eval (.tmp 84)) w' := hd 13 (by omega) rfl
              have ec : ∀ v, a'.eval (.const v) = v := fun _ => rfl
              have ef : ∀ g, a'.eval (.func g) = .func (.func g) #[] #[] := fun _ => rfl
              have hq0 := cell_row hg N2.out.cell1 hrowN (show nb < nb + 1 by omega)
              have hf0 : w'.frozen? ⟨nb, 1, none⟩ = false := by rw [World.frozen?_of_block (w := wd) (hg.block nb hzd (fun e => by have := hrowN _ e.symm; omega))]; exact N2.out.free1
              refine wps (w' := w'.setCell ⟨nb, 1, none⟩ (.slice s84 (mX + 1) c84)) ?_ ?_
              · (generalize a'.eval = ev at ec ef e86 e84 ⊢; simp [execOp, go_sem, *])
              have N3 := hide (N2.out.setN hg o84 l84)
              have G4 := hide (grow_turn (p := ⟨nb, 1, none⟩) (u := .slice s84 (mX + 1) c84) G2.out hg (fun q hq => by have := hrowN q hq; omega) hn4)
              clear hq0 hf0 e84 o84 l84 e86 ec ef hg HGG HBG HG0 HB0 hGg hBg hstab G2 N2 D2 Q2
              rw [frame_eq hs [false, false, false, false, false, false, false, false, false, false, false, false, false, false, false, false, false, false, false, false, false, false, false, false, false, false, false, false, false, false, false, false, false, false, false, false, false, false, false, false, false, false, false, false, false, false, false, false, false, false, false, false, false, false, false, false, false, false, false, false, false, false, false, false, false, false, false, false, false, false, false, true, true, true, true, true, true, true, true, true, true, true, true, true, true, true, true, false, false, false, false, false, false, false, false, false, false, false, false, false, false, false, false, false, false, false, false, false, false, false, false, false, false, false, false, false, false, false, false, false, false, false, false, false, false, false, false, false, false, false, false, false, false, false, false, false, false, false, false, false, false, false, false, false, false, false, false, false, false, false, false, false, false, false, false, false, false, false, false, false, false, false, false, false, false, false, false, false, false, false, false, false, false, false, false, false, false, false, false, false, false, false, false, false, false, false, false, false, false, false, false, false, false, false, false, false, false, false, false, false, false, false] (by kernel_rfl)]; simp only [mergeL]; clear hs hd; generalize a'.tmps = TT at *; try go_frame
              generalize w'.setCell ⟨nb, 1, none⟩ (.slice s84 (mX + 1) c84) = we at *
              go_wp2_with fail
              go_roundw
              case rel =>
                refine ⟨k + 1, s68, mX + 1, c68, s84, c84, by omega, by go_num, G4.out, ?_⟩
                rw [HE.out, HES.out, if_neg (by simp), List.map_append, List.map_cons, List.map_nil, HCX.out]
                exact N3.out
              case measure => simp [intOf]; omega
        · go_roundw
          case rel => exact ⟨k + 1, sX, mX, cX, sZ, cZ, by omega, by go_num, GB.out, by rw [HE.out, HES.out, if_pos rfl, List.append_nil]; exact NB.out⟩
          case measure => simp [intOf]; omega
      · obtain rfl : k = N := by omega
        have hD : dropT (s.T.take k) t = dropT s.T t := by rw [List.take_of_length_le (by rw [← HN.out]; omega)]
        rw [hD] at HNX
        have hi2 : ¬ (k : Int) < (k : Int) := by omega
        clear hD hlt
        by_cases hu0 : u = 0
        · have hNF : NextR wr nb sX mX cX (nextT s.T t u) sZ mX cZ ((nextT s.T t u).map (putF s.f t u)) := by
            have e1 : nextT s.T t u = dropT s.T t := by unfold nextT; rw [if_pos hu0]
            rw [e1, map_put_drop]; exact HNX.out
          have NF := hide hNF
          clear hNF HNX
          by_cases hb4 : mX ≤ 400
          · have hTl : (nextT s.T t u).length = mX := NF.out.ownT.1
            have he : s.err t n = 0 := Cs.err_of HM.out HF.out (by rw [← HC.out, ← HU.out]; exact HS.out) (by rw [← HC.out, ← HU.out]; omega)
            have ha : s.add t n = s.next t u := by unfold Cs.add; rw [if_pos he, ← HC.out, ← HU.out]
            have HE := hide he
            have HA := hide ha
            have HSO2 := hide (Cs.next_ok (t := t) (n := u) HOK.out HM.out HS.out (by omega))
            have hb5 : ¬ (400 : Int) < (mX : Int) := by omega
            have f0 := NF.out.cell0
            clear he ha hTl ER
            go_wp2_with fail
            refine (rfront_any y s sT sN cT cN wr HOK.out (HR3.out.later HG.out)).mono ?_
            rintro e w6 ⟨v, rfl, hb, sW, nW, cW, rfl, hI⟩
            have NF6 := hide (NF.out.later hb)
            have RY6 := hide ((HR3.out.later HG.out).later hb)
            have W6 := hide hI
            have G6 := hide (Grow.trans' (Grow.trans' G3.out HG.out) hb)
            have hnW : nW ≤ 400 := by have h1 := hI.1; have h2 := Cs.front_len HOK.out; omega
            obtain ⟨hP1, hP2⟩ := RepY.put (s2 := s.next t u) RY6.out NF6.out hynb rfl
            have P1 := hide hP1
            have P2 := hide hP2
            have W8 := hide (W6.out.turnY RY6.out hP2)
            clear f0 hb hI hP1 hP2
            have f0 := NF6.out.cell0
            have f1 := NF6.out.cell1
            have g0 := RY6.out.cell0
            have g1 := RY6.out.cell1
            have z0 := RY6.out.free0
            have z1 := RY6.out.free1
            have hyn : ¬ nb = y := by omega
            have hyn' : ¬ y = nb := by omega
            go_wp2_with fail
            generalize (w6.setCell ⟨y, 0, none⟩ (.slice sX mX cX)).setCell ⟨y, 1, none⟩ (.slice sZ mX cZ) = w8 at *
            refine (rfront_any y (s.next t u) sX sZ cX cZ w8 HSO2.out P1.out).mono ?_
            rintro e w9 ⟨v, rfl, hb, sV, nV, cV, rfl, hI⟩
            have P9 := hide (P1.out.later hb)
            have G9 := hide (grown_post (grown_pre G6.out P2.out) hb)
            have W9 := hide (W8.out.later hb)
            have V9 := hide hI
            have hnV : nV ≤ 400 := by have h1 := hI.1; have h2 := Cs.front_len HSO2.out; omega
            clear hb hI f0 f1 g0 g1 z0 z1 hyn hyn' P1 P2 W8 W6 NF6 RY6 G6
            go_wp2_with fail
            refine (rwithout_any sW nW cW s.front sV nV cV (s.next t u).front w9 (by omega) (by omega) W9.out V9.out).mono ?_
            rintro e w10 ⟨v, rfl, hb, s3, n3, c3, rfl, hI⟩
            have P10 := hide (P9.out.later hb)
            have G10 := hide (grown_post G9.out hb)
            have W10 := hide (W9.out.later hb)
            have V10 := hide (V9.out.later hb)
            have J10 := hide hI
            clear hb hI P9 G9 W9 V9
            go_wp2_with fail
            refine (rwithout_any sV nV cV (s.next t u).front sW nW cW s.front w10 (by omega) (by omega) V10.out W10.out).mono ?_
            rintro e w11 ⟨v, rfl, hb, s4, n4, c4, rfl, hI⟩
            have P11 := hide (P10.out.later hb)
            have G11 := hide (grown_post G10.out hb)
            have J11 := hide (J10.out.later hb)
            have K11 := hide hI
            clear hb hI P10 G10 W10 V10 J10
            go_wp2_with fail
            go_ret3
            refine ⟨s3, n3, c3, s4, n4, c4, sX, cX, sZ, cZ, by rw [HE.out]; rfl, G11.out, ?_, ?_, ?_⟩
            · rw [HA.out]; exact P11.out
            · unfold Cs.gone; rw [HA.out]; exact J11.out
            · unfold Cs.come; rw [HA.out]; exact K11.out
          · exact absurd hmX hb4
        · obtain ⟨D, hDD⟩ : ∃ D, D = dropT s.T t := ⟨_, rfl⟩
          rw [← hDD] at HNX
          have HDR := hide (show Rises kinT D from by rw [hDD]; exact dropT_rises t HOK.out.rises)
          have HDT := hide (show t ∉ D from by rw [hDD]; exact fun h => (mem_dropT.1 h).2 rfl)
          have HDD := hide hDD
          have hDl : D.length = mX := HNX.out.ownT.1
          obtain ⟨w6, hw6⟩ : ∃ w6, w6 = wr := ⟨_, rfl⟩
          rw [← hw6] at HG HNX d0 ⊢
          have hun : (u != 0) = true := by simpa using hu0
          have HDL := hide hDl
          clear hDD hDl hw6
          go_wp2_with fail
          clear d0
          go_loopw [13] (fun i wr => ∃ j : Nat, j ≤ mX ∧ i = .int .i64 j ∧ Grow w6 wr ∧ ∀ q (h : q < D.length), q < j → kinT.ord D[q] t < 0) (fun i _ => mX - (intOf i).toNat)
          case atStart => exact ⟨0, Nat.zero_le _, rfl, Grow.rfl' _, fun q h hq => by omega⟩
          case round =>
            obtain ⟨j, hj, rfl, hg, hall⟩ := hrel
            have HG7 := hide hg
            have HALL := hide hall
            have NX7 := hide (HNX.out.later hg)
            have f0 := NX7.out.cell0
            clear hg hall
            by_cases hjl : j < mX
            · have hjd : j < D.length := by rw [HDL.out]; exact hjl
              obtain ⟨bx, ox, hsx, hr⟩ := NX7.out.ownT.is.2.2.resolve_left (fun h => by rw [h] at hjd; simp at hjd)
              obtain ⟨x, hx⟩ : ∃ x, x = D[j] := ⟨_, rfl⟩
              obtain ⟨p0, p1, p2, p3, p4⟩ := hr.at j hjd
              rw [← hx] at p0 p1 p2 p3 p4
              obtain ⟨x0, x1, x2, x3, x4⟩ := KX3.out.later (Grow.trans' HG.out HG7.out)
              have HX := hide hx
              have hj1 : (0 : Int) ≤ (j : Int) := by omega
              have hj2 : (j : Int) < (mX : Int) := by omega
              have hj3 : decide ((j : Int) < (mX : Int)) = true := by simpa using hjl
              obtain ⟨r, hr', hcase⟩ : ∃ r, kinT.ord x t = r ∧ (r = -1 ∨ r = 1) := by
                rcases orderI_cases x t with ⟨q, _⟩ | ⟨q, q2⟩ | ⟨q, _⟩
                · exact ⟨-1, q, .inl rfl⟩
                · exact absurd (by rw [← q2, hx]; exact List.getElem_mem _) HDT.out
                · exact ⟨1, q, .inr rfl⟩
              have HSX := hide hsx
              rw [hsx] at f0
              have sf0 := cell_regrown f0
              have sp0 := cell_regrown p0; have sp1 := cell_regrown p1; have sp2 := cell_regrown p2; have sp3 := cell_regrown p3; have sp4 := cell_regrown p4
              have sx0 := cell_regrown x0; have sx1 := cell_regrown x1; have sx2 := cell_regrown x2; have sx3 := cell_regrown x3; have sx4 := cell_regrown x4
              clear hr hx hsx
              go_wp2_with fail
              rcases hcase with rfl | rfl
              all_goals
                have CC := hide (fun dd os => Calls.regrown_of (refOrderT_at x t hr' (grow (redrawn wr dd) os)))
                have HQ := hide hr'
                clear hr'
                refine wp_region_quiet_below (by kernel_rfl) (by kernel_rfl) ?_
                repeat (go_big_quiet_step (exact CC.out _ _))
                refine wpQuiet_nil ?_
                intro _ hw'
                obtain ⟨⟨dq, osq⟩, hw''⟩ := hw'
                subst hw''
                have GB := hide (Grow.trans' HG7.out (below_regrown wr dq osq))
                clear CC sf0 sp0 sp1 sp2 sp3 sp4 sx0 sx1 sx2 sx3 sx4 p0 p1 p2 p3 p4 x0 x1 x2 x3 x4 f0
                generalize grow (redrawn wr dq) osq = wz at *
              · go_wp2_with fail
                go_roundw
                case rel =>
                  refine ⟨j + 1, by omega, by go_num, GB.out, fun q hq hlt' => ?_⟩
                  by_cases e : q = j
                  · subst e; rw [← HX.out, HQ.out]; omega
                  · exact HALL.out q hq (by omega)
                case measure => simp [intOf]; omega
              · skip
                -- INS1
                have GZ := hide (Grow.trans' HG.out GB.out)
                have NZ := hide (HNX.out.later GB.out)
                have HINS := hide (ins_at (by rw [HDL.out]; exact hj) HALL.out (fun _ => by rw [← HX.out, HQ.out]; omega))
                have hnz : nb < wz.heap.size := NZ.out.lt
                have hjm : (j : Int) ≤ (mX : Int) := by omega
                have hj0 : (0 : Int) ≤ (j : Int) := by omega
                have hz4 : w4.heap.size ≤ wz.heap.size := GZ.out.size
                have hcx : mX ≤ cX := NZ.out.ownT.is.2.1
                have hcz : mX ≤ cZ := NZ.out.ownN.is.cap
                have f0 := NZ.out.cell0
                clear GB
                go_wp2_with (at_builtin; refine wpList_apT rfl _ _ rfl wz.heap.size (some ⟨wz.heap.size, 0, none⟩) 0 0 [] (D.drop j) rfl (OwnSV.of (OwnS.lit0 wz wz.heap.size (Nat.le_refl _)) rfl) (fromA sX cX j 5) (mX - j) (cX - j) rfl ((NZ.out.ownT.is.from' j hj).later (Grow.alloc' _ _)) ?hl ?hb ?_)
                case hl => omega
                case hb => simp
                intro sP cP wP hO hgP hlP
                try simp only [Nat.zero_add, List.nil_append] at hO
                have GzP := hide (grow_step (Grow.alloc' wz (.cells #[] 25)) hgP (Nat.le_refl _))
                have OP := hide hO
                have NP := hide (NZ.out.later GzP.out)
                have GP := hide (Grow.trans' GZ.out GzP.out)
                clear hO hgP hlP f0 NZ GZ
                have hnP : nb < wP.heap.size := NP.out.lt
                have hzP : wz.heap.size ≤ wP.heap.size := GzP.out.size
                have f1 := NP.out.cell1
                go_wp2_with (at_builtin; refine wpList_apI rfl _ _ rfl wP.heap.size (some ⟨wP.heap.size, 0, none⟩) 0 0 [] ((D.map s.f).drop j) rfl (OwnIV.lit0 wP wP.heap.size (Nat.le_refl _)) (fromA sZ cZ j 1) (mX - j) (cZ - j) rfl ((NP.out.ownN.is.from' j hj).later (Grow.alloc' _ _)) ?hl ?hb ?_)
                case hl => omega
                case hb => simp
                intro sQ cQ wQ hO hgQ hlQ
                try simp only [Nat.zero_add, List.nil_append] at hO
                have GpQ := hide (grow_step (Grow.alloc' wP (.cells #[] 3)) hgQ (Nat.le_refl _))
                have OQ := hide hO
                have OP2 := hide (OP.out.later GpQ.out)
                have NQ := hide (NP.out.later GpQ.out)
                have GQ := hide (Grow.trans' GP.out GpQ.out)
                have KQ := hide (KX3.out.later GQ.out)
                clear hO hgQ hlQ f1 NP GP OP GzP
                have hnQ : nb < wQ.heap.size := NQ.out.lt
                have hzQ : wP.heap.size ≤ wQ.heap.size := GpQ.out.size
                have HGG : ∀ w1 w2, Grow wQ w1 → Grow w1 w2 → Grow wQ w2 := fun _ _ h q => Grow.trans' h q
                have HBG : ∀ w1 w2, Grow w1 w2 → True → True := fun _ _ _ h => h
                have HG0 : ∀ w', Grow wQ w' → w'.heap = wQ.heap → Grow wQ w' := fun _ h _ => h
                have HB0 : ∀ w', Grow wQ w' → w'.heap = wQ.heap → True := fun _ _ _ => trivial
                have hjc : (j : Int) ≤ (cX : Int) := by omega
                have hjz : (j : Int) ≤ (cZ : Int) := by omega
                go_wp2_with fail
                let FF : Nat → Value → World → Prop := fun i vF wF => match i with | 0 => vF = .pointer (some ⟨nb, 0, none⟩) | 1 => LitT wQ.heap.size vF wF | 2 => vF = .pointer (some ⟨nb, 0, none⟩) | 3 => vF = .pointer (some ⟨nb, 0, none⟩) | 4 => vF = .pointer (some ⟨nb, 0, none⟩) | 5 => vF = .slice sX mX cX | 6 => vF = .int .i64 (j : Int) | 7 => vF = .slice sX j cX | 8 => AppN wQ.heap.size j (D.take j) vF wF | 9 => vF = .agg #[.int .i64 t.e, .int .i64 t.d, .int .i64 t.x, .int .i64 t.y, .int .i64 t.z] | 10 => BoxR t vF wF | 11 => AppN wQ.heap.size (j + 1) (D.take j ++ [t]) vF wF | 12 => vF = .pointer (some ⟨nb, 0, none⟩) | 13 => vF = .pointer (some ⟨nb, 0, none⟩) | _ => True
                let GG : World → Prop := fun w' => Grow wQ w'
                let BB : World → Prop := fun w' => True
                have hstab : ∀ k v w1 w2, Grow w1 w2 → FF k v w1 → FF k v w2 := by
                  intro k v w1 w2 hg h
                  match k with
                  | 0 => exact h
                  | 1 => exact LitT.later hg h
                  | 2 => exact h
                  | 3 => exact h
                  | 4 => exact h
                  | 5 => exact h
                  | 6 => exact h
                  | 7 => exact h
                  | 8 => exact AppN.later hg h
                  | 9 => exact h
                  | 10 => exact BoxR.later hg h
                  | 11 => exact AppN.later hg h
                  | 12 => exact h
                  | 13 => exact h
                  | k + 14 => exact trivial
                have hGg : ∀ w1 w2, GG w1 → Grow w1 w2 → GG w2 := HGG
                have hBg : ∀ w1 w2, Grow w1 w2 → BB w1 → BB w2 := HBG
                refine wp_region_endG FF GG BB (fun i => match i with | 1 => some 8 | 8 => some 11 | 10 => some 11 | _ => none) 999 14 _ rfl rfl rfl (by kernel_rfl) (by kernel_rfl) HG0 HB0 ?_ ?_
                · refine ⟨?_, ?_, ?_, ?_, ?_, ?_, ?_, ?_, ?_, ?_, ?_, ?_, ?_, ?_, trivial⟩
                  · refine stepG_run hGg hBg hstab rfl ?_
                    intro a' w' hg hs hd hb
                    have e11 : a'.eval (.tmp 11) = .pointer (some ⟨nb, 0, none⟩) := hs.rest 11 rfl
                    have ec : ∀ v, a'.eval (.const v) = v := fun _ => rfl
                    have ef : ∀ g, a'.eval (.func g) = .func (.func g) #[] #[] := fun _ => rfl
                    clear hd hs
                    refine wpv (v := .pointer (some ⟨nb, 0, none⟩)) ?_ ⟨_, rfl, Grow.rfl' _, rfl⟩
                    (generalize a'.eval = ev at ec ef e11 ⊢; simp [execOp, go_sem, *])
                  · refine stepG_run hGg hBg hstab rfl ?_
                    intro a' w' hg hs hd hb
                    have ec : ∀ v, a'.eval (.const v) = v := fun _ => rfl
                    have ef : ∀ g, a'.eval (.func g) = .func (.func g) #[] #[] := fun _ => rfl
                    clear hd hs
                    refine wpv (v := .slice (some ⟨w'.heap.size, 0, none⟩) 0 0) (w' := w'.alloc (.cells #[] 25)) ?_ ⟨_, rfl, Grow.alloc' _ _, litT_new _ _ hg.size⟩
                    (generalize a'.eval = ev at ec ef ⊢; simp [execOp, go_sem, *])
                  · refine stepG_run hGg hBg hstab rfl ?_
                    intro a' w' hg hs hd hb
                    have e11 : a'.eval (.tmp 11) = .pointer (some ⟨nb, 0, none⟩) := hs.rest 11 rfl
                    have ec : ∀ v, a'.eval (.const v) = v := fun _ => rfl
                    have ef : ∀ g, a'.eval (.func g) = .func (.func g) #[] #[] := fun _ => rfl
                    clear hd hs
                    refine wpv (v := .pointer (some ⟨nb, 0, none⟩)) ?_ ⟨_, rfl, Grow.rfl' _, rfl⟩
                    (generalize a'.eval = ev at ec ef e11 ⊢; simp [execOp, go_sem, *])
                  · refine stepG_run hGg hBg hstab rfl ?_
                    intro a' w' hg hs hd hb
                    have e128 : a'.eval (.tmp 128) = .pointer (some ⟨nb, 0, none⟩) := hd ⟨2, Ground.data⟩ (by simp) rfl rfl
                    have ec : ∀ v, a'.eval (.const v) = v := fun _ => rfl
                    have ef : ∀ g, a'.eval (.func g) = .func (.func g) #[] #[] := fun _ => rfl
                    clear hd hs
                    refine wpv (v := .pointer (some ⟨nb, 0, none⟩)) ?_ ⟨_, rfl, Grow.rfl' _, rfl⟩
                    (generalize a'.eval = ev at ec ef e128 ⊢; simp [execOp, go_sem, *])
                  · refine stepG_run hGg hBg hstab rfl ?_
                    intro a' w' hg hs hd hb
                    have e129 : a'.eval (.tmp 129) = .pointer (some ⟨nb, 0, none⟩) := hd ⟨3, Ground.data⟩ (by simp) rfl rfl
                    have ec : ∀ v, a'.eval (.const v) = v := fun _ => rfl
                    have ef : ∀ g, a'.eval (.func g) = .func (.func g) #[] #[] := fun _ => rfl
                    clear hd hs
                    refine wpv (v := .pointer (some ⟨nb, 0, none⟩)) ?_ ⟨_, rfl, Grow.rfl' _, rfl⟩
                    (generalize a'.eval = ev at ec ef e129 ⊢; simp [execOp, go_sem, *])
                  · refine stepG_run hGg hBg hstab rfl ?_
                    intro a' w' hg hs hd hb
                    have e130 : a'.eval (.tmp 130) = .pointer (some ⟨nb, 0, none⟩) := hd ⟨4, Ground.data⟩ (by simp) rfl rfl
                    have ec : ∀ v, a'.eval (.const v) = v := fun _ => rfl
                    have ef : ∀ g, a'.eval (.func g) = .func (.func g) #[] #[] := fun _ => rfl
                    have hq := cell_later hg NQ.out.cell0
                    clear hd hs
                    refine wpv (v := .slice sX mX cX) ?_ ⟨_, rfl, Grow.rfl' _, rfl⟩
                    (generalize a'.eval = ev at ec ef e130 ⊢; simp [execOp, go_sem, *])
                  · refine stepG_run hGg hBg hstab rfl ?_
                    intro a' w' hg hs hd hb
                    have e13 : a'.eval (.tmp 13) = .int .i64 (j : Int) := hs.rest 13 rfl
                    have ec : ∀ v, a'.eval (.const v) = v := fun _ => rfl
                    have ef : ∀ g, a'.eval (.func g) = .func (.func g) #[] #[] := fun _ => rfl
                    clear hd hs
                    refine wpv (v := .int .i64 (j : Int)) ?_ ⟨_, rfl, Grow.rfl' _, rfl⟩
                    (generalize a'.eval = ev at ec ef e13 ⊢; simp [execOp, go_sem, *])
                  · refine stepG_run hGg hBg hstab rfl ?_
                    intro a' w' hg hs hd hb
                    have e131 : a'.eval (.tmp 131) = .slice sX mX cX := hd ⟨5, Ground.data⟩ (by simp) rfl rfl
                    have e132 : a'.eval (.tmp 132) = .int .i64 (j : Int) := hd ⟨6, Ground.data⟩ (by simp) rfl rfl
                    have ec : ∀ v, a'.eval (.const v) = v := fun _ => rfl
                    have ef : ∀ g, a'.eval (.func g) = .func (.func g) #[] #[] := fun _ => rfl
                    clear hd hs
                    refine wpv (v := .slice sX j cX) ?_ ⟨_, rfl, Grow.rfl' _, rfl⟩
                    (generalize a'.eval = ev at ec ef e131 e132 ⊢; simp [execOp, go_sem, *])
                  · refine stepG_run hGg hBg hstab rfl ?_
                    intro a' w' hg hs hd hb
                    obtain ⟨g127, e127, o127⟩ : LitT wQ.heap.size (a'.eval (.tmp 127)) w' := hd ⟨1, Ground.data⟩ (by simp) rfl rfl
                    have e133 : a'.eval (.tmp 133) = .slice sX j cX := hd ⟨7, Ground.data⟩ (by simp) rfl rfl
                    have ec : ∀ v, a'.eval (.const v) = v := fun _ => rfl
                    have ef : ∀ g, a'.eval (.func g) = .func (.func g) #[] #[] := fun _ => rfl
                    clear hd hs
                    obtain ⟨s2, c2, w2, hrun, hown, hgb⟩ := run_ap0_tm w' 30 wQ.heap.size g127 (D.take j) o127 sX j cX ((NQ.out.ownT.is.take' j hj).later hg) (by omega) hg.size
                    refine wpv (v := .slice s2 _ c2) (w' := w2) ?_ ⟨_, rfl, hgb, ⟨s2, c2, rfl, hown, trivial⟩⟩
                    unfold execOp; simp only [resolve, invoke, builtin, Sem.run_bind, Sem.run_pure, Result.andThen_ok, List.map_toArray, List.map_cons, List.map_nil, e127, e133, hrun]
                  · refine stepG_run hGg hBg hstab rfl ?_
                    intro a' w' hg hs hd hb
                    have e4 : a'.eval (.tmp 4) = .pointer (some ⟨w.heap.size, 0, none⟩) := hs.rest 4 rfl
                    have ec : ∀ v, a'.eval (.const v) = v := fun _ => rfl
                    have ef : ∀ g, a'.eval (.func g) = .func (.func g) #[] #[] := fun _ => rfl
                    obtain ⟨x0, x1, x2, x3, x4⟩ := KQ.out.later hg
                    clear hd hs
                    refine wpv (v := .agg #[.int .i64 t.e, .int .i64 t.d, .int .i64 t.x, .int .i64 t.y, .int .i64 t.z]) ?_ ⟨_, rfl, Grow.rfl' _, rfl⟩
                    (generalize a'.eval = ev at ec ef e4 ⊢; simp [execOp, go_sem, *])
                  · refine stepG_run hGg hBg hstab rfl ?_
                    intro a' w' hg hs hd hb
                    have e135 : a'.eval (.tmp 135) = .agg #[.int .i64 t.e, .int .i64 t.d, .int .i64 t.x, .int .i64 t.y, .int .i64 t.z] := hd ⟨9, Ground.data⟩ (by simp) rfl rfl
                    have ec : ∀ v, a'.eval (.const v) = v := fun _ => rfl
                    have ef : ∀ g, a'.eval (.func g) = .func (.func g) #[] #[] := fun _ => rfl
                    clear hd hs
                    refine wpv (v := .slice (some ⟨w'.heap.size, 0, none⟩) 1 1) (w' := w'.alloc (.cells #[.int .i64 t.e, .int .i64 t.d, .int .i64 t.x, .int .i64 t.y, .int .i64 t.z] 25)) ?_ ⟨_, rfl, Grow.alloc' _ _, boxR_one _ _⟩
                    (generalize a'.eval = ev at ec ef e135 ⊢; simp [execOp, go_sem, *])
                  · refine stepG_take rfl ?_
                    intro a' w' hg hs hd hb
                    obtain ⟨s134, c134, e134, o134, l134⟩ : AppN wQ.heap.size j (D.take j) (a'.eval (.tmp 134)) w' := hd ⟨8, Ground.data⟩ (by simp) rfl rfl
                    obtain ⟨b136, e136, r136⟩ : BoxR t (a'.eval (.tmp 136)) w' := hd ⟨10, Ground.data⟩ (by simp) rfl rfl
                    have ec : ∀ v, a'.eval (.const v) = v := fun _ => rfl
                    have ef : ∀ g, a'.eval (.func g) = .func (.func g) #[] #[] := fun _ => rfl
                    clear hd hs
                    obtain ⟨s2, c2, w2, hrun, hown, hgr, hlie⟩ := run_aptN hg 30 s134 j c134 (D.take j) [t] o134 (some ⟨b136, 0, none⟩) 1 1 (boxR_is r136) (by omega)
                    refine wpv (v := .slice s2 _ c2) (w' := w2) ?_ ⟨_, rfl, hgr, ⟨s2, c2, rfl, hown, hlie⟩, ?_, fun _ _ => trivial⟩
                    rotate_left
                    · intro j u hj h
                      match j with
                      | 0 => exact h
                      | 1 => cases hj
                      | 2 => exact h
                      | 3 => exact h
                      | 4 => exact h
                      | 5 => exact h
                      | 6 => exact h
                      | 7 => exact h
                      | 8 => cases hj
                      | 9 => exact h
                      | 10 => cases hj
                      | 11 => cases hj
                      | 12 => exact h
                      | 13 => exact h
                      | j + 14 => exact trivial
                    · unfold execOp; simp only [resolve, invoke, builtin, Sem.run_bind, Sem.run_pure, Result.andThen_ok, List.map_toArray, List.map_cons, List.map_nil, e134, e136, hrun]
                  · refine stepG_run hGg hBg hstab rfl ?_
                    intro a' w' hg hs hd hb
                    have e126 : a'.eval (.tmp 126) = .pointer (some ⟨nb, 0, none⟩) := hd ⟨0, Ground.data⟩ (by simp) rfl rfl
                    have ec : ∀ v, a'.eval (.const v) = v := fun _ => rfl
                    have ef : ∀ g, a'.eval (.func g) = .func (.func g) #[] #[] := fun _ => rfl
                    clear hd hs
                    refine wpv (v := .pointer (some ⟨nb, 0, none⟩)) ?_ ⟨_, rfl, Grow.rfl' _, rfl⟩
                    (generalize a'.eval = ev at ec ef e126 ⊢; simp [execOp, go_sem, *])
                  · refine stepG_run hGg hBg hstab rfl ?_
                    intro a' w' hg hs hd hb
                    have e138 : a'.eval (.tmp 138) = .pointer (some ⟨nb, 0, none⟩) := hd ⟨12, Ground.data⟩ (by simp) rfl rfl
                    have ec : ∀ v, a'.eval (.const v) = v := fun _ => rfl
                    have ef : ∀ g, a'.eval (.func g) = .func (.func g) #[] #[] := fun _ => rfl
                    clear hd hs
                    refine wpv (v := .pointer (some ⟨nb, 0, none⟩)) ?_ ⟨_, rfl, Grow.rfl' _, rfl⟩
                    (generalize a'.eval = ev at ec ef e138 ⊢; simp [execOp, go_sem, *])
                · intro a' w' hg hs hd
                  have e139 : a'.eval (.tmp 139) = .pointer (some ⟨nb, 0, none⟩) := hd 13 (by omega) rfl
                  obtain ⟨s137, c137, e137, o137, l137⟩ : AppN wQ.heap.size (j + 1) (D.take j ++ [t]) (a'.eval (.tmp 137)) w' := hd 11 (by omega) rfl
                  have ec : ∀ v, a'.eval (.const v) = v := fun _ => rfl
                  have ef : ∀ g, a'.eval (.func g) = .func (.func g) #[] #[] := fun _ => rfl
                  have hq0 := cell_later hg NQ.out.cell0
                  have hf0 : w'.frozen? ⟨nb, 0, none⟩ = false := by rw [hg.frozen (p := ⟨nb, 0, none⟩) hnQ]; exact NQ.out.free0
                  refine wps (w' := w'.setCell ⟨nb, 0, none⟩ (.slice s137 (j + 1) c137)) ?_ ?_
                  · (generalize a'.eval = ev at ec ef e139 e137 ⊢; simp [execOp, go_sem, *])
                  have N2 := hide (NQ.out.setT ((grown_of hg).but _) (o137.rebase (by omega)) (fun a ha => .inr (ownSV_le o137 a ha).2))
                  have G2 := hide (grow_turn (row := none) (p := ⟨nb, 0, none⟩) (u := .slice s137 (j + 1) c137) GQ.out (grown_of hg) (fun q hq => by cases hq) hn4)
                  have OP3 := hide (ownSV_keep (w2 := w'.setCell ⟨nb, 0, none⟩ (.slice s137 (j + 1) c137)) (OP2.out.later hg) fun a ha => setCell_block _ _ _ _ (by have := (ownSV_le OP2.out a ha).2; show a.block ≠ nb; omega))
                  have OQ3 := hide ((OQ.out.later hg).keep (w' := w'.setCell ⟨nb, 0, none⟩ (.slice s137 (j + 1) c137)) fun a ha => setCell_block _ _ _ _ (by have := (OQ.out.lt a ha).2; show a.block ≠ nb; omega))
                  have hsT : ∀ a, s137 = some a → wQ.heap.size ≤ a.block := fun a ha => (ownSV_le o137 a ha).2
                  have hsQ : ∀ a, sQ = some a → a.block < wQ.heap.size := fun a ha => (OQ.out.lt a ha).1
                  have hsP : ∀ a, sP = some a → a.block < wQ.heap.size := fun a ha => (ownSV_le OP2.out a ha).1
                  have hsQ1 : ∀ a, sQ = some a → nb + 1 ≤ a.block := fun a ha => by have := (OQ.out.lt a ha).2; omega
                  have hsP1 : ∀ a, sP = some a → nb + 1 ≤ a.block := fun a ha => by have := (ownSV_le OP2.out a ha).2; omega
                  clear hq0 hf0 e137 o137 l137 e139 ec ef hg HGG HBG HG0 HB0 hGg hBg hstab GQ NQ OP2 OQ KQ GpQ
                  rw [frame_eq hs [false, false, false, false, false, false, false, false, false, false, false, false, false, false, false, false, false, false, false, false, false, false, false, false, false, false, false, false, false, false, false, false, false, false, false, false, false, false, false, false, false, false, false, false, false, false, false, false, false, false, false, false, false, false, false, false, false, false, false, false, false, false, false, false, false, false, false, false, false, false, false, false, false, false, false, false, false, false, false, false, false, false, false, false, false, false, false, false, false, false, false, false, false, false, false, false, false, false, false, false, false, false, false, false, false, false, false, false, false, false, false, false, false, false, false, false, false, false, false, false, false, false, false, false, false, false, true, true, true, true, true, true, true, true, true, true, true, true, true, true, false, false, false, false, false, false, false, false, false, false, false, false, false, false, false, false, false, false, false, false, false, false, false, false, false, false, false, false, false, false, false, false, false, false, false, false, false, false, false, false, false, false, false, false, false, false, false, false, false, false, false, false, false, false, false, false, false, false, false, false, false, false] (by kernel_rfl)]; simp only [mergeL]; clear hs hd; generalize a'.tmps = TT at *; try go_frame
                  generalize w'.setCell ⟨nb, 0, none⟩ (.slice s137 (j + 1) c137) = wA at *
                  have hnA : nb < wA.heap.size := N2.out.lt
                  have f1 := N2.out.cell1
                  go_wp2_with (at_builtin; refine wpList_apI rfl _ _ rfl wA.heap.size (some ⟨wA.heap.size, 0, none⟩) 0 0 [] ((D.map s.f).take j) rfl (OwnIV.lit0 wA wA.heap.size (Nat.le_refl _)) sZ j cZ rfl ((N2.out.ownN.is.take' j hj).later (Grow.alloc' _ _)) ?hl ?hb ?_)
                  case hl => omega
                  case hb => simp
                  intro sB cB wB hO hgB hlB
                  try simp only [Nat.zero_add, List.nil_append] at hO
                  have GaB := hide (grow_step (Grow.alloc' wA (.cells #[] 3)) hgB (Nat.le_refl _))
                  have OB := hide hO
                  have hzB : wA.heap.size ≤ wB.heap.size := GaB.out.size
                  have hbx : Hid (IsIns (wB.alloc (.cells #[.int .i64 u] 3)) (some ⟨wB.heap.size, 0, none⟩) 1 1 [u]) := hide (by obtain ⟨b9, e9, h9⟩ := boxJ_one wB u; injection e9 with e9 _ _; rw [e9]; exact h9)
                  clear hO hgB hlB f1
                  go_wp2_with (at_builtin; refine wpList_apI rfl _ _ rfl wA.heap.size sB j cB ((D.map s.f).take j) [u] rfl (OB.out.later (Grow.alloc' _ _)) (some ⟨wB.heap.size, 0, none⟩) 1 1 rfl hbx.out ?hl ?hb ?_)
                  case hl => omega
                  case hb => simp; omega
                  intro sC cC wC hO hgC hlC
                  have GaC := hide (Below.grown (Grow.trans' GaB.out (Grow.alloc' wB (.cells #[.int .i64 u] 3))) hgC (Grow.trans' GaB.out (Grow.alloc' wB (.cells #[.int .i64 u] 3))).size (fun q hq => rowI_ge OB.out q hq))
                  have N3 := hide (N2.out.setN ((grown_of GaC.out).but _) (hO.rebase (by omega)) (fun a ha => .inr (hO.lt a ha).2))
                  have G3' := hide (grow_turn (row := none) (p := ⟨nb, 1, none⟩) (u := .slice sC (j + 1) cC) (Grow.trans' G2.out GaC.out) (World.grownBy.refl _ _) (fun q hq => by cases hq) hn4)
                  have OP4 := hide (ownSV_keep (w2 := wC.setCell ⟨nb, 1, none⟩ (.slice sC (j + 1) cC)) (OP3.out.later GaC.out) fun a ha => setCell_block _ _ _ _ (by have := hsP1 a ha; show a.block ≠ nb; omega))
                  have OQ4 := hide ((OQ3.out.later GaC.out).keep (w' := wC.setCell ⟨nb, 1, none⟩ (.slice sC (j + 1) cC)) fun a ha => setCell_block _ _ _ _ (by have := hsQ1 a ha; show a.block ≠ nb; omega))
                  have f1 := cell_later GaC.out N2.out.cell1
                  have z1 : wC.frozen? ⟨nb, 1, none⟩ = false := by rw [GaC.out.frozen (p := ⟨nb, 1, none⟩) hnA]; exact N2.out.free1
                  clear hO hgC hlC GaB OB hbx
                  go_upto_region 22 with fail
                  clear f1 z1
                  generalize wC.setCell ⟨nb, 1, none⟩ (.slice sC (j + 1) cC) = wD at *
                  have hnD : nb < wD.heap.size := N3.out.lt
                  have f0 := N3.out.cell0
                  go_wp2_with (at_builtin; refine wpList_apT rfl _ _ rfl (nb + 1) s137 (j + 1) c137 (D.take j ++ [t]) (D.drop j) rfl N3.out.ownT sP (mX - j) cP rfl OP4.out.is ?hl ?hb ?_)
                  case hl => omega
                  case hb => omega
                  intro sE cE wE hO hgE hlE
                  have hrE := row_ge N3.out.ownT
                  have N4 := hide (N3.out.setT hgE hO (fun a ha => by have := hlE a ha; simpa using this))
                  have G4' := hide (grow_turn (p := ⟨nb, 0, none⟩) (u := .slice sE (j + 1 + (mX - j)) cE) G3'.out hgE (fun q hq => by have := hrE q hq; omega) hn4)
                  have OQ5 := hide (OQ4.out.keep (w' := wE.setCell ⟨nb, 0, none⟩ (.slice sE (j + 1 + (mX - j)) cE)) fun a ha => (setCell_block _ _ _ _ (by have := hsQ1 a ha; show a.block ≠ nb; omega)).trans (hgE.block _ (OQ4.out.lt a ha).1 (fun e => by
                    cases hs' : s137 with
                    | none => rw [hs'] at e; cases e
                    | some a' =>
                      have h1 := hsT a' hs'
                      have h2 := hsQ a ha
                      rw [hs'] at e
                      simp at e
                      omega)))
                  have f0' := cell_row hgE N3.out.cell0 hrE (show nb < nb + 1 by omega)
                  have z0 : wE.frozen? ⟨nb, 0, none⟩ = false := by rw [World.frozen?_of_block (w := wD) (hgE.block nb hnD (fun e => by have := hrE _ e.symm; omega))]; exact N3.out.free0
                  clear hO hgE hlE f0 OP4 OQ4
                  go_upto_region 23 with fail
                  clear f0' z0
                  generalize wE.setCell ⟨nb, 0, none⟩ (.slice sE (j + 1 + (mX - j)) cE) = wF at *
                  have hnF : nb < wF.heap.size := N4.out.lt
                  have f1 := N4.out.cell1
                  go_wp2_with (at_builtin; refine wpList_apI rfl _ _ rfl (nb + 1) sC (j + 1) cC ((D.map s.f).take j ++ [u]) ((D.map s.f).drop j) rfl N4.out.ownN sQ (mX - j) cQ rfl OQ5.out.is ?hl ?hb ?_)
                  case hl => omega
                  case hb => omega
                  intro sH cH wH hO hgH hlH
                  have hrH := rowI_ge N4.out.ownN
                  have N5 := hide (N4.out.setN hgH hO (fun a ha => by have := hlH a ha; simpa using this))
                  have G5' := hide (grow_turn (p := ⟨nb, 1, none⟩) (u := .slice sH (j + 1 + (mX - j)) cH) G4'.out hgH (fun q hq => by have := hrH q hq; omega) hn4)
                  have f1' := cell_row hgH N4.out.cell1 hrH (show nb < nb + 1 by omega)
                  have z1 : wH.frozen? ⟨nb, 1, none⟩ = false := by rw [World.frozen?_of_block (w := wF) (hgH.block nb hnF (fun e => by have := hrH _ e.symm; omega))]; exact N4.out.free1
                  clear hO hgH hlH f1 OQ5
                  go_upto_region 24 with fail
                  clear f1' z1
                  generalize wH.setCell ⟨nb, 1, none⟩ (.slice sH (j + 1 + (mX - j)) cH) = wI at *
                  obtain ⟨M, hM⟩ : ∃ M, j + 1 + (mX - j) = M := ⟨_, rfl⟩
                  rw [hM] at N5 ⊢
                  have hNF : NextR wI nb sE M cE (nextT s.T t u) sH M cH ((nextT s.T t u).map (putF s.f t u)) := by
                    have e1 : nextT s.T t u = D.take j ++ [t] ++ D.drop j := by unfold nextT; rw [if_neg hu0, ← HDD.out, HINS.out]
                    have e2 : (D.take j ++ [t] ++ D.drop j).map (putF s.f t u) = (D.map s.f).take j ++ [u] ++ (D.map s.f).drop j := by
                      rw [List.map_append, List.map_append, List.map_cons, List.map_nil, putF_same, List.map_take, List.map_drop, HDD.out, map_put_drop]
                    rw [e1, e2]; have := N5.out; simpa using this
                  have NF := hide hNF
                  have GF := hide G5'.out
                  clear hNF N5 G5' N4 G4' N3 G3' hM
                  by_cases hb4 : M ≤ 400
                  · have hTl : (nextT s.T t u).length = M := NF.out.ownT.1
                    have he : s.err t n = 0 := Cs.err_of HM.out HF.out (by rw [← HC.out, ← HU.out]; exact HS.out) (by rw [← HC.out, ← HU.out]; omega)
                    have ha : s.add t n = s.next t u := by unfold Cs.add; rw [if_pos he, ← HC.out, ← HU.out]
                    have HE := hide he
                    have HA := hide ha
                    have HSO2 := hide (Cs.next_ok (t := t) (n := u) HOK.out HM.out HS.out (by omega))
                    have hb5 : ¬ (400 : Int) < (M : Int) := by omega
                    have f0 := NF.out.cell0
                    clear he ha hTl ER
                    go_wp2_with fail
                    refine (rfront_any y s sT sN cT cN wI HOK.out (HR3.out.later GF.out)).mono ?_
                    rintro e w6 ⟨v, rfl, hb, sW, nW, cW, rfl, hI⟩
                    have NF6 := hide (NF.out.later hb)
                    have RY6 := hide ((HR3.out.later GF.out).later hb)
                    have W6 := hide hI
                    have G6 := hide (Grow.trans' (Grow.trans' G3.out GF.out) hb)
                    have hnW : nW ≤ 400 := by have h1 := hI.1; have h2 := Cs.front_len HOK.out; omega
                    obtain ⟨hP1, hP2⟩ := RepY.put (s2 := s.next t u) RY6.out NF6.out hynb rfl
                    have P1 := hide hP1
                    have P2 := hide hP2
                    have W8 := hide (W6.out.turnY RY6.out hP2)
                    clear f0 hb hI hP1 hP2
                    have f0 := NF6.out.cell0
                    have f1 := NF6.out.cell1
                    have g0 := RY6.out.cell0
                    have g1 := RY6.out.cell1
                    have z0 := RY6.out.free0
                    have z1 := RY6.out.free1
                    have hyn : ¬ nb = y := by omega
                    have hyn' : ¬ y = nb := by omega
                    go_wp2_with fail
                    generalize (w6.setCell ⟨y, 0, none⟩ (.slice sE M cE)).setCell ⟨y, 1, none⟩ (.slice sH M cH) = w8 at *
                    refine (rfront_any y (s.next t u) sE sH cE cH w8 HSO2.out P1.out).mono ?_
                    rintro e w9 ⟨v, rfl, hb, sV, nV, cV, rfl, hI⟩
                    have P9 := hide (P1.out.later hb)
                    have G9 := hide (grown_post (grown_pre G6.out P2.out) hb)
                    have W9 := hide (W8.out.later hb)
                    have V9 := hide hI
                    have hnV : nV ≤ 400 := by have h1 := hI.1; have h2 := Cs.front_len HSO2.out; omega
                    clear hb hI f0 f1 g0 g1 z0 z1 hyn hyn' P1 P2 W8 W6 NF6 RY6 G6
                    go_wp2_with fail
                    refine (rwithout_any sW nW cW s.front sV nV cV (s.next t u).front w9 (by omega) (by omega) W9.out V9.out).mono ?_
                    rintro e w10 ⟨v, rfl, hb, s3, n3, c3, rfl, hI⟩
                    have P10 := hide (P9.out.later hb)
                    have G10 := hide (grown_post G9.out hb)
                    have W10 := hide (W9.out.later hb)
                    have V10 := hide (V9.out.later hb)
                    have J10 := hide hI
                    clear hb hI P9 G9 W9 V9
                    go_wp2_with fail
                    refine (rwithout_any sV nV cV (s.next t u).front sW nW cW s.front w10 (by omega) (by omega) V10.out W10.out).mono ?_
                    rintro e w11 ⟨v, rfl, hb, s4, n4, c4, rfl, hI⟩
                    have P11 := hide (P10.out.later hb)
                    have G11 := hide (grown_post G10.out hb)
                    have J11 := hide (J10.out.later hb)
                    have K11 := hide hI
                    clear hb hI P10 G10 W10 V10 J10
                    go_wp2_with fail
                    go_ret3
                    refine ⟨s3, n3, c3, s4, n4, c4, sE, cE, sH, cH, by rw [HE.out]; rfl, G11.out, ?_, ?_, ?_⟩
                    · rw [HA.out]; exact P11.out
                    · unfold Cs.gone; rw [HA.out]; exact J11.out
                    · unfold Cs.come; rw [HA.out]; exact K11.out
                  · have hTl : (nextT s.T t u).length = M := NF.out.ownT.1
                    have he : s.err t n = 3 := by
                      unfold Cs.err
                      have : ¬ (nextT s.T t (s.f t + n)).length ≤ 400 := by rw [← HC.out, ← HU.out]; omega
                      rw [HM.out, HF.out, if_neg this, ← HC.out, ← HU.out, HS.out]; rfl
                    have HE := hide he
                    have hb5 : (400 : Int) < (M : Int) := by omega
                    have f0 := NF.out.cell0
                    clear he hTl
                    go_wp2_with fail
                    go_ret3
                    exact ER.out _ 3 HE.out (by decide) (Grow.trans' G3.out GF.out)
                -- ENDINS1
            · have hj2 : ¬ (j : Int) < (mX : Int) := by omega
              have hj3 : decide ((j : Int) < (mX : Int)) = false := by simpa using hjl
              have sf0 := cell_regrown f0
              go_wp2_with fail
              refine wp_region_quiet_below (by kernel_rfl) (by kernel_rfl) ?_
              repeat (go_big_quiet_step (fail))
              refine wpQuiet_nil ?_
              intro _ hw'
              obtain ⟨⟨dq, osq⟩, hw''⟩ := hw'
              subst hw''
              have GB := hide (Grow.trans' HG7.out (below_regrown wr dq osq))
              clear sf0 f0
              generalize grow (redrawn wr dq) osq = wz at *
              -- INS2
              have GZ := hide (Grow.trans' HG.out GB.out)
              have NZ := hide (HNX.out.later GB.out)
              have HINS := hide (ins_at (by rw [HDL.out]; exact hj) HALL.out (fun h => by rw [HDL.out] at h; omega))
              have hnz : nb < wz.heap.size := NZ.out.lt
              have hjm : (j : Int) ≤ (mX : Int) := by omega
              have hj0 : (0 : Int) ≤ (j : Int) := by omega
              have hz4 : w4.heap.size ≤ wz.heap.size := GZ.out.size
              have hcx : mX ≤ cX := NZ.out.ownT.is.2.1
              have hcz : mX ≤ cZ := NZ.out.ownN.is.cap
              have f0 := NZ.out.cell0
              clear GB
              go_wp2_with (at_builtin; refine wpList_apT rfl _ _ rfl wz.heap.size (some ⟨wz.heap.size, 0, none⟩) 0 0 [] (D.drop j) rfl (OwnSV.of (OwnS.lit0 wz wz.heap.size (Nat.le_refl _)) rfl) (fromA sX cX j 5) (mX - j) (cX - j) rfl ((NZ.out.ownT.is.from' j hj).later (Grow.alloc' _ _)) ?hl ?hb ?_)
              case hl => omega
              case hb => simp
              intro sP cP wP hO hgP hlP
              try simp only [Nat.zero_add, List.nil_append] at hO
              have GzP := hide (grow_step (Grow.alloc' wz (.cells #[] 25)) hgP (Nat.le_refl _))
              have OP := hide hO
              have NP := hide (NZ.out.later GzP.out)
              have GP := hide (Grow.trans' GZ.out GzP.out)
              clear hO hgP hlP f0 NZ GZ
              have hnP : nb < wP.heap.size := NP.out.lt
              have hzP : wz.heap.size ≤ wP.heap.size := GzP.out.size
              have f1 := NP.out.cell1
              go_wp2_with (at_builtin; refine wpList_apI rfl _ _ rfl wP.heap.size (some ⟨wP.heap.size, 0, none⟩) 0 0 [] ((D.map s.f).drop j) rfl (OwnIV.lit0 wP wP.heap.size (Nat.le_refl _)) (fromA sZ cZ j 1) (mX - j) (cZ - j) rfl ((NP.out.ownN.is.from' j hj).later (Grow.alloc' _ _)) ?hl ?hb ?_)
              case hl => omega
              case hb => simp
              intro sQ cQ wQ hO hgQ hlQ
              try simp only [Nat.zero_add, List.nil_append] at hO
              have GpQ := hide (grow_step (Grow.alloc' wP (.cells #[] 3)) hgQ (Nat.le_refl _))
              have OQ := hide hO
              have OP2 := hide (OP.out.later GpQ.out)
              have NQ := hide (NP.out.later GpQ.out)
              have GQ := hide (Grow.trans' GP.out GpQ.out)
              have KQ := hide (KX3.out.later GQ.out)
              clear hO hgQ hlQ f1 NP GP OP GzP
              have hnQ : nb < wQ.heap.size := NQ.out.lt
              have hzQ : wP.heap.size ≤ wQ.heap.size := GpQ.out.size
              have HGG : ∀ w1 w2, Grow wQ w1 → Grow w1 w2 → Grow wQ w2 := fun _ _ h q => Grow.trans' h q
              have HBG : ∀ w1 w2, Grow w1 w2 → True → True := fun _ _ _ h => h
              have HG0 : ∀ w', Grow wQ w' → w'.heap = wQ.heap → Grow wQ w' := fun _ h _ => h
              have HB0 : ∀ w', Grow wQ w' → w'.heap = wQ.heap → True := fun _ _ _ => trivial
              have hjc : (j : Int) ≤ (cX : Int) := by omega
              have hjz : (j : Int) ≤ (cZ : Int) := by omega
              go_wp2_with fail
              let FF : Nat → Value → World → Prop := fun i vF wF => match i with | 0 => vF = .pointer (some ⟨nb, 0, none⟩) | 1 => LitT wQ.heap.size vF wF | 2 => vF = .pointer (some ⟨nb, 0, none⟩) | 3 => vF = .pointer (some ⟨nb, 0, none⟩) | 4 => vF = .pointer (some ⟨nb, 0, none⟩) | 5 => vF = .slice sX mX cX | 6 => vF = .int .i64 (j : Int) | 7 => vF = .slice sX j cX | 8 => AppN wQ.heap.size j (D.take j) vF wF | 9 => vF = .agg #[.int .i64 t.e, .int .i64 t.d, .int .i64 t.x, .int .i64 t.y, .int .i64 t.z] | 10 => BoxR t vF wF | 11 => AppN wQ.heap.size (j + 1) (D.take j ++ [t]) vF wF | 12 => vF = .pointer (some ⟨nb, 0, none⟩) | 13 => vF = .pointer (some ⟨nb, 0, none⟩) | _ => True
              let GG : World → Prop := fun w' => Grow wQ w'
              let BB : World → Prop := fun w' => True
              have hstab : ∀ k v w1 w2, Grow w1 w2 → FF k v w1 → FF k v w2 := by
                intro k v w1 w2 hg h
                match k with
                | 0 => exact h
                | 1 => exact LitT.later hg h
                | 2 => exact h
                | 3 => exact h
                | 4 => exact h
                | 5 => exact h
                | 6 => exact h
                | 7 => exact h
                | 8 => exact AppN.later hg h
                | 9 => exact h
                | 10 => exact BoxR.later hg h
                | 11 => exact AppN.later hg h
                | 12 => exact h
                | 13 => exact h
                | k + 14 => exact trivial
              have hGg : ∀ w1 w2, GG w1 → Grow w1 w2 → GG w2 := HGG
              have hBg : ∀ w1 w2, Grow w1 w2 → BB w1 → BB w2 := HBG
              refine wp_region_endG FF GG BB (fun i => match i with | 1 => some 8 | 8 => some 11 | 10 => some 11 | _ => none) 999 14 _ rfl rfl rfl (by kernel_rfl) (by kernel_rfl) HG0 HB0 ?_ ?_
              · refine ⟨?_, ?_, ?_, ?_, ?_, ?_, ?_, ?_, ?_, ?_, ?_, ?_, ?_, ?_, trivial⟩
                · refine stepG_run hGg hBg hstab rfl ?_
                  intro a' w' hg hs hd hb
                  have e11 : a'.eval (.tmp 11) = .pointer (some ⟨nb, 0, none⟩) := hs.rest 11 rfl
                  have ec : ∀ v, a'.eval (.const v) = v := fun _ => rfl
                  have ef : ∀ g, a'.eval (.func g) = .func (.func g) #[] #[] := fun _ => rfl
                  clear hd hs
                  refine wpv (v := .pointer (some ⟨nb, 0, none⟩)) ?_ ⟨_, rfl, Grow.rfl' _, rfl⟩
                  (generalize a'.eval = ev at ec ef e11 ⊢; simp [execOp, go_sem, *])
                · refine stepG_run hGg hBg hstab rfl ?_
                  intro a' w' hg hs hd hb
                  have ec : ∀ v, a'.eval (.const v) = v := fun _ => rfl
                  have ef : ∀ g, a'.eval (.func g) = .func (.func g) #[] #[] := fun _ => rfl
                  clear hd hs
                  refine wpv (v := .slice (some ⟨w'.heap.size, 0, none⟩) 0 0) (w' := w'.alloc (.cells #[] 25)) ?_ ⟨_, rfl, Grow.alloc' _ _, litT_new _ _ hg.size⟩
                  (generalize a'.eval = ev at ec ef ⊢; simp [execOp, go_sem, *])
                · refine stepG_run hGg hBg hstab rfl ?_
                  intro a' w' hg hs hd hb
                  have e11 : a'.eval (.tmp 11) = .pointer (some ⟨nb, 0, none⟩) := hs.rest 11 rfl
                  have ec : ∀ v, a'.eval (.const v) = v := fun _ => rfl
                  have ef : ∀ g, a'.eval (.func g) = .func (.func g) #[] #[] := fun _ => rfl
                  clear hd hs
                  refine wpv (v := .pointer (some ⟨nb, 0, none⟩)) ?_ ⟨_, rfl, Grow.rfl' _, rfl⟩
                  (generalize a'.eval = ev at ec ef e11 ⊢; simp [execOp, go_sem, *])
                · refine stepG_run hGg hBg hstab rfl ?_
                  intro a' w' hg hs hd hb
                  have e128 : a'.eval (.tmp 128) = .pointer (some ⟨nb, 0, none⟩) := hd ⟨2, Ground.data⟩ (by simp) rfl rfl
                  have ec : ∀ v, a'.eval (.const v) = v := fun _ => rfl
                  have ef : ∀ g, a'.eval (.func g) = .func (.func g) #[] #[] := fun _ => rfl
                  clear hd hs
                  refine wpv (v := .pointer (some ⟨nb, 0, none⟩)) ?_ ⟨_, rfl, Grow.rfl' _, rfl⟩
                  (generalize a'.eval = ev at ec ef e128 ⊢; simp [execOp, go_sem, *])
                · refine stepG_run hGg hBg hstab rfl ?_
                  intro a' w' hg hs hd hb
                  have e129 : a'.eval (.tmp 129) = .pointer (some ⟨nb, 0, none⟩) := hd ⟨3, Ground.data⟩ (by simp) rfl rfl
                  have ec : ∀ v, a'.eval (.const v) = v := fun _ => rfl
                  have ef : ∀ g, a'.eval (.func g) = .func (.func g) #[] #[] := fun _ => rfl
                  clear hd hs
                  refine wpv (v := .pointer (some ⟨nb, 0, none⟩)) ?_ ⟨_, rfl, Grow.rfl' _, rfl⟩
                  (generalize a'.eval = ev at ec ef e129 ⊢; simp [execOp, go_sem, *])
                · refine stepG_run hGg hBg hstab rfl ?_
                  intro a' w' hg hs hd hb
                  have e130 : a'.eval (.tmp 130) = .pointer (some ⟨nb, 0, none⟩) := hd ⟨4, Ground.data⟩ (by simp) rfl rfl
                  have ec : ∀ v, a'.eval (.const v) = v := fun _ => rfl
                  have ef : ∀ g, a'.eval (.func g) = .func (.func g) #[] #[] := fun _ => rfl
                  have hq := cell_later hg NQ.out.cell0
                  clear hd hs
                  refine wpv (v := .slice sX mX cX) ?_ ⟨_, rfl, Grow.rfl' _, rfl⟩
                  (generalize a'.eval = ev at ec ef e130 ⊢; simp [execOp, go_sem, *])
                · refine stepG_run hGg hBg hstab rfl ?_
                  intro a' w' hg hs hd hb
                  have e13 : a'.eval (.tmp 13) = .int .i64 (j : Int) := hs.rest 13 rfl
                  have ec : ∀ v, a'.eval (.const v) = v := fun _ => rfl
                  have ef : ∀ g, a'.eval (.func g) = .func (.func g) #[] #[] := fun _ => rfl
                  clear hd hs
                  refine wpv (v := .int .i64 (j : Int)) ?_ ⟨_, rfl, Grow.rfl' _, rfl⟩
                  (generalize a'.eval = ev at ec ef e13 ⊢; simp [execOp, go_sem, *])
                · refine stepG_run hGg hBg hstab rfl ?_
                  intro a' w' hg hs hd hb
                  have e131 : a'.eval (.tmp 131) = .slice sX mX cX := hd ⟨5, Ground.data⟩ (by simp) rfl rfl
                  have e132 : a'.eval (.tmp 132) = .int .i64 (j : Int) := hd ⟨6, Ground.data⟩ (by simp) rfl rfl
                  have ec : ∀ v, a'.eval (.const v) = v := fun _ => rfl
                  have ef : ∀ g, a'.eval (.func g) = .func (.func g) #[] #[] := fun _ => rfl
                  clear hd hs
                  refine wpv (v := .slice sX j cX) ?_ ⟨_, rfl, Grow.rfl' _, rfl⟩
                  (generalize a'.eval = ev at ec ef e131 e132 ⊢; simp [execOp, go_sem, *])
                · refine stepG_run hGg hBg hstab rfl ?_
                  intro a' w' hg hs hd hb
                  obtain ⟨g127, e127, o127⟩ : LitT wQ.heap.size (a'.eval (.tmp 127)) w' := hd ⟨1, Ground.data⟩ (by simp) rfl rfl
                  have e133 : a'.eval (.tmp 133) = .slice sX j cX := hd ⟨7, Ground.data⟩ (by simp) rfl rfl
                  have ec : ∀ v, a'.eval (.const v) = v := fun _ => rfl
                  have ef : ∀ g, a'.eval (.func g) = .func (.func g) #[] #[] := fun _ => rfl
                  clear hd hs
                  obtain ⟨s2, c2, w2, hrun, hown, hgb⟩ := run_ap0_tm w' 30 wQ.heap.size g127 (D.take j) o127 sX j cX ((NQ.out.ownT.is.take' j hj).later hg) (by omega) hg.size
                  refine wpv (v := .slice s2 _ c2) (w' := w2) ?_ ⟨_, rfl, hgb, ⟨s2, c2, rfl, hown, trivial⟩⟩
                  unfold execOp; simp only [resolve, invoke, builtin, Sem.run_bind, Sem.run_pure, Result.andThen_ok, List.map_toArray, List.map_cons, List.map_nil, e127, e133, hrun]
                · refine stepG_run hGg hBg hstab rfl ?_
                  intro a' w' hg hs hd hb
                  have e4 : a'.eval (.tmp 4) = .pointer (some ⟨w.heap.size, 0, none⟩) := hs.rest 4 rfl
                  have ec : ∀ v, a'.eval (.const v) = v := fun _ => rfl
                  have ef : ∀ g, a'.eval (.func g) = .func (.func g) #[] #[] := fun _ => rfl
                  obtain ⟨x0, x1, x2, x3, x4⟩ := KQ.out.later hg
                  clear hd hs
                  refine wpv (v := .agg #[.int .i64 t.e, .int .i64 t.d, .int .i64 t.x, .int .i64 t.y, .int .i64 t.z]) ?_ ⟨_, rfl, Grow.rfl' _, rfl⟩
                  (generalize a'.eval = ev at ec ef e4 ⊢; simp [execOp, go_sem, *])
                · refine stepG_run hGg hBg hstab rfl ?_
                  intro a' w' hg hs hd hb
                  have e135 : a'.eval (.tmp 135) = .agg #[.int .i64 t.e, .int .i64 t.d, .int .i64 t.x, .int .i64 t.y, .int .i64 t.z] := hd ⟨9, Ground.data⟩ (by simp) rfl rfl
                  have ec : ∀ v, a'.eval (.const v) = v := fun _ => rfl
                  have ef : ∀ g, a'.eval (.func g) = .func (.func g) #[] #[] := fun _ => rfl
                  clear hd hs
                  refine wpv (v := .slice (some ⟨w'.heap.size, 0, none⟩) 1 1) (w' := w'.alloc (.cells #[.int .i64 t.e, .int .i64 t.d, .int .i64 t.x, .int .i64 t.y, .int .i64 t.z] 25)) ?_ ⟨_, rfl, Grow.alloc' _ _, boxR_one _ _⟩
                  (generalize a'.eval = ev at ec ef e135 ⊢; simp [execOp, go_sem, *])
                · refine stepG_take rfl ?_
                  intro a' w' hg hs hd hb
                  obtain ⟨s134, c134, e134, o134, l134⟩ : AppN wQ.heap.size j (D.take j) (a'.eval (.tmp 134)) w' := hd ⟨8, Ground.data⟩ (by simp) rfl rfl
                  obtain ⟨b136, e136, r136⟩ : BoxR t (a'.eval (.tmp 136)) w' := hd ⟨10, Ground.data⟩ (by simp) rfl rfl
                  have ec : ∀ v, a'.eval (.const v) = v := fun _ => rfl
                  have ef : ∀ g, a'.eval (.func g) = .func (.func g) #[] #[] := fun _ => rfl
                  clear hd hs
                  obtain ⟨s2, c2, w2, hrun, hown, hgr, hlie⟩ := run_aptN hg 30 s134 j c134 (D.take j) [t] o134 (some ⟨b136, 0, none⟩) 1 1 (boxR_is r136) (by omega)
                  refine wpv (v := .slice s2 _ c2) (w' := w2) ?_ ⟨_, rfl, hgr, ⟨s2, c2, rfl, hown, hlie⟩, ?_, fun _ _ => trivial⟩
                  rotate_left
                  · intro j u hj h
                    match j with
                    | 0 => exact h
                    | 1 => cases hj
                    | 2 => exact h
                    | 3 => exact h
                    | 4 => exact h
                    | 5 => exact h
                    | 6 => exact h
                    | 7 => exact h
                    | 8 => cases hj
                    | 9 => exact h
                    | 10 => cases hj
                    | 11 => cases hj
                    | 12 => exact h
                    | 13 => exact h
                    | j + 14 => exact trivial
                  · unfold execOp; simp only [resolve, invoke, builtin, Sem.run_bind, Sem.run_pure, Result.andThen_ok, List.map_toArray, List.map_cons, List.map_nil, e134, e136, hrun]
                · refine stepG_run hGg hBg hstab rfl ?_
                  intro a' w' hg hs hd hb
                  have e126 : a'.eval (.tmp 126) = .pointer (some ⟨nb, 0, none⟩) := hd ⟨0, Ground.data⟩ (by simp) rfl rfl
                  have ec : ∀ v, a'.eval (.const v) = v := fun _ => rfl
                  have ef : ∀ g, a'.eval (.func g) = .func (.func g) #[] #[] := fun _ => rfl
                  clear hd hs
                  refine wpv (v := .pointer (some ⟨nb, 0, none⟩)) ?_ ⟨_, rfl, Grow.rfl' _, rfl⟩
                  (generalize a'.eval = ev at ec ef e126 ⊢; simp [execOp, go_sem, *])
                · refine stepG_run hGg hBg hstab rfl ?_
                  intro a' w' hg hs hd hb
                  have e138 : a'.eval (.tmp 138) = .pointer (some ⟨nb, 0, none⟩) := hd ⟨12, Ground.data⟩ (by simp) rfl rfl
                  have ec : ∀ v, a'.eval (.const v) = v := fun _ => rfl
                  have ef : ∀ g, a'.eval (.func g) = .func (.func g) #[] #[] := fun _ => rfl
                  clear hd hs
                  refine wpv (v := .pointer (some ⟨nb, 0, none⟩)) ?_ ⟨_, rfl, Grow.rfl' _, rfl⟩
                  (generalize a'.eval = ev at ec ef e138 ⊢; simp [execOp, go_sem, *])
              · intro a' w' hg hs hd
                have e139 : a'.eval (.tmp 139) = .pointer (some ⟨nb, 0, none⟩) := hd 13 (by omega) rfl
                obtain ⟨s137, c137, e137, o137, l137⟩ : AppN wQ.heap.size (j + 1) (D.take j ++ [t]) (a'.eval (.tmp 137)) w' := hd 11 (by omega) rfl
                have ec : ∀ v, a'.eval (.const v) = v := fun _ => rfl
                have ef : ∀ g, a'.eval (.func g) = .func (.func g) #[] #[] := fun _ => rfl
                have hq0 := cell_later hg NQ.out.cell0
                have hf0 : w'.frozen? ⟨nb, 0, none⟩ = false := by rw [hg.frozen (p := ⟨nb, 0, none⟩) hnQ]; exact NQ.out.free0
                refine wps (w' := w'.setCell ⟨nb, 0, none⟩ (.slice s137 (j + 1) c137)) ?_ ?_
                · (generalize a'.eval = ev at ec ef e139 e137 ⊢; simp [execOp, go_sem, *])
                have N2 := hide (NQ.out.setT ((grown_of hg).but _) (o137.rebase (by omega)) (fun a ha => .inr (ownSV_le o137 a ha).2))
                have G2 := hide (grow_turn (row := none) (p := ⟨nb, 0, none⟩) (u := .slice s137 (j + 1) c137) GQ.out (grown_of hg) (fun q hq => by cases hq) hn4)
                have OP3 := hide (ownSV_keep (w2 := w'.setCell ⟨nb, 0, none⟩ (.slice s137 (j + 1) c137)) (OP2.out.later hg) fun a ha => setCell_block _ _ _ _ (by have := (ownSV_le OP2.out a ha).2; show a.block ≠ nb; omega))
                have OQ3 := hide ((OQ.out.later hg).keep (w' := w'.setCell ⟨nb, 0, none⟩ (.slice s137 (j + 1) c137)) fun a ha => setCell_block _ _ _ _ (by have := (OQ.out.lt a ha).2; show a.block ≠ nb; omega))
                have hsT : ∀ a, s137 = some a → wQ.heap.size ≤ a.block := fun a ha => (ownSV_le o137 a ha).2
                have hsQ : ∀ a, sQ = some a → a.block < wQ.heap.size := fun a ha => (OQ.out.lt a ha).1
                have hsP : ∀ a, sP = some a → a.block < wQ.heap.size := fun a ha => (ownSV_le OP2.out a ha).1
                have hsQ1 : ∀ a, sQ = some a → nb + 1 ≤ a.block := fun a ha => by have := (OQ.out.lt a ha).2; omega
                have hsP1 : ∀ a, sP = some a → nb + 1 ≤ a.block := fun a ha => by have := (ownSV_le OP2.out a ha).2; omega
                clear hq0 hf0 e137 o137 l137 e139 ec ef hg HGG HBG HG0 HB0 hGg hBg hstab GQ NQ OP2 OQ KQ GpQ
                rw [frame_eq hs [false, false, false, false, false, false, false, false, false, false, false, false, false, false, false, false, false, false, false, false, false, false, false, false, false, false, false, false, false, false, false, false, false, false, false, false, false, false, false, false, false, false, false, false, false, false, false, false, false, false, false, false, false, false, false, false, false, false, false, false, false, false, false, false, false, false, false, false, false, false, false, false, false, false, false, false, false, false, false, false, false, false, false, false, false, false, false, false, false, false, false, false, false, false, false, false, false, false, false, false, false, false, false, false, false, false, false, false, false, false, false, false, false, false, false, false, false, false, false, false, false, false, false, false, false, false, true, true, true, true, true, true, true, true, true, true, true, true, true, true, false, false, false, false, false, false, false, false, false, false, false, false, false, false, false, false, false, false, false, false, false, false, false, false, false, false, false, false, false, false, false, false, false, false, false, false, false, false, false, false, false, false, false, false, false, false, false, false, false, false, false, false, false, false, false, false, false, false, false, false, false, false] (by kernel_rfl)]; simp only [mergeL]; clear hs hd; generalize a'.tmps = TT at *; try go_frame
                generalize w'.setCell ⟨nb, 0, none⟩ (.slice s137 (j + 1) c137) = wA at *
                have hnA : nb < wA.heap.size := N2.out.lt
                have f1 := N2.out.cell1
                go_wp2_with (at_builtin; refine wpList_apI rfl _ _ rfl wA.heap.size (some ⟨wA.heap.size, 0, none⟩) 0 0 [] ((D.map s.f).take j) rfl (OwnIV.lit0 wA wA.heap.size (Nat.le_refl _)) sZ j cZ rfl ((N2.out.ownN.is.take' j hj).later (Grow.alloc' _ _)) ?hl ?hb ?_)
                case hl => omega
                case hb => simp
                intro sB cB wB hO hgB hlB
                try simp only [Nat.zero_add, List.nil_append] at hO
                have GaB := hide (grow_step (Grow.alloc' wA (.cells #[] 3)) hgB (Nat.le_refl _))
                have OB := hide hO
                have hzB : wA.heap.size ≤ wB.heap.size := GaB.out.size
                have hbx : Hid (IsIns (wB.alloc (.cells #[.int .i64 u] 3)) (some ⟨wB.heap.size, 0, none⟩) 1 1 [u]) := hide (by obtain ⟨b9, e9, h9⟩ := boxJ_one wB u; injection e9 with e9 _ _; rw [e9]; exact h9)
                clear hO hgB hlB f1
                go_wp2_with (at_builtin; refine wpList_apI rfl _ _ rfl wA.heap.size sB j cB ((D.map s.f).take j) [u] rfl (OB.out.later (Grow.alloc' _ _)) (some ⟨wB.heap.size, 0, none⟩) 1 1 rfl hbx.out ?hl ?hb ?_)
                case hl => omega
                case hb => simp; omega
                intro sC cC wC hO hgC hlC
                have GaC := hide (Below.grown (Grow.trans' GaB.out (Grow.alloc' wB (.cells #[.int .i64 u] 3))) hgC (Grow.trans' GaB.out (Grow.alloc' wB (.cells #[.int .i64 u] 3))).size (fun q hq => rowI_ge OB.out q hq))
                have N3 := hide (N2.out.setN ((grown_of GaC.out).but _) (hO.rebase (by omega)) (fun a ha => .inr (hO.lt a ha).2))
                have G3' := hide (grow_turn (row := none) (p := ⟨nb, 1, none⟩) (u := .slice sC (j + 1) cC) (Grow.trans' G2.out GaC.out) (World.grownBy.refl _ _) (fun q hq => by cases hq) hn4)
                have OP4 := hide (ownSV_keep (w2 := wC.setCell ⟨nb, 1, none⟩ (.slice sC (j + 1) cC)) (OP3.out.later GaC.out) fun a ha => setCell_block _ _ _ _ (by have := hsP1 a ha; show a.block ≠ nb; omega))
                have OQ4 := hide ((OQ3.out.later GaC.out).keep (w' := wC.setCell ⟨nb, 1, none⟩ (.slice sC (j + 1) cC)) fun a ha => setCell_block _ _ _ _ (by have := hsQ1 a ha; show a.block ≠ nb; omega))
                have f1 := cell_later GaC.out N2.out.cell1
                have z1 : wC.frozen? ⟨nb, 1, none⟩ = false := by rw [GaC.out.frozen (p := ⟨nb, 1, none⟩) hnA]; exact N2.out.free1
                clear hO hgC hlC GaB OB hbx
                go_upto_region 22 with fail
                clear f1 z1
                generalize wC.setCell ⟨nb, 1, none⟩ (.slice sC (j + 1) cC) = wD at *
                have hnD : nb < wD.heap.size := N3.out.lt
                have f0 := N3.out.cell0
                go_wp2_with (at_builtin; refine wpList_apT rfl _ _ rfl (nb + 1) s137 (j + 1) c137 (D.take j ++ [t]) (D.drop j) rfl N3.out.ownT sP (mX - j) cP rfl OP4.out.is ?hl ?hb ?_)
                case hl => omega
                case hb => omega
                intro sE cE wE hO hgE hlE
                have hrE := row_ge N3.out.ownT
                have N4 := hide (N3.out.setT hgE hO (fun a ha => by have := hlE a ha; simpa using this))
                have G4' := hide (grow_turn (p := ⟨nb, 0, none⟩) (u := .slice sE (j + 1 + (mX - j)) cE) G3'.out hgE (fun q hq => by have := hrE q hq; omega) hn4)
                have OQ5 := hide (OQ4.out.keep (w' := wE.setCell ⟨nb, 0, none⟩ (.slice sE (j + 1 + (mX - j)) cE)) fun a ha => (setCell_block _ _ _ _ (by have := hsQ1 a ha; show a.block ≠ nb; omega)).trans (hgE.block _ (OQ4.out.lt a ha).1 (fun e => by
                  cases hs' : s137 with
                  | none => rw [hs'] at e; cases e
                  | some a' =>
                    have h1 := hsT a' hs'
                    have h2 := hsQ a ha
                    rw [hs'] at e
                    simp at e
                    omega)))
                have f0' := cell_row hgE N3.out.cell0 hrE (show nb < nb + 1 by omega)
                have z0 : wE.frozen? ⟨nb, 0, none⟩ = false := by rw [World.frozen?_of_block (w := wD) (hgE.block nb hnD (fun e => by have := hrE _ e.symm; omega))]; exact N3.out.free0
                clear hO hgE hlE f0 OP4 OQ4
                go_upto_region 23 with fail
                clear f0' z0
                generalize wE.setCell ⟨nb, 0, none⟩ (.slice sE (j + 1 + (mX - j)) cE) = wF at *
                have hnF : nb < wF.heap.size := N4.out.lt
                have f1 := N4.out.cell1
                go_wp2_with (at_builtin; refine wpList_apI rfl _ _ rfl (nb + 1) sC (j + 1) cC ((D.map s.f).take j ++ [u]) ((D.map s.f).drop j) rfl N4.out.ownN sQ (mX - j) cQ rfl OQ5.out.is ?hl ?hb ?_)
                case hl => omega
                case hb => omega
                intro sH cH wH hO hgH hlH
                have hrH := rowI_ge N4.out.ownN
                have N5 := hide (N4.out.setN hgH hO (fun a ha => by have := hlH a ha; simpa using this))
                have G5' := hide (grow_turn (p := ⟨nb, 1, none⟩) (u := .slice sH (j + 1 + (mX - j)) cH) G4'.out hgH (fun q hq => by have := hrH q hq; omega) hn4)
                have f1' := cell_row hgH N4.out.cell1 hrH (show nb < nb + 1 by omega)
                have z1 : wH.frozen? ⟨nb, 1, none⟩ = false := by rw [World.frozen?_of_block (w := wF) (hgH.block nb hnF (fun e => by have := hrH _ e.symm; omega))]; exact N4.out.free1
                clear hO hgH hlH f1 OQ5
                go_upto_region 24 with fail
                clear f1' z1
                generalize wH.setCell ⟨nb, 1, none⟩ (.slice sH (j + 1 + (mX - j)) cH) = wI at *
                obtain ⟨M, hM⟩ : ∃ M, j + 1 + (mX - j) = M := ⟨_, rfl⟩
                rw [hM] at N5 ⊢
                have hNF : NextR wI nb sE M cE (nextT s.T t u) sH M cH ((nextT s.T t u).map (putF s.f t u)) := by
                  have e1 : nextT s.T t u = D.take j ++ [t] ++ D.drop j := by unfold nextT; rw [if_neg hu0, ← HDD.out, HINS.out]
                  have e2 : (D.take j ++ [t] ++ D.drop j).map (putF s.f t u) = (D.map s.f).take j ++ [u] ++ (D.map s.f).drop j := by
                    rw [List.map_append, List.map_append, List.map_cons, List.map_nil, putF_same, List.map_take, List.map_drop, HDD.out, map_put_drop]
                  rw [e1, e2]; have := N5.out; simpa using this
                have NF := hide hNF
                have GF := hide G5'.out
                clear hNF N5 G5' N4 G4' N3 G3' hM
                by_cases hb4 : M ≤ 400
                · have hTl : (nextT s.T t u).length = M := NF.out.ownT.1
                  have he : s.err t n = 0 := Cs.err_of HM.out HF.out (by rw [← HC.out, ← HU.out]; exact HS.out) (by rw [← HC.out, ← HU.out]; omega)
                  have ha : s.add t n = s.next t u := by unfold Cs.add; rw [if_pos he, ← HC.out, ← HU.out]
                  have HE := hide he
                  have HA := hide ha
                  have HSO2 := hide (Cs.next_ok (t := t) (n := u) HOK.out HM.out HS.out (by omega))
                  have hb5 : ¬ (400 : Int) < (M : Int) := by omega
                  have f0 := NF.out.cell0
                  clear he ha hTl ER
                  go_wp2_with fail
                  refine (rfront_any y s sT sN cT cN wI HOK.out (HR3.out.later GF.out)).mono ?_
                  rintro e w6 ⟨v, rfl, hb, sW, nW, cW, rfl, hI⟩
                  have NF6 := hide (NF.out.later hb)
                  have RY6 := hide ((HR3.out.later GF.out).later hb)
                  have W6 := hide hI
                  have G6 := hide (Grow.trans' (Grow.trans' G3.out GF.out) hb)
                  have hnW : nW ≤ 400 := by have h1 := hI.1; have h2 := Cs.front_len HOK.out; omega
                  obtain ⟨hP1, hP2⟩ := RepY.put (s2 := s.next t u) RY6.out NF6.out hynb rfl
                  have P1 := hide hP1
                  have P2 := hide hP2
                  have W8 := hide (W6.out.turnY RY6.out hP2)
                  clear f0 hb hI hP1 hP2
                  have f0 := NF6.out.cell0
                  have f1 := NF6.out.cell1
                  have g0 := RY6.out.cell0
                  have g1 := RY6.out.cell1
                  have z0 := RY6.out.free0
                  have z1 := RY6.out.free1
                  have hyn : ¬ nb = y := by omega
                  have hyn' : ¬ y = nb := by omega
                  go_wp2_with fail
                  generalize (w6.setCell ⟨y, 0, none⟩ (.slice sE M cE)).setCell ⟨y, 1, none⟩ (.slice sH M cH) = w8 at *
                  refine (rfront_any y (s.next t u) sE sH cE cH w8 HSO2.out P1.out).mono ?_
                  rintro e w9 ⟨v, rfl, hb, sV, nV, cV, rfl, hI⟩
                  have P9 := hide (P1.out.later hb)
                  have G9 := hide (grown_post (grown_pre G6.out P2.out) hb)
                  have W9 := hide (W8.out.later hb)
                  have V9 := hide hI
                  have hnV : nV ≤ 400 := by have h1 := hI.1; have h2 := Cs.front_len HSO2.out; omega
                  clear hb hI f0 f1 g0 g1 z0 z1 hyn hyn' P1 P2 W8 W6 NF6 RY6 G6
                  go_wp2_with fail
                  refine (rwithout_any sW nW cW s.front sV nV cV (s.next t u).front w9 (by omega) (by omega) W9.out V9.out).mono ?_
                  rintro e w10 ⟨v, rfl, hb, s3, n3, c3, rfl, hI⟩
                  have P10 := hide (P9.out.later hb)
                  have G10 := hide (grown_post G9.out hb)
                  have W10 := hide (W9.out.later hb)
                  have V10 := hide (V9.out.later hb)
                  have J10 := hide hI
                  clear hb hI P9 G9 W9 V9
                  go_wp2_with fail
                  refine (rwithout_any sV nV cV (s.next t u).front sW nW cW s.front w10 (by omega) (by omega) V10.out W10.out).mono ?_
                  rintro e w11 ⟨v, rfl, hb, s4, n4, c4, rfl, hI⟩
                  have P11 := hide (P10.out.later hb)
                  have G11 := hide (grown_post G10.out hb)
                  have J11 := hide (J10.out.later hb)
                  have K11 := hide hI
                  clear hb hI P10 G10 W10 V10 J10
                  go_wp2_with fail
                  go_ret3
                  refine ⟨s3, n3, c3, s4, n4, c4, sE, cE, sH, cH, by rw [HE.out]; rfl, G11.out, ?_, ?_, ?_⟩
                  · rw [HA.out]; exact P11.out
                  · unfold Cs.gone; rw [HA.out]; exact J11.out
                  · unfold Cs.come; rw [HA.out]; exact K11.out
                · have hTl : (nextT s.T t u).length = M := NF.out.ownT.1
                  have he : s.err t n = 3 := by
                    unfold Cs.err
                    have : ¬ (nextT s.T t (s.f t + n)).length ≤ 400 := by rw [← HC.out, ← HU.out]; omega
                    rw [HM.out, HF.out, if_neg this, ← HC.out, ← HU.out, HS.out]; rfl
                  have HE := hide he
                  have hb5 : (400 : Int) < (M : Int) := by omega
                  have f0 := NF.out.cell0
                  clear he hTl
                  go_wp2_with fail
                  go_ret3
                  exact ER.out _ 3 HE.out (by decide) (Grow.trans' G3.out GF.out)
              -- ENDINS2

end Go.Proofs.Ytpkhmhigoafklaa
