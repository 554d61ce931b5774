/-
  What bag.Minus does to the world: of every two rows what is left of the first, in order, in a row of its own; what was there stays as it was.
-/
import Derived.Test.YtkmgbhehhdjmlaaGNum
import Derived.Test.YtkmgbhehhdjmlaaGSrt
namespace Go.Proofs.Ytkmgbhehhdjmlaa
set_option maxRecDepth 100000
open Go.RowKit
set_option linter.unusedVariables false
set_option linter.unusedSimpArgs false

theorem MapF.isMap {w : World} {b N : Nat} {f : Rc → Int} (h : MapF w b N f) : ∃ es clock, w.heap[b]? = some (.map es clock) := by
  obtain ⟨D, ⟨es, clock, hb, _⟩, _⟩ := h
  exact ⟨es, clock, hb⟩
theorem MapF.noCell {w : World} {b N off : Nat} {f : Rc → Int} {v : Value} (h : MapF w b N f) (hc : w.cell? ⟨b, off, none⟩ = some v) : False := by
  obtain ⟨es, clock, hb⟩ := h.isMap
  simp [World.cell?, hb] at hc
/-- The map turns: a row stays. -/
theorem IsRcs.turn {w w' : World} {b N : Nat} {f : Rc → Int} {s : Option Addr} {n cap : Nat} {d : List Rc} (hM : MapF w b N f) (hg : w.grownBy w' (some b)) (h : IsRcs w s n cap d) : IsRcs w' s n cap d := by
  refine ⟨h.1, h.2.1, h.2.2.imp id fun ⟨bb, o, e, r⟩ => ⟨bb, o, e, fun j v hj => ?_⟩⟩
  have h1 := r j v hj
  refine hg.cell h1 fun k => ?_
  have hk : bb = b := by simpa using k
  subst hk
  exact hM.noCell h1
theorem OwnRV.turn {w w' : World} {b base : Nat} {s : Option Addr} {n cap : Nat} {d : List Rc} (hb : b < base) (hg : w.grownBy w' (some b)) (h : OwnRV w base s n cap d) : OwnRV w' base s n cap d := by
  refine ⟨h.1, h.2.imp id fun ⟨g, e, ho⟩ => ⟨g, e, ho.keep (hg.block g ho.lt fun k => ?_)⟩⟩
  have := ho.le.1
  simp at k
  omega
theorem MapF.but {w w' : World} {b N base : Nat} {f : Rc → Int} {s : Option Addr} (hb : b < base) (hg : GrewBut w w' base s) (h : MapF w b N f) : MapF w' b N f := by
  refine h.keep (hg.grown.block b h.lt fun k => ?_)
  cases s with
  | none => simp at k
  | some a =>
    have := hg.own a rfl
    simp at k
    omega
theorem grown_but2 {W w w' : World} {b base : Nat} {s : Option Addr} (hb : W.heap.size ≤ base) (h : W.grownBy w (some b)) (hg : GrewBut w w' base s) : W.grownBy w' (some b) := by
  refine ⟨hg.grown.os.trans h.os, hg.grown.tape.trans h.tape, hg.grown.output.trans h.output, Nat.le_trans h.size hg.grown.size, fun k hk hne => ?_⟩
  rw [hg.grown.block k (Nat.lt_of_lt_of_le hk h.size) fun e => ?_]
  · exact h.block k hk hne
  · cases s with
    | none => simp at e
    | some a =>
      have := hg.own a rfl
      simp at e
      omega

set_option maxHeartbeats 4000000 in
theorem minus_at (s s' : Option Addr) (n m cap cap' : Nat) (d e : List Rc) (w : World) (hbig : n ≤ 1000000) (hbig' : m ≤ 1000000) (hwf : ∀ r ∈ d, RcWf r) (hwf' : ∀ r ∈ e, RcWf r) (hd : IsRcs w s n cap d) (he : IsRcs w s' m cap' e) :
    Calls Try.prog 19 #[.slice s n cap, .slice s' m cap'] w fun r w' => ∃ s2 n2 c2, r = .returned (.slice s2 n2 c2) ∧ Grow w w' ∧ IsRcs w' s2 n2 c2 (mns d e) := by
  have HI := hide hd
  have HW : Hid (∀ r ∈ srt d, RcWf r) := hide fun r hr => hwf r ((srt_perm d).mem_iff.1 hr)
  have C1 := hide (numbers_at s' m cap' e w hbig' hwf' he)
  have HL : Hid ((srt d).length = n) := hide (by rw [srt_len, hd.1])
  have HEC : Hid (∀ x, e.count x ≤ 1000000) := hide fun x => Nat.le_trans List.count_le_length (by rw [he.1]; exact hbig')
  clear hd he hwf hwf'
  go_enter Try.func19, Try.ntmps19
  go_wp2_with fail
  refine (C1.out).mono ?_
  rintro r1 w1 ⟨B, rfl, hb, hB, hM⟩
  have G1 := hide hb
  have M1 := hide hM
  have HB := hide hB
  have C2 := hide (sort_at s n cap d w1 hbig (HI.out.later hb))
  clear hb hM hB C1 HI
  go_wp2_with fail
  refine (C2.out).mono ?_
  rintro r2 w2 ⟨s1, c1, rfl, hb, hI⟩
  have G2 := hide (Grow.trans' G1.out hb)
  have M2 := hide (M1.out.later hb)
  obtain ⟨S, hS⟩ : ∃ S, S = srt d := ⟨_, rfl⟩
  rw [← hS] at hI HW HL
  have HS := hide hS
  have I2 := hide hI
  have hBs : B < w2.heap.size := M2.out.lt
  clear hb hI C2 M1 G1 hS
  obtain ⟨f, hf⟩ : ∃ f : Rc → Nat, f = fun x => e.count x := ⟨_, rfl⟩
  have HFe := hide hf
  clear hf
  have M3 : Hid (MapF w2 B (2 * m) fun x => (f x : Int)) := hide (by rw [HFe.out]; exact M2.out)
  have HFM : Hid (∀ x, f x ≤ 1000000) := hide (by rw [HFe.out]; exact HEC.out)
  clear M2 HEC
  go_wp2_with fail
  go_loopw [6, 14] (fun v i wr => ∃ (k : Nat) (sl : Option Addr) (ml cl : Nat), k ≤ n ∧ v = .slice sl ml cl ∧ i = .int .i64 k ∧ w2.grownBy wr (some B) ∧ (MapF wr B (2 * m + 2 * k) fun x => (passW (S.take k) f x : Int)) ∧ OwnRV wr w2.heap.size sl ml cl (passL (S.take k) f)) (fun _ i _ => n - (intOf i).toNat)
  case atStart => exact ⟨0, none, 0, 0, Nat.zero_le _, rfl, rfl, grown_but (Grow.rfl' _), M3.out, OwnRV.nil _ _⟩
  case round =>
    obtain ⟨k, sl, ml, cl, hk, rfl, rfl, hg, hM, hO⟩ := hrel
    have HG := hide hg
    have HM := hide hM
    have HO := hide hO
    have hml : ml ≤ k := by
      have h1 := (passL_sub (S.take k) f).length_le
      rw [hO.1, List.length_take] at h1
      omega
    have hsz := hg.size
    have IR := hide (I2.out.turn M3.out hg)
    clear hM hO hg
    by_cases hlt : k < n
    · have hkd : k < S.length := by rw [HL.out]; exact hlt
      have hne : ¬ S = [] := fun h => by rw [h] at hkd; simp at hkd
      obtain ⟨b, o, rfl, hr1⟩ := IR.out.2.2.resolve_left hne
      obtain ⟨p0, p1⟩ := hr1.at k hkd
      obtain ⟨x, hx⟩ : ∃ x, x = S[k] := ⟨_, rfl⟩
      rw [← hx] at p0 p1
      have hi1 : (0 : Int) ≤ (k : Int) := by omega
      have hi2 : (k : Int) < (n : Int) := by omega
      have HX : Hid (S.take (k + 1) = S.take k ++ [x]) := hide (by rw [hx, List.take_append_getElem])
      have HF : Hid (RcWf x) := hide (HW.out x (by rw [hx]; exact List.getElem_mem _))
      clear hne hr1 hx hkd
      have KX : Hid (Box (wr.alloc (.cells #[.int .i64 x.k, .int .i64 x.v] 24)) wr.heap.size x) := hide (Box.new _ _)
      have GB : Hid (w2.grownBy (wr.alloc (.cells #[.int .i64 x.k, .int .i64 x.v] 24)) (some B)) := hide (grown_post HG.out (Grow.alloc' _ _))
      obtain ⟨F, hF⟩ : ∃ F, F = passW (S.take k) f := ⟨_, rfl⟩
      have HFF := hide hF
      obtain ⟨g, hgg⟩ : ∃ g : Rc → Int, g = fun x => (F x : Int) := ⟨_, rfl⟩
      have HGF := hide hgg
      have MB : Hid (MapF (wr.alloc (.cells #[.int .i64 x.k, .int .i64 x.v] 24)) B (2 * m + 2 * k) g) := hide (by rw [hgg, hF]; exact HM.out.later (Grow.alloc' _ _))
      have OB : Hid (OwnRV (wr.alloc (.cells #[.int .i64 x.k, .int .i64 x.v] 24)) w2.heap.size sl ml cl (passL (S.take k) f)) := hide (HO.out.later (Grow.alloc' _ _))
      have hPB : (some wr.heap.size : Option Nat) ≠ some B := by
        intro e
        have := HM.out.lt
        simp at e
        omega
      obtain ⟨c, hc⟩ : ∃ c : Int, c = g x := ⟨_, rfl⟩
      have hc0 : 0 ≤ c := by rw [hc, hgg]; exact Int.natCast_nonneg _
      have hc1 : c ≤ 1000000 := by
        rw [hc, hgg]
        have h1 := passW_le (S.take k) f x
        have h2 := HFM.out x
        rw [← hF] at h1
        exact Int.ofNat_le.2 (Nat.le_trans h1 h2)
      have HC := hide hc
      have hl := MB.out.get HF.out
      rw [← hc] at hl
      have hsb : wr.heap.size < (wr.alloc (.cells #[.int .i64 x.k, .int .i64 x.v] 24)).heap.size := by simp
      clear hc hgg hF HM HG HO IR
      by_cases hpos : 0 < c
      · have HP : Hid (0 < F x) := hide (by have h1 : c = (F x : Int) := by rw [HC.out, HGF.out]
                                            omega)
        go_wp2_with fail
        obtain ⟨P, hP⟩ : ∃ P, P = wr.heap.size := ⟨_, rfl⟩
        rw [← hP] at KX hPB
        rw [← hP]
        clear hP hl p0 p1 hsb
        generalize wr.alloc (.cells #[.int .i64 x.k, .int .i64 x.v] 24) = wb at *
        have HGG : ∀ w1 w2, (wb.grownBy w1 (some B) ∧ MapF w1 B (2 * m + 2 * k + 1) g) → Grow w1 w2 → (wb.grownBy w2 (some B) ∧ MapF w2 B (2 * m + 2 * k + 1) g) := fun _ _ h q => ⟨grown_post h.1 q, h.2.later q⟩
        have HBG : ∀ w1 w2, Grow w1 w2 → MapF w1 B (2 * m + 2 * k) g → MapF w2 B (2 * m + 2 * k) g := fun _ _ q h => h.later q
        have HG0 : ∀ w', Grow wb w' → w'.heap = wb.heap → (wb.grownBy w' (some B) ∧ MapF w' B (2 * m + 2 * k + 1) g) := fun _ h _ => ⟨grown_but h, (MB.out.later h).mono (by omega)⟩
        have HB0 : ∀ w', Grow wb w' → w'.heap = wb.heap → MapF w' B (2 * m + 2 * k) g := fun _ h _ => MB.out.later h
        let FF : Nat → Value → World → Prop := fun i vF wF => match i with | 0 => vF = .map (some B) | 1 => vF = .agg #[.int .i64 x.k, .int .i64 x.v] | 2 => vF = .int .i64 c | 3 => vF = .int .i64 (c - 1) | 4 => EntV B x vF wF | 5 => StV B x vF wF | _ => True
        let GG : World → Prop := fun w' => wb.grownBy w' (some B) ∧ MapF w' B (2 * m + 2 * k + 1) g
        let BB : World → Prop := fun w' => MapF w' B (2 * m + 2 * k) g
        have hstab : ∀ k v w1 w2, Grow w1 w2 → FF k v w1 → FF k v w2 := by
          intro k v w1 w2 hg h
          match k with
          | 0 => exact h
          | 1 => exact h
          | 2 => exact h
          | 3 => exact h
          | 4 => exact EntV.later hg h
          | 5 => exact StV.later hg h
          | k + 6 => exact trivial
        have hGg : ∀ w1 w2, GG w1 → Grow w1 w2 → GG w2 := HGG
        have hBg : ∀ w1 w2, Grow w1 w2 → BB w1 → BB w2 := HBG
        refine wp_region_endG FF GG BB (fun _ => none) 4 6 _ rfl rfl rfl (by kernel_rfl) (by kernel_rfl) HG0 HB0 ?_ ?_
        · refine ⟨?_, ?_, ?_, ?_, ?_, ?_, trivial⟩
          · refine stepG_run hGg hBg hstab rfl ?_
            intro a' w' hg hs hd hb
            have e5 : a'.eval (.tmp 5) = .map (some B) := hs.rest 5 rfl
            have ec : ∀ v, a'.eval (.const v) = v := fun _ => rfl
            have ef : ∀ g, a'.eval (.func g) = .func (.func g) #[] #[] := fun _ => rfl
            clear hd hs
            refine wpv (v := .map (some B)) ?_ ⟨_, rfl, Grow.rfl' _, rfl⟩
            (generalize a'.eval = ev at ec ef e5 ⊢; simp [execOp, go_sem, *])
          · refine stepG_run hGg hBg hstab rfl ?_
            intro a' w' hg hs hd hb
            have e8 : a'.eval (.tmp 8) = .pointer (some ⟨P, 0, none⟩) := hs.rest 8 rfl
            have ec : ∀ v, a'.eval (.const v) = v := fun _ => rfl
            have ef : ∀ g, a'.eval (.func g) = .func (.func g) #[] #[] := fun _ => rfl
            have q0 := cell_grown hg.1 KX.out.1 hPB; have q1 := cell_grown hg.1 KX.out.2 hPB
            clear hd hs
            refine wpv (v := .agg #[.int .i64 x.k, .int .i64 x.v]) ?_ ⟨_, rfl, Grow.rfl' _, rfl⟩
            (generalize a'.eval = ev at ec ef e8 ⊢; simp [execOp, go_sem, *])
          · refine stepG_run hGg hBg hstab rfl ?_
            intro a' w' hg hs hd hb
            have e22 : a'.eval (.tmp 22) = .map (some B) := hd ⟨0, Ground.data⟩ (by simp) rfl rfl
            have e23 : a'.eval (.tmp 23) = .agg #[.int .i64 x.k, .int .i64 x.v] := hd ⟨1, Ground.data⟩ (by simp) rfl rfl
            have ec : ∀ v, a'.eval (.const v) = v := fun _ => rfl
            have ef : ∀ g, a'.eval (.func g) = .func (.func g) #[] #[] := fun _ => rfl
            have hl := hg.2.get HF.out; rw [← HC.out] at hl
            clear hd hs
            refine wpv (v := .int .i64 c) ?_ ⟨_, rfl, Grow.rfl' _, rfl⟩
            (generalize a'.eval = ev at ec ef e22 e23 ⊢; simp [execOp, go_sem, *])
          · refine stepG_run hGg hBg hstab rfl ?_
            intro a' w' hg hs hd hb
            have e24 : a'.eval (.tmp 24) = .int .i64 c := hd ⟨2, Ground.data⟩ (by simp) rfl rfl
            have ec : ∀ v, a'.eval (.const v) = v := fun _ => rfl
            have ef : ∀ g, a'.eval (.func g) = .func (.func g) #[] #[] := fun _ => rfl
            have hwr : IntKind.i64.wrap (c - 1) = c - 1 := IntWalk.i64_in _ ⟨by omega, by omega⟩
            clear hd hs
            refine wpv (v := .int .i64 (c - 1)) ?_ ⟨_, rfl, Grow.rfl' _, rfl⟩
            (generalize a'.eval = ev at ec ef e24 ⊢; simp [execOp, go_sem, *])
          · refine stepG_take rfl ?_
            intro a' w' hg hs hd hb
            have e22 : a'.eval (.tmp 22) = .map (some B) := hd ⟨0, Ground.data⟩ (by simp) rfl rfl
            have e23 : a'.eval (.tmp 23) = .agg #[.int .i64 x.k, .int .i64 x.v] := hd ⟨1, Ground.data⟩ (by simp) rfl rfl
            have ec : ∀ v, a'.eval (.const v) = v := fun _ => rfl
            have ef : ∀ g, a'.eval (.func g) = .func (.func g) #[] #[] := fun _ => rfl
            clear hd hs
            obtain ⟨v2, w2, hrun, hpred, hG2⟩ := MapF.entryG hg.1 (hb rfl) (by omega) HF.out
            refine wpv (v := v2) (w' := w2) ?_ ⟨_, rfl, hG2, hpred, ?_, fun h _ => absurd rfl h⟩
            rotate_left
            · intro j u hj h
              match j with
              | 0 => exact h
              | 1 => exact h
              | 2 => exact h
              | 3 => exact h
              | 4 => cases hj
              | 5 => cases hj
              | j + 6 => exact trivial
            · (generalize a'.eval = ev at ec ef e22 e23 ⊢; simp [execOp, go_sem, *])
          · refine stepG_run hGg hBg hstab rfl ?_
            intro a' w' hg hs hd hb
            obtain ⟨x26, st26, e26, n26⟩ : EntV B x (a'.eval (.tmp 26)) w' := hd ⟨4, Ground.data⟩ (by simp) rfl rfl
            have ec : ∀ v, a'.eval (.const v) = v := fun _ => rfl
            have ef : ∀ g, a'.eval (.func g) = .func (.func g) #[] #[] := fun _ => rfl
            clear hd hs
            skip
            refine wpv (v := .int .i64 (st26 : Int)) ?_ ⟨_, rfl, Grow.rfl' _, ⟨st26, rfl, n26⟩⟩
            (generalize a'.eval = ev at ec ef e26 ⊢; simp [execOp, go_sem, *])
        · intro a' w' hg hs hd
          have e22 : a'.eval (.tmp 22) = .map (some B) := hd 0 (by omega) rfl
          obtain ⟨st27, e27, n27⟩ : StV B x (a'.eval (.tmp 27)) w' := hd 5 (by omega) rfl
          have e25 : a'.eval (.tmp 25) = .int .i64 (c - 1) := hd 3 (by omega) rfl
          have ec : ∀ v, a'.eval (.const v) = v := fun _ => rfl
          have ef : ∀ g, a'.eval (.func g) = .func (.func g) #[] #[] := fun _ => rfl
          obtain ⟨w2', hrun, hM2, hG2⟩ := hg.2.storeG n27 (by omega) HF.out (n := c - 1) (by omega) (by omega)
          refine wps (w' := w2') ?_ ?_
          · (generalize a'.eval = ev at ec ef e22 e27 e25 ⊢; simp [execOp, go_sem, *])
          have G3 := hide (World.grownBy.trans GB.out (World.grownBy.trans hg.1 hG2))
          have O3 := hide (OB.out.turn hBs (World.grownBy.trans hg.1 hG2))
          have HPP := hide (pass_snoc (S.take k) f x)
          rw [← HFF.out, if_pos HP.out, if_pos HP.out, ← HX.out] at HPP
          have M4 := hide (show MapF w2' B (2 * m + 2 * (k + 1)) fun x => (passW (S.take (k + 1)) f x : Int) from hM2.ext fun t => by
            rw [HPP.out.2, HC.out, HGF.out]
            unfold putN passF
            by_cases e : t = x
            · subst e
              have := HP.out
              simp
              omega
            · simp [e])
          have O4 : Hid (OwnRV w2' w2.heap.size sl ml cl (passL (S.take (k + 1)) f)) := hide (by rw [HPP.out.1, List.append_nil]; exact O3.out)
          clear hM2 hG2 hrun e27 n27 e22 e25 ec ef hg HGG HBG HG0 HB0 hGg hBg hstab GB MB KX O3 OB HPP
          rw [frame_eq hs [false, false, false, false, false, false, false, false, false, false, false, false, false, false, false, false, false, false, false, false, false, false, true, true, true, true, true, true, false, false, false, false, false, false] (by kernel_rfl)]; simp only [mergeL]; clear hs hd; generalize a'.tmps = TT at *; try go_frame
          go_wp2_with fail
          go_roundw
          case rel => exact ⟨k + 1, sl, ml, cl, by omega, rfl, by go_num, G3.out, M4.out, O4.out⟩
          case measure => simp [intOf]; omega
      · have hc2 : c = 0 := by omega
        have HP : Hid (¬ 0 < F x) := hide (by have h1 : c = (F x : Int) := by rw [HC.out, HGF.out]
                                              omega)
        have HPP := hide (pass_snoc (S.take k) f x)
        rw [← HFF.out, if_neg HP.out, if_neg HP.out, ← HX.out] at HPP
        obtain ⟨q0, q1⟩ := KX.out
        have hsz2 : w2.heap.size ≤ (wr.alloc (.cells #[.int .i64 x.k, .int .i64 x.v] 24)).heap.size := GB.out.size
        have hz : (wr.alloc (.cells #[.int .i64 x.k, .int .i64 x.v] 24)).heap.size = wr.heap.size + 1 := by simp
        have R1 : Hid (IsRcs ((wr.alloc (.cells #[.int .i64 x.k, .int .i64 x.v] 24)).alloc (.cells #[.int .i64 x.k, .int .i64 x.v] 24)) (some ⟨wr.heap.size + 1, 0, none⟩) 1 1 [x]) := hide (by rw [← hz]; exact ⟨rfl, Nat.le_refl _, .inr ⟨_, _, rfl, RowR_one _ x⟩⟩)
        clear hz hsb
        go_wp2_with (at_builtin; refine wpList_apd_rc rfl _ _ rfl w2.heap.size sl ml cl (passL (S.take k) f) [x] rfl (OB.out.later (Grow.alloc' _ _)) (some ⟨wr.heap.size + 1, 0, none⟩) 1 1 rfl R1.out (by omega) (by simp at hsz2 ⊢; omega) ?_)
        intro s3 c3 w3 h3 gb
        have G3 := hide (grown_but2 (Nat.le_refl _) (grown_post GB.out (Grow.alloc' _ _)) gb)
        have M3' := hide (MapF.but hBs gb (MB.out.later (Grow.alloc' _ _)))
        have M4 : Hid (MapF w3 B (2 * m + 2 * (k + 1)) fun x => (passW (S.take (k + 1)) f x : Int)) := hide ((M3'.out.mono (by omega)).ext fun t => by rw [HPP.out.2, HGF.out])
        have O4 : Hid (OwnRV w3 w2.heap.size s3 (ml + 1) c3 (passL (S.take (k + 1)) f)) := hide (by rw [HPP.out.1]; exact h3)
        clear h3 gb M3' q0 q1 p0 p1 hl OB MB GB KX HPP
        go_wp2_with fail
        go_roundw
        case rel => exact ⟨k + 1, s3, ml + 1, c3, by omega, rfl, by go_num, G3.out, M4.out, O4.out⟩
        case measure => simp [intOf]; omega
    · have hkn : k = n := by omega
      have hall : S.take k = S := List.take_of_length_le (by rw [HL.out]; omega)
      have HR : Hid (passL (S.take k) f = mns d e) := hide (by rw [hall, HFe.out, HS.out]; exact passL_mns d e)
      clear hall
      subst hkn
      go_wp2_with fail
      go_ret
      refine ⟨sl, ml, cl, rfl, grow_turn G2.out HG.out HB.out, ?_⟩
      have := HO.out.is
      rwa [HR.out] at this

end Go.Proofs.Ytkmgbhehhdjmlaa
