/-
  What bag's numbers does to the world: of every row a new map that holds how often each record is in it; what was there stays as it was.
-/
import Derived.Test.YtkmgbhehhdjmlaaGMp
import Derived.Test.YtkmgbhehhdjmlaaGCon
namespace Go.Proofs.Ytkmgbhehhdjmlaa
set_option maxRecDepth 100000
open Go.RowKit
set_option linter.unusedVariables false
set_option linter.unusedSimpArgs false

theorem grown_of {w w' : World} (h : Grow w w') : w.grownBy w' none := ⟨h.os, h.tape, h.output, h.size, fun k hk _ => h.block k hk⟩
theorem grown_post {a b' c : World} {row : Option Nat} (h : a.grownBy b' row) (k : Grow b' c) : a.grownBy c row :=
  ⟨k.os.trans h.os, k.tape.trans h.tape, k.output.trans h.output, Nat.le_trans h.size k.size, fun i hi hne => (k.block i (Nat.lt_of_lt_of_le hi h.size)).trans (h.block i hi hne)⟩
theorem grown_but {a b' : World} {row : Option Nat} (h : Grow a b') : a.grownBy b' row := ⟨h.os, h.tape, h.output, h.size, fun k hk _ => h.block k hk⟩
theorem grow_turn {W a b' : World} {g : Nat} (h : Grow W a) (k : a.grownBy b' (some g)) (hg : W.heap.size ≤ g) : Grow W b' := Below.grown h k h.size (fun i e => by cases e; exact hg)
/-- A value has a stamp of an entry. -/
def EntV (b : Nat) (t : Rc) (v : Value) (w : World) : Prop := ∃ (x : Value) (st : Nat), v = .tuple #[x, .int .i64 (st : Int)] ∧ Ent w b t st
theorem EntV.later {b : Nat} {t : Rc} {v : Value} {w w' : World} (hg : Grow w w') : EntV b t v w → EntV b t v w' := fun ⟨x, st, e, h⟩ => ⟨x, st, e, h.later hg⟩
def StV (b : Nat) (t : Rc) (v : Value) (w : World) : Prop := ∃ (st : Nat), v = .int .i64 (st : Int) ∧ Ent w b t st
theorem StV.later {b : Nat} {t : Rc} {v : Value} {w w' : World} (hg : Grow w w') : StV b t v w → StV b t v w' := fun ⟨st, e, h⟩ => ⟨st, e, h.later hg⟩
theorem MapF.entryG {wb w : World} {b N : Nat} {f : Rc → Int} {t : Rc} (hg : wb.grownBy w (some b)) (h : MapF w b N f) (hN : N < 1000000000) (ht : RcWf t) :
    ∃ v2 w2, (Instr.mapEntry 44 (.map (some b)) (.agg #[.int .i64 t.k, .int .i64 t.v])).run Try.prog w = .ok v2 w2 ∧ EntV b t v2 w2 ∧ (wb.grownBy w2 (some b) ∧ MapF w2 b (N + 1) f) := by
  obtain ⟨v0, st, w2, h1, h2, h3, h4⟩ := h.entry hN ht
  exact ⟨_, w2, h1, ⟨v0, st, rfl, h3⟩, World.grownBy.trans hg h4, h2⟩
theorem MapF.storeG {w : World} {b N st : Nat} {f : Rc → Int} {t : Rc} {n : Int} (h : MapF w b N f) (hE : Ent w b t st) (hN : N < 1000000000) (ht : RcWf t) (h1 : -1000000000 ≤ n) (h2 : n ≤ 1000000000) :
    ∃ w', (Instr.entryStore 44 (.map (some b)) (.int .i64 (st : Int)) (.int .i64 n)).run Try.prog w = .ok () w' ∧ MapF w' b (N + 1) (putN f t n) ∧ w.grownBy w' (some b) :=
  h.store hE hN ht (WalkArith.wf_i64 ⟨by omega, by omega⟩)
theorem cell_grown {w w' : World} {row : Option Nat} {p : Nat} {off : Nat} {v : Value} (hg : w.grownBy w' row) (h : w.cell? ⟨p, off, none⟩ = some v) (hne : some p ≠ row) : w'.cell? ⟨p, off, none⟩ = some v := hg.cell h (fun e => hne e)

theorem make_map (n : Int) (w : World) : (Instr.makeMap 44 (some (.int .i64 n))).run Try.prog w = .ok (.map (some w.heap.size)) (w.alloc (.map #[] 0)) := by
  simp [Instr.makeMap, run_underlying Try.underlying44, asInt, asIntOf, newObj, go_sem]
  rfl
attribute [local go_sem ↓] make_map
set_option maxHeartbeats 2000000 in
theorem numbers_at (s : Option Addr) (n cap : Nat) (d : List Rc) (w : World) (hbig : n ≤ 1000000) (hwf : ∀ r ∈ d, RcWf r) (hd : IsRcs w s n cap d) :
    Calls Try.prog 31 #[.slice s n cap] w fun e w' => ∃ b, e = .returned (.map (some b)) ∧ Grow w w' ∧ w.heap.size ≤ b ∧ MapF w' b (2 * n) fun x => (d.count x : Int) := by
  have HI := hide hd
  have HW := hide hwf
  clear hd hwf
  go_enter Try.func31, Try.ntmps31
  go_wp2_with fail
  have G0 : Hid (Grow w (w.alloc (.map #[] 0))) := hide (Grow.alloc' _ _)
  have M0 : Hid (MapF (w.alloc (.map #[] 0)) w.heap.size 0 fun _ => 0) := hide (MapF.new w)
  obtain ⟨B, hB⟩ : ∃ B, B = w.heap.size := ⟨_, rfl⟩
  rw [← hB] at M0
  rw [← hB]
  have HB := hide hB
  clear hB
  go_loopw [11] (fun i wr => ∃ k : Nat, k ≤ n ∧ i = .int .i64 k ∧ Grow w wr ∧ MapF wr B (2 * k) fun x => ((d.take k).count x : Int)) (fun i _ => n - (intOf i).toNat)
  case atStart => exact ⟨0, Nat.zero_le _, rfl, G0.out, M0.out.ext fun t => by simp⟩
  case round =>
    obtain ⟨k, hk, rfl, hg, hM⟩ := hrel
    have HG := hide hg
    have HM := hide hM
    clear hM
    by_cases hlt : k < n
    · have hkd : k < d.length := by rw [HI.out.1]; exact hlt
      have hne : ¬ d = [] := fun h => by rw [h] at hkd; simp at hkd
      obtain ⟨b, o, rfl, hr1⟩ := HI.out.2.2.resolve_left hne
      obtain ⟨p0, p1⟩ := (hr1.later hg).at k hkd
      obtain ⟨x, hx⟩ : ∃ x, x = d[k] := ⟨_, rfl⟩
      rw [← hx] at p0 p1
      have hi1 : (0 : Int) ≤ (k : Int) := by omega
      have hi2 : (k : Int) < (n : Int) := by omega
      have HX : Hid (d.take (k + 1) = d.take k ++ [x]) := hide (by rw [hx, List.take_append_getElem])
      have HF : Hid (RcWf x) := hide (HW.out x (by rw [hx]; exact List.getElem_mem _))
      clear hne hr1 hx hkd
      clear hg
      go_wp2_with fail
      have KX : Hid (Box (wr.alloc (.cells #[.int .i64 x.k, .int .i64 x.v] 24)) wr.heap.size x) := hide (Box.new _ _)
      have GB : Hid (Grow w (wr.alloc (.cells #[.int .i64 x.k, .int .i64 x.v] 24))) := hide (Grow.trans' HG.out (Grow.alloc' _ _))
      have MB : Hid (MapF (wr.alloc (.cells #[.int .i64 x.k, .int .i64 x.v] 24)) B (2 * k) fun x => ((d.take k).count x : Int)) := hide (HM.out.later (Grow.alloc' _ _))
      obtain ⟨P, hP⟩ : ∃ P, P = wr.heap.size := ⟨_, rfl⟩
      rw [← hP] at KX
      rw [← hP]
      have hPB : (some P : Option Nat) ≠ some B := by
        intro e
        have := HM.out.lt
        simp at e
        omega
      obtain ⟨f, hf⟩ : ∃ f : Rc → Int, f = fun x => ((d.take k).count x : Int) := ⟨_, rfl⟩
      rw [← hf] at MB
      have HFF := hide hf
      obtain ⟨c, hc⟩ : ∃ c : Int, c = f x := ⟨_, rfl⟩
      have hc0 : 0 ≤ c := by rw [hc, hf]; exact Int.natCast_nonneg _
      have hc1 : c ≤ 1000000 := by
        rw [hc, hf]
        have h1 := List.count_le_length (a := x) (l := d.take k)
        rw [List.length_take] at h1
        have h2 : (d.take k).count x ≤ 1000000 := by omega
        exact Int.ofNat_le.2 h2
      have HC := hide hc
      clear hf hc HM hP
      clear p0 p1
      generalize wr.alloc (.cells #[.int .i64 x.k, .int .i64 x.v] 24) = wb at *
      have HGG : ∀ w1 w2, (wb.grownBy w1 (some B) ∧ MapF w1 B (2 * k + 1) f) → Grow w1 w2 → (wb.grownBy w2 (some B) ∧ MapF w2 B (2 * k + 1) f) := fun _ _ h q => ⟨grown_post h.1 q, h.2.later q⟩
      have HBG : ∀ w1 w2, Grow w1 w2 → MapF w1 B (2 * k) f → MapF w2 B (2 * k) f := fun _ _ q h => h.later q
      have HG0 : ∀ w', Grow wb w' → w'.heap = wb.heap → (wb.grownBy w' (some B) ∧ MapF w' B (2 * k + 1) f) := fun _ h _ => ⟨grown_but h, (MB.out.later h).mono (by omega)⟩
      have HB0 : ∀ w', Grow wb w' → w'.heap = wb.heap → MapF w' B (2 * k) f := fun _ h _ => MB.out.later h
      let FF : Nat → Value → World → Prop := fun i vF wF => match i with | 0 => vF = .map (some B) | 1 => vF = .agg #[.int .i64 x.k, .int .i64 x.v] | 2 => vF = .int .i64 c | 3 => vF = .int .i64 (c + 1) | 4 => EntV B x vF wF | 5 => StV B x vF wF | _ => True
      let GG : World → Prop := fun w' => wb.grownBy w' (some B) ∧ MapF w' B (2 * k + 1) f
      let BB : World → Prop := fun w' => MapF w' B (2 * k) f
      have hstab : ∀ k v w1 w2, Grow w1 w2 → FF k v w1 → FF k v w2 := by
        intro k v w1 w2 hg h
        match k with
        | 0 => exact h
        | 1 => exact h
        | 2 => exact h
        | 3 => exact h
        | 4 => exact EntV.later hg h
        | 5 => exact StV.later hg h
        | k + 6 => exact trivial
      have hGg : ∀ w1 w2, GG w1 → Grow w1 w2 → GG w2 := HGG
      have hBg : ∀ w1 w2, Grow w1 w2 → BB w1 → BB w2 := HBG
      refine wp_region_endG FF GG BB (fun _ => none) 4 6 _ rfl rfl rfl (by kernel_rfl) (by kernel_rfl) HG0 HB0 ?_ ?_
      · refine ⟨?_, ?_, ?_, ?_, ?_, ?_, trivial⟩
        · refine stepG_run hGg hBg hstab rfl ?_
          intro a' w' hg hs hd hb
          have e3 : a'.eval (.tmp 3) = .map (some B) := hs.rest 3 rfl
          have ec : ∀ v, a'.eval (.const v) = v := fun _ => rfl
          have ef : ∀ g, a'.eval (.func g) = .func (.func g) #[] #[] := fun _ => rfl
          clear hd hs
          refine wpv (v := .map (some B)) ?_ ⟨_, rfl, Grow.rfl' _, rfl⟩
          (generalize a'.eval = ev at ec ef e3 ⊢; simp [execOp, go_sem, *])
        · refine stepG_run hGg hBg hstab rfl ?_
          intro a' w' hg hs hd hb
          have e5 : a'.eval (.tmp 5) = .pointer (some ⟨P, 0, none⟩) := hs.rest 5 rfl
          have ec : ∀ v, a'.eval (.const v) = v := fun _ => rfl
          have ef : ∀ g, a'.eval (.func g) = .func (.func g) #[] #[] := fun _ => rfl
          have q0 := cell_grown hg.1 KX.out.1 hPB; have q1 := cell_grown hg.1 KX.out.2 hPB
          clear hd hs
          refine wpv (v := .agg #[.int .i64 x.k, .int .i64 x.v]) ?_ ⟨_, rfl, Grow.rfl' _, rfl⟩
          (generalize a'.eval = ev at ec ef e5 ⊢; simp [execOp, go_sem, *])
        · refine stepG_run hGg hBg hstab rfl ?_
          intro a' w' hg hs hd hb
          have e15 : a'.eval (.tmp 15) = .map (some B) := hd ⟨0, Ground.data⟩ (by simp) rfl rfl
          have e16 : a'.eval (.tmp 16) = .agg #[.int .i64 x.k, .int .i64 x.v] := hd ⟨1, Ground.data⟩ (by simp) rfl rfl
          have ec : ∀ v, a'.eval (.const v) = v := fun _ => rfl
          have ef : ∀ g, a'.eval (.func g) = .func (.func g) #[] #[] := fun _ => rfl
          have hl := hg.2.get HF.out; rw [← HC.out] at hl
          clear hd hs
          refine wpv (v := .int .i64 c) ?_ ⟨_, rfl, Grow.rfl' _, rfl⟩
          (generalize a'.eval = ev at ec ef e15 e16 ⊢; simp [execOp, go_sem, *])
        · refine stepG_run hGg hBg hstab rfl ?_
          intro a' w' hg hs hd hb
          have e17 : a'.eval (.tmp 17) = .int .i64 c := hd ⟨2, Ground.data⟩ (by simp) rfl rfl
          have ec : ∀ v, a'.eval (.const v) = v := fun _ => rfl
          have ef : ∀ g, a'.eval (.func g) = .func (.func g) #[] #[] := fun _ => rfl
          have hwr : IntKind.i64.wrap (c + 1) = c + 1 := IntWalk.i64_in _ ⟨by omega, by omega⟩
          clear hd hs
          refine wpv (v := .int .i64 (c + 1)) ?_ ⟨_, rfl, Grow.rfl' _, rfl⟩
          (generalize a'.eval = ev at ec ef e17 ⊢; simp [execOp, go_sem, *])
        · refine stepG_take rfl ?_
          intro a' w' hg hs hd hb
          have e15 : a'.eval (.tmp 15) = .map (some B) := hd ⟨0, Ground.data⟩ (by simp) rfl rfl
          have e16 : a'.eval (.tmp 16) = .agg #[.int .i64 x.k, .int .i64 x.v] := hd ⟨1, Ground.data⟩ (by simp) rfl rfl
          have ec : ∀ v, a'.eval (.const v) = v := fun _ => rfl
          have ef : ∀ g, a'.eval (.func g) = .func (.func g) #[] #[] := fun _ => rfl
          clear hd hs
          obtain ⟨v2, w2, hrun, hpred, hG2⟩ := MapF.entryG hg.1 (hb rfl) (by omega) HF.out
          refine wpv (v := v2) (w' := w2) ?_ ⟨_, rfl, hG2, hpred, ?_, fun h _ => absurd rfl h⟩
          rotate_left
          · intro j u hj h
            match j with
            | 0 => exact h
            | 1 => exact h
            | 2 => exact h
            | 3 => exact h
            | 4 => cases hj
            | 5 => cases hj
            | j + 6 => exact trivial
          · (generalize a'.eval = ev at ec ef e15 e16 ⊢; simp [execOp, go_sem, *])
        · refine stepG_run hGg hBg hstab rfl ?_
          intro a' w' hg hs hd hb
          obtain ⟨x19, st19, e19, n19⟩ : EntV B x (a'.eval (.tmp 19)) w' := hd ⟨4, Ground.data⟩ (by simp) rfl rfl
          have ec : ∀ v, a'.eval (.const v) = v := fun _ => rfl
          have ef : ∀ g, a'.eval (.func g) = .func (.func g) #[] #[] := fun _ => rfl
          clear hd hs
          skip
          refine wpv (v := .int .i64 (st19 : Int)) ?_ ⟨_, rfl, Grow.rfl' _, ⟨st19, rfl, n19⟩⟩
          (generalize a'.eval = ev at ec ef e19 ⊢; simp [execOp, go_sem, *])
      · intro a' w' hg hs hd
        have e15 : a'.eval (.tmp 15) = .map (some B) := hd 0 (by omega) rfl
        obtain ⟨st20, e20, n20⟩ : StV B x (a'.eval (.tmp 20)) w' := hd 5 (by omega) rfl
        have e18 : a'.eval (.tmp 18) = .int .i64 (c + 1) := hd 3 (by omega) rfl
        have ec : ∀ v, a'.eval (.const v) = v := fun _ => rfl
        have ef : ∀ g, a'.eval (.func g) = .func (.func g) #[] #[] := fun _ => rfl
        obtain ⟨w2, hrun, hM2, hG2⟩ := hg.2.storeG n20 (by omega) HF.out (n := c + 1) (by omega) (by omega)
        refine wps (w' := w2) ?_ ?_
        · (generalize a'.eval = ev at ec ef e15 e20 e18 ⊢; simp [execOp, go_sem, *])
        have G2 := hide (grow_turn GB.out (World.grownBy.trans hg.1 hG2) (by rw [HB.out]; exact Nat.le_refl _))
        have M2 := hide (show MapF w2 B (2 * (k + 1)) fun x => ((d.take (k + 1)).count x : Int) from hM2.ext fun t => by
          rw [HX.out, List.count_append, HC.out, HFF.out]
          unfold putN
          by_cases e : t = x
          · subst e; simp
          · simp [e, Ne.symm e])
        clear hM2 hG2 hrun e20 n20 e15 e18 ec ef hg HGG HBG HG0 HB0 hGg hBg hstab GB MB KX
        rw [frame_eq hs [false, false, false, false, false, false, false, false, false, false, false, false, false, false, false, true, true, true, true, true, true, false, false] (by kernel_rfl)]; simp only [mergeL]; clear hs hd; generalize a'.tmps = TT at *; try go_frame
        go_wp2_with fail
        go_roundw
        case rel => exact ⟨k + 1, by omega, by go_num, G2.out, M2.out⟩
        case measure => simp [intOf]; omega
    · have hkn : k = n := by omega
      subst hkn
      go_wp2_with fail
      go_ret
      refine ⟨B, rfl, HG.out, by rw [HB.out]; exact Nat.le_refl _, HM.out.ext fun t => ?_⟩
      rw [List.take_of_length_le (by rw [HI.out.1]; exact Nat.le_refl _)]

end Go.Proofs.Ytkmgbhehhdjmlaa
