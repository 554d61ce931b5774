/-
  What the laws' own low does to the world: of every row the same records with values of 30 bits, in a row of its own; what was there stays as it was.
-/
import Derived.Test.YthkkjhjbojbbaaaFRed
import Derived.Test.YthkkjhjbojbbaaaFPl2
namespace Go.Proofs.Ythkkjhjbojbbaaa
set_option maxRecDepth 100000
open Go.RowKit Go.Sort
set_option linter.unusedVariables false
set_option linter.unusedSimpArgs false

def lowC (r : Rc) : Rc := ⟨r.k, Int.tmod r.v 1073741824⟩
def lowR (d : List Rc) : List Rc := d.map lowC
theorem lowR_low (d : List Rc) : Low (lowR d) := fun r hr => by
  obtain ⟨s, _, rfl⟩ := List.mem_map.1 hr
  have := tmod_in (x := s.v) (b := 1073741824) (by omega)
  show -1073741824 ≤ Int.tmod s.v 1073741824 ∧ Int.tmod s.v 1073741824 ≤ 1073741824
  omega
theorem lowR_len (d : List Rc) : (lowR d).length = d.length := List.length_map _
theorem lowR_may {d : List Rc} (h : ∀ r ∈ d, mayR r = true) : ∀ r ∈ lowR d, mayR r = true := fun r hr => by
  have hl := lowR_low d r hr
  obtain ⟨s, hs, rfl⟩ := List.mem_map.1 hr
  have h1 := (mayR_iff s).1 (h s hs)
  rw [mayR_iff]
  exact ⟨h1.1, by omega⟩
theorem low_step (d : List Rc) (k : Nat) (hk : k < d.length) : lowR (d.take (k + 1)) = lowR (d.take k) ++ [⟨(d[k]).k, Int.tmod (d[k]).v 1073741824⟩] := by
  unfold lowR
  rw [← List.take_append_getElem hk, List.map_append]
  rfl
set_option maxHeartbeats 4000000 in
theorem low_at (s : Option Addr) (n cap : Nat) (d : List Rc) (w : World) (hbig : n ≤ 100000) (hd : IsRcs w s n cap d) :
    Calls Try.prog 28 #[.slice s n cap] w fun e w' => ∃ s2 c2, e = .returned (.slice s2 n c2) ∧ Grow w w' ∧ IsRcs w' s2 n c2 (lowR d) := by
  have HI := hide hd
  have G0 : Hid (Grow w (w.alloc (.cells #[] 23))) := hide (Grow.alloc' _ _)
  have O0 : Hid (OwnRV (w.alloc (.cells #[] 23)) w.heap.size (some ⟨w.heap.size, 0, none⟩) 0 0 []) := hide (.of (OwnR.lit0 w _ (Nat.le_refl _)) rfl)
  clear hd
  go_enter Try.func28, Try.ntmps28
  go_wp2_with fail
  go_loopw [3, 4] (fun v i wr => ∃ (k : Nat) (sl : Option Addr) (cl : Nat), k ≤ n ∧ v = .slice sl k cl ∧ i = .int .i64 k ∧ Grow w wr ∧ OwnRV wr w.heap.size sl k cl (lowR (d.take k))) (fun _ i _ => n - (intOf i).toNat)
  case atStart => exact ⟨0, _, 0, Nat.zero_le _, rfl, rfl, G0.out, O0.out⟩
  case round =>
    obtain ⟨k, sl, cl, hk, rfl, rfl, hg, hO⟩ := hrel
    have HG := hide hg
    have HO := hide hO
    clear hO
    by_cases hlt : k < n
    · have hkd : k < d.length := by rw [HI.out.1]; exact hlt
      have hne : ¬ d = [] := fun h => by rw [h] at hkd; simp at hkd
      obtain ⟨b, o, rfl, hr1⟩ := HI.out.2.2.resolve_left hne
      obtain ⟨P0, P1⟩ := hr1.at k hkd
      have HST := hide (low_step d k hkd)
      obtain ⟨x, hx⟩ : ∃ x, x = d[k] := ⟨_, rfl⟩
      rw [← hx] at P0 P1 HST
      have PK := hide P0
      have PV := hide P1
      obtain ⟨z, hz⟩ : ∃ z, z = Int.tmod x.v 1073741824 := ⟨_, rfl⟩
      rw [← hz] at HST
      obtain ⟨T, hT⟩ : ∃ T, T = lowR (d.take k) := ⟨_, rfl⟩
      rw [← hT] at HST HO
      have hi1 : (0 : Int) ≤ (k : Int) := by omega
      have hi2 : (k : Int) < (n : Int) := by omega
      have HZ := hide hz.symm
      clear hne hr1 hx hkd hg P0 P1 hz hT
      go_wp2_with fail
      have HGG : ∀ wa wb, Grow w wa → Grow wa wb → Grow w wb := fun _ _ h q => Grow.trans' h q
      have HBG : ∀ wa wb, Grow wa wb → OwnRV wa w.heap.size sl k cl T → OwnRV wb w.heap.size sl k cl T := fun _ _ q h => h.later q
      have HG0 : ∀ w', Grow wr w' → w'.heap = wr.heap → Grow w w' := fun _ h _ => Grow.trans' HG.out h
      have HB0 : ∀ w', Grow wr w' → w'.heap = wr.heap → OwnRV w' w.heap.size sl k cl T := fun _ h _ => HO.out.later h
      let FF : Nat → Value → World → Prop := fun i vF wF => match i with | 0 => vF = .slice sl k cl | 1 => vF = .slice (some ⟨b, o, none⟩) n cap | 2 => vF = .int .i64 (k : Int) | 3 => vF = .pointer (some ⟨b, o + k * 2, none⟩) | 4 => vF = .pointer (some ⟨b, o + k * 2, none⟩) | 5 => vF = .int .i64 x.k | 6 => vF = .slice (some ⟨b, o, none⟩) n cap | 7 => vF = .int .i64 (k : Int) | 8 => vF = .pointer (some ⟨b, o + k * 2, none⟩) | 9 => vF = .pointer (some ⟨b, o + k * 2 + 1, none⟩) | 10 => vF = .int .i64 x.v | 11 => vF = .int .i64 z | 12 => vF = .agg #[.int .i64 (⟨x.k, z⟩ : Rc).k, .int .i64 (⟨x.k, z⟩ : Rc).v] | 13 => OneR ⟨x.k, z⟩ vF wF | 14 => AppF w.heap.size (k + 1) (T ++ [⟨x.k, z⟩]) vF wF | _ => True
      let GG : World → Prop := fun w' => Grow w w'
      let BB : World → Prop := fun w' => OwnRV w' w.heap.size sl k cl T
      have hstab : ∀ k v w1 w2, Grow w1 w2 → FF k v w1 → FF k v w2 := by
        intro k v w1 w2 hg h
        match k with
        | 0 => exact h
        | 1 => exact h
        | 2 => exact h
        | 3 => exact h
        | 4 => exact h
        | 5 => exact h
        | 6 => exact h
        | 7 => exact h
        | 8 => exact h
        | 9 => exact h
        | 10 => exact h
        | 11 => exact h
        | 12 => exact h
        | 13 => exact OneR.later hg h
        | 14 => exact AppF.later hg h
        | k + 15 => exact trivial
      have hGg : ∀ w1 w2, GG w1 → Grow w1 w2 → GG w2 := HGG
      have hBg : ∀ w1 w2, Grow w1 w2 → BB w1 → BB w2 := HBG
      refine wp_region_endG FF GG BB (fun i => match i with | 13 => some 14 | _ => none) 14 15 _ rfl rfl rfl (by kernel_rfl) (by kernel_rfl) HG0 HB0 ?_ ?_
      · refine ⟨?_, ?_, ?_, ?_, ?_, ?_, ?_, ?_, ?_, ?_, ?_, ?_, ?_, ?_, ?_, trivial⟩
        · refine stepG_run hGg hBg hstab rfl ?_
          intro a' w' hg hs hd hb
          have e3 : a'.eval (.tmp 3) = .slice sl k cl := hs.rest 3 rfl
          have ec : ∀ v, a'.eval (.const v) = v := fun _ => rfl
          have ef : ∀ g, a'.eval (.func g) = .func (.func g) #[] #[] := fun _ => rfl
          clear hd hs
          refine wpv (v := .slice sl k cl) ?_ ⟨_, rfl, Grow.rfl' _, rfl⟩
          (generalize a'.eval = ev at ec ef e3 ⊢; simp [execOp, go_sem, *])
        · refine stepG_run hGg hBg hstab rfl ?_
          intro a' w' hg hs hd hb
          have e0 : a'.eval (.tmp 0) = .slice (some ⟨b, o, none⟩) n cap := hs.rest 0 rfl
          have ec : ∀ v, a'.eval (.const v) = v := fun _ => rfl
          have ef : ∀ g, a'.eval (.func g) = .func (.func g) #[] #[] := fun _ => rfl
          clear hd hs
          refine wpv (v := .slice (some ⟨b, o, none⟩) n cap) ?_ ⟨_, rfl, Grow.rfl' _, rfl⟩
          (generalize a'.eval = ev at ec ef e0 ⊢; simp [execOp, go_sem, *])
        · refine stepG_run hGg hBg hstab rfl ?_
          intro a' w' hg hs hd hb
          have e4 : a'.eval (.tmp 4) = .int .i64 (k : Int) := hs.rest 4 rfl
          have ec : ∀ v, a'.eval (.const v) = v := fun _ => rfl
          have ef : ∀ g, a'.eval (.func g) = .func (.func g) #[] #[] := fun _ => rfl
          clear hd hs
          refine wpv (v := .int .i64 (k : Int)) ?_ ⟨_, rfl, Grow.rfl' _, rfl⟩
          (generalize a'.eval = ev at ec ef e4 ⊢; simp [execOp, go_sem, *])
        · refine stepG_run hGg hBg hstab rfl ?_
          intro a' w' hg hs hd hb
          have e13 : a'.eval (.tmp 13) = .slice (some ⟨b, o, none⟩) n cap := hd ⟨1, Ground.data⟩ (by simp) rfl rfl
          have e14 : a'.eval (.tmp 14) = .int .i64 (k : Int) := hd ⟨2, Ground.data⟩ (by simp) rfl rfl
          have ec : ∀ v, a'.eval (.const v) = v := fun _ => rfl
          have ef : ∀ g, a'.eval (.func g) = .func (.func g) #[] #[] := fun _ => rfl
          clear hd hs
          refine wpv (v := .pointer (some ⟨b, o + k * 2, none⟩)) ?_ ⟨_, rfl, Grow.rfl' _, rfl⟩
          (generalize a'.eval = ev at ec ef e13 e14 ⊢; simp [execOp, go_sem, *])
        · refine stepG_run hGg hBg hstab rfl ?_
          intro a' w' hg hs hd hb
          have e15 : a'.eval (.tmp 15) = .pointer (some ⟨b, o + k * 2, none⟩) := hd ⟨3, Ground.data⟩ (by simp) rfl rfl
          have ec : ∀ v, a'.eval (.const v) = v := fun _ => rfl
          have ef : ∀ g, a'.eval (.func g) = .func (.func g) #[] #[] := fun _ => rfl
          clear hd hs
          refine wpv (v := .pointer (some ⟨b, o + k * 2, none⟩)) ?_ ⟨_, rfl, Grow.rfl' _, rfl⟩
          (generalize a'.eval = ev at ec ef e15 ⊢; simp [execOp, go_sem, *])
        · refine stepG_run hGg hBg hstab rfl ?_
          intro a' w' hg hs hd hb
          have e16 : a'.eval (.tmp 16) = .pointer (some ⟨b, o + k * 2, none⟩) := hd ⟨4, Ground.data⟩ (by simp) rfl rfl
          have ec : ∀ v, a'.eval (.const v) = v := fun _ => rfl
          have ef : ∀ g, a'.eval (.func g) = .func (.func g) #[] #[] := fun _ => rfl
          have p0 := cell_later hg PK.out
          clear hd hs
          refine wpv (v := .int .i64 x.k) ?_ ⟨_, rfl, Grow.rfl' _, rfl⟩
          (generalize a'.eval = ev at ec ef e16 ⊢; simp [execOp, go_sem, *])
        · refine stepG_run hGg hBg hstab rfl ?_
          intro a' w' hg hs hd hb
          have e0 : a'.eval (.tmp 0) = .slice (some ⟨b, o, none⟩) n cap := hs.rest 0 rfl
          have ec : ∀ v, a'.eval (.const v) = v := fun _ => rfl
          have ef : ∀ g, a'.eval (.func g) = .func (.func g) #[] #[] := fun _ => rfl
          clear hd hs
          refine wpv (v := .slice (some ⟨b, o, none⟩) n cap) ?_ ⟨_, rfl, Grow.rfl' _, rfl⟩
          (generalize a'.eval = ev at ec ef e0 ⊢; simp [execOp, go_sem, *])
        · refine stepG_run hGg hBg hstab rfl ?_
          intro a' w' hg hs hd hb
          have e4 : a'.eval (.tmp 4) = .int .i64 (k : Int) := hs.rest 4 rfl
          have ec : ∀ v, a'.eval (.const v) = v := fun _ => rfl
          have ef : ∀ g, a'.eval (.func g) = .func (.func g) #[] #[] := fun _ => rfl
          clear hd hs
          refine wpv (v := .int .i64 (k : Int)) ?_ ⟨_, rfl, Grow.rfl' _, rfl⟩
          (generalize a'.eval = ev at ec ef e4 ⊢; simp [execOp, go_sem, *])
        · refine stepG_run hGg hBg hstab rfl ?_
          intro a' w' hg hs hd hb
          have e18 : a'.eval (.tmp 18) = .slice (some ⟨b, o, none⟩) n cap := hd ⟨6, Ground.data⟩ (by simp) rfl rfl
          have e19 : a'.eval (.tmp 19) = .int .i64 (k : Int) := hd ⟨7, Ground.data⟩ (by simp) rfl rfl
          have ec : ∀ v, a'.eval (.const v) = v := fun _ => rfl
          have ef : ∀ g, a'.eval (.func g) = .func (.func g) #[] #[] := fun _ => rfl
          clear hd hs
          refine wpv (v := .pointer (some ⟨b, o + k * 2, none⟩)) ?_ ⟨_, rfl, Grow.rfl' _, rfl⟩
          (generalize a'.eval = ev at ec ef e18 e19 ⊢; simp [execOp, go_sem, *])
        · refine stepG_run hGg hBg hstab rfl ?_
          intro a' w' hg hs hd hb
          have e20 : a'.eval (.tmp 20) = .pointer (some ⟨b, o + k * 2, none⟩) := hd ⟨8, Ground.data⟩ (by simp) rfl rfl
          have ec : ∀ v, a'.eval (.const v) = v := fun _ => rfl
          have ef : ∀ g, a'.eval (.func g) = .func (.func g) #[] #[] := fun _ => rfl
          clear hd hs
          refine wpv (v := .pointer (some ⟨b, o + k * 2 + 1, none⟩)) ?_ ⟨_, rfl, Grow.rfl' _, rfl⟩
          (generalize a'.eval = ev at ec ef e20 ⊢; simp [execOp, go_sem, *])
        · refine stepG_run hGg hBg hstab rfl ?_
          intro a' w' hg hs hd hb
          have e21 : a'.eval (.tmp 21) = .pointer (some ⟨b, o + k * 2 + 1, none⟩) := hd ⟨9, Ground.data⟩ (by simp) rfl rfl
          have ec : ∀ v, a'.eval (.const v) = v := fun _ => rfl
          have ef : ∀ g, a'.eval (.func g) = .func (.func g) #[] #[] := fun _ => rfl
          have p1 := cell_later hg PV.out
          clear hd hs
          refine wpv (v := .int .i64 x.v) ?_ ⟨_, rfl, Grow.rfl' _, rfl⟩
          (generalize a'.eval = ev at ec ef e21 ⊢; simp [execOp, go_sem, *])
        · refine stepG_run hGg hBg hstab rfl ?_
          intro a' w' hg hs hd hb
          have e22 : a'.eval (.tmp 22) = .int .i64 x.v := hd ⟨10, Ground.data⟩ (by simp) rfl rfl
          have ec : ∀ v, a'.eval (.const v) = v := fun _ => rfl
          have ef : ∀ g, a'.eval (.func g) = .func (.func g) #[] #[] := fun _ => rfl
          have hz := HZ.out
          clear hd hs
          refine wpv (v := .int .i64 z) ?_ ⟨_, rfl, Grow.rfl' _, rfl⟩
          (generalize a'.eval = ev at ec ef e22 ⊢; simp [execOp, go_sem, *])
        · refine stepG_run hGg hBg hstab rfl ?_
          intro a' w' hg hs hd hb
          have e17 : a'.eval (.tmp 17) = .int .i64 x.k := hd ⟨5, Ground.data⟩ (by simp) rfl rfl
          have e23 : a'.eval (.tmp 23) = .int .i64 z := hd ⟨11, Ground.data⟩ (by simp) rfl rfl
          have ec : ∀ v, a'.eval (.const v) = v := fun _ => rfl
          have ef : ∀ g, a'.eval (.func g) = .func (.func g) #[] #[] := fun _ => rfl
          clear hd hs
          refine wpv (v := .agg #[.int .i64 (⟨x.k, z⟩ : Rc).k, .int .i64 (⟨x.k, z⟩ : Rc).v]) ?_ ⟨_, rfl, Grow.rfl' _, rfl⟩
          (generalize a'.eval = ev at ec ef e17 e23 ⊢; simp [execOp, go_sem, *])
        · refine stepG_run hGg hBg hstab rfl ?_
          intro a' w' hg hs hd hb
          have e24 : a'.eval (.tmp 24) = .agg #[.int .i64 (⟨x.k, z⟩ : Rc).k, .int .i64 (⟨x.k, z⟩ : Rc).v] := hd ⟨12, Ground.data⟩ (by simp) rfl rfl
          have ec : ∀ v, a'.eval (.const v) = v := fun _ => rfl
          have ef : ∀ g, a'.eval (.func g) = .func (.func g) #[] #[] := fun _ => rfl
          clear hd hs
          refine wpv (v := .slice (some ⟨w'.heap.size, 0, none⟩) 1 1) (w' := w'.alloc (.cells #[.int .i64 x.k, .int .i64 z] 23)) ?_ ⟨_, rfl, Grow.alloc' _ _, oneR_new w' ⟨x.k, z⟩⟩
          (generalize a'.eval = ev at ec ef e24 ⊢; simp [execOp, go_sem, *])
        · refine stepG_take rfl ?_
          intro a' w' hg hs hd hb
          have e12 : a'.eval (.tmp 12) = .slice sl k cl := hd ⟨0, Ground.data⟩ (by simp) rfl rfl
          obtain ⟨g25, e25, h25⟩ : OneR ⟨x.k, z⟩ (a'.eval (.tmp 25)) w' := hd ⟨13, Ground.data⟩ (by simp) rfl rfl
          have ec : ∀ v, a'.eval (.const v) = v := fun _ => rfl
          have ef : ∀ g, a'.eval (.func g) = .func (.func g) #[] #[] := fun _ => rfl
          clear hd hs
          obtain ⟨s2, c2, w2, hrun, hown, hgr, hlie⟩ := run_apF hg 30 sl k cl T [⟨x.k, z⟩] (hb rfl) (some ⟨g25, 0, none⟩) 1 1 h25 (by omega)
          refine wpv (v := .slice s2 _ c2) (w' := w2) ?_ ⟨_, rfl, hgr, ⟨s2, c2, rfl, hown, hlie⟩, ?_, fun h _ => absurd rfl h⟩
          rotate_left
          · intro j u hj h
            match j with
            | 0 => exact h
            | 1 => exact h
            | 2 => exact h
            | 3 => exact h
            | 4 => exact h
            | 5 => exact h
            | 6 => exact h
            | 7 => exact h
            | 8 => exact h
            | 9 => exact h
            | 10 => exact h
            | 11 => exact h
            | 12 => exact h
            | 13 => cases hj
            | 14 => cases hj
            | j + 15 => exact trivial
          · unfold execOp; simp only [resolve, invoke, builtin, Sem.run_bind, Sem.run_pure, Result.andThen_ok, List.map_toArray, List.map_cons, List.map_nil, e12, e25, hrun]
      · intro a' w' hg hs hd
        obtain ⟨sa26, ca26, e26, h26, t26⟩ : AppF w.heap.size (k + 1) (T ++ [⟨x.k, z⟩]) (a'.eval (.tmp 26)) w' := hd 14 (by omega) rfl
        have ec : ∀ v, a'.eval (.const v) = v := fun _ => rfl
        have ef : ∀ g, a'.eval (.func g) = .func (.func g) #[] #[] := fun _ => rfl
        have HF := hide h26
        have HG3 := hide hg
        refine wpv (v := .slice sa26 (k + 1) ca26) (w' := w') ?_ ?_
        · (generalize a'.eval = ev at ec ef e26 ⊢; simp [execOp, go_sem, *])
        clear h26 t26 e26 ec ef hg HGG HBG HG0 HB0 hGg hBg hstab
        rw [frame_eq hs [false, false, false, true, false, false, false, false, false, false, false, false, true, true, true, true, true, true, true, true, true, true, true, true, true, true, true, false] (by kernel_rfl)]; simp only [mergeL]; clear hs hd; generalize a'.tmps = TT at *; try go_frame
        go_wp2_with fail
        go_roundw
        case rel => exact ⟨k + 1, sa26, ca26, by omega, rfl, by go_num, HG3.out, by rw [HST.out]; exact HF.out⟩
        case measure => simp [intOf]; omega
    · have hkn : k = n := by omega
      have HA : Hid (d.take k = d) := hide (List.take_of_length_le (by rw [HI.out.1]; omega))
      rw [HA.out] at HO
      subst hkn
      clear hg
      go_wp2_with fail
      go_ret
      exact ⟨sl, cl, rfl, HG.out, HO.out.is⟩

end Go.Proofs.Ythkkjhjbojbbaaa
