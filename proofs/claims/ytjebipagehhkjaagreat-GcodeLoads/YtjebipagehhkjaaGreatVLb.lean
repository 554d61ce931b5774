/-
  What valid.leadsBack does to the world: of every graph whose edges lead from nodes to nodes it tells whether there is a way from a node back to it, through nodes only that may be passed; what was there stays as it was.
-/
import Derived.Test.YtjebipagehhkjaaGreatVPs
import Derived.Test.YtjebipagehhkjaaGreatVRw
import Derived.Test.YtjebipagehhkjaaGreatEndG
import Derived.WalkMore
import Derived.Deep.LoopGhost
namespace Go.Proofs.YtjebipagehhkjaaGreat
set_option maxRecDepth 100000
open Go.RowKit Go.Sort
set_option linter.unusedVariables false
set_option linter.unusedSimpArgs false
attribute [local go_sem ↓] make_bool

def intsN (W : List Nat) : List Int := W.map fun (x : Nat) => (x : Int)
theorem intsN_app (W : List Nat) (t : Nat) : intsN (W ++ [t]) = intsN W ++ [(t : Int)] := by simp [intsN]
theorem intsN_len (W : List Nat) : (intsN W).length = W.length := by simp [intsN]
set_option maxHeartbeats 8000000 in
theorem leads_raw (gs : Option Addr) (gn gc : Nat) (gt : Option Addr) (gm gq : Nat) (N : List Nd) (E : List Ed) (v : Nat) (own : Int) (bg bo : Nat) (w : World) (hn : gn ≤ 20) (hm : gm ≤ 40) (hv : v < N.length) (hin : InN N E) (hG : BoxG w bg ⟨gs, gn, gc, gt, gm, gq, [], []⟩) (ho : w.cell? ⟨bo, 0, none⟩ = some (.int .i64 own)) (hg : IsNds w gs gn gc N) (he : IsEds w gt gm gq E) :
    Calls Tryz.prog 85 #[.agg #[.slice gs gn gc, .slice gt gm gq], .int .i64 (v : Int), .func (.func 84) #[] #[.pointer (some ⟨bg, 0, none⟩), .pointer (some ⟨bo, 0, none⟩)]] w fun e w' => (∃ r : Bool, e = .returned (.bool r) ∧ (r = true ↔ Tr N E own v v)) ∧ Grow w w' := by
  have HIN := hide hin
  have HV := hide hv
  have HM := hide hm
  have hN : N.length = gn := hg.1
  have GG : Hid (Grow w (w.alloc (.cells #[.slice gs gn gc, .slice gt gm gq] 27))) := hide (Grow.alloc' _ _)
  have KG : Hid (BoxG (w.alloc (.cells #[.slice gs gn gc, .slice gt gm gq] 27)) w.heap.size ⟨gs, gn, gc, gt, gm, gq, [], []⟩) := hide (BoxG.new w ⟨gs, gn, gc, gt, gm, gq, [], []⟩)
  have HG := hide (hG.later GG.out)
  have HO := hide (cell_later GG.out ho)
  have HN := hide (hg.later GG.out)
  have HE := hide (he.later GG.out)
  have HGL : Hid (bg < w.heap.size ∧ bo < w.heap.size) := hide ⟨hG.lt, World.block_lt_of_cell? _ _ ho⟩
  clear hin hv hm hG ho hg he
  go_enter Tryz.func85, Tryz.ntmps85
  go_wp2_with fail
  go_step3
  generalize (w.alloc (.cells #[.slice gs gn gc, .slice gt gm gq] 27)) = w0 at *
  generalize w.heap.size = P at *
  obtain ⟨k0, k1⟩ := KG.out
  dsimp only at k0 k1
  go_wp2_with (refine wpList_mkB rfl _ _ rfl gn (by omega) rfl rfl w0.heap.size (Nat.le_refl _) ?_)
  intro w1 hg1 hB1 hz1
  have OB1 := hide hB1
  obtain ⟨B, hB⟩ : ∃ B, B = w0.heap.size := ⟨_, rfl⟩
  have HB := hide hB
  rw [← hB] at hB1 hz1 OB1
  rw [← hB]
  have O1 : Hid (OwnI (w1.alloc (.cells #[.int .i64 (v : Int)] 3)) (B + 1) (some ⟨B + 1, 0, none⟩) 1 1 (intsN [v])) := hide (by
    have := OwnI.lit1 w1 (B + 1) (by omega) (v : Int)
    rw [hz1] at this
    exact this)
  have B1 := hide (hB1.later (Grow.alloc' w1 (.cells #[.int .i64 (v : Int)] 3)))
  have G2 := hide (Grow.trans' hg1 (Grow.alloc' w1 (.cells #[.int .i64 (v : Int)] 3)))
  have hz1' : w1.heap.size = B + 1 := hz1
  clear hg1 hB1 hB k0 k1 OB1
  go_wp2_with fail
  go_step3
  go_wp2_with fail
  go_loopg [8] (todo gn (List.replicate gn false) 1) (fun k t8 wr => ∃ (W : List Nat) (S : List Bool) (s : Option Addr) (c : Nat), k = todo gn S W.length ∧ t8 = .slice s W.length c ∧ Grow w0 wr ∧ OwnB wr B B gn S ∧ OwnI wr (B + 1) s W.length c (intsN W) ∧ W.length ≤ cnt S + 1 ∧ Dfs N E own v S W)
  case atStart => exact ⟨[v], List.replicate gn false, _, _, rfl, rfl, G2.out, B1.out, O1.out, by simp, by rw [← hN]; exact Dfs.start HV.out⟩
  case round =>
    obtain ⟨W, S, s, c, rfl, rfl, hg, hB, hO, hcn, hD⟩ := hrel
    generalize wr = wo at *
    rcases List.eq_nil_or_concat W with rfl | ⟨W', a, hW⟩
    · have HD := hide hD
      have G3 := hide (Grow.trans' GG.out hg)
      have HE2 := hide (hD.end HIN.out)
      have p0 := hB.cell v (by rw [hD.len]; exact HV.out)
      have hi1 : (0 : Int) ≤ (v : Int) := by omega
      have hi2 : (v : Int) < (gn : Int) := by have := HV.out; omega
      obtain ⟨sb, hsb⟩ : ∃ sb, sb = S.getD v false := ⟨_, rfl⟩
      rw [← hsb] at p0 HE2
      clear hg hB hO hD HD hsb hcn
      have hl : ([] : List Nat).length = 0 := rfl
      rw [hl]
      go_wp2_with fail
      try rw [Exit.noGoto_ret]
      go_ret
      exact ⟨⟨sb, rfl, HE2.out⟩, G3.out⟩
    · rw [List.concat_eq_append] at hW
      obtain ⟨n, hnn⟩ : ∃ n, n = W'.length := ⟨_, rfl⟩
      obtain ⟨nn, hnn2⟩ : ∃ nn, nn = W.length := ⟨_, rfl⟩
      have HL : Hid (nn = n + 1) := hide (by rw [hnn2, hW, hnn]; simp)
      have HWW := hide hW
      have HNN := hide hnn
      have HN2 := hide hnn2
      have HD := hide hD
      have HCN := hide hcn
      have hn21 : W.length ≤ 21 := by
        have h1 := cnt_le S
        rw [hD.len] at h1
        omega
      rw [← hnn2] at hn21
      have G3 := hide hg
      have OB := hide hB
      have hnS : nn ≤ c := by have := hO.is.2.1; omega
      rw [← hnn2] at hO ⊢
      have OI := hide hO
      have haN : a < N.length := hD.lt a (by rw [hW]; simp)
      have hIa : intsN W = intsN W' ++ [(a : Int)] := by rw [hW, intsN_app]
      obtain ⟨gw, rfl⟩ := hO.some' (by have := HL.out; omega)
      have hL2 : (intsN W').length = n := by rw [intsN_len, ← hnn]
      have hrow := (hO.is.2.2.resolve_left (by rw [hIa]; simp))
      obtain ⟨b', o', hbo, hrw⟩ := hrow
      have hbo' : b' = gw ∧ o' = 0 := by simp at hbo; exact ⟨hbo.1.symm, hbo.2.symm⟩
      obtain ⟨rfl, rfl⟩ := hbo'
      have PA : Hid (wo.cell? ⟨b', n, none⟩ = some (.int .i64 (a : Int))) := hide (by
        have := hrw.at n (by rw [hIa, List.length_append, hL2]; simp)
        rw [Nat.zero_add] at this
        rw [this]
        congr 2
        simp [hIa, hL2])
      have hw : IntKind.i64.wrap ((nn : Int) - 1) = (n : Int) := by
        have h1 := HL.out
        rw [h1, IntWalk.i64_in _ ⟨by omega, by omega⟩]
        omega
      have hi1 : (0 : Int) ≤ (n : Int) := by omega
      have hi2 : (n : Int) < (nn : Int) := by have := HL.out; omega
      have hp : (0 : Int) < (nn : Int) := by omega
      have hpN : 0 < nn := by omega
      have hm3 := HM.out
      obtain ⟨L, hLL⟩ : ∃ L, L = nextP E a := ⟨_, rfl⟩
      have HLL := hide hLL
      clear hbo hrw hL2 hIa hO hB hg hD hnn2 hnn hW hLL hcn
      go_wp2_with fail
      let FF : Nat → Value → World → Prop := fun i vF wF => match i with | 0 => vF = .agg #[.slice gs gn gc, .slice gt gm gq] | 1 => vF = .slice (some ⟨b', 0, none⟩) nn c | 2 => vF = .slice (some ⟨b', 0, none⟩) nn c | 3 => vF = .int .i64 (nn : Int) | 4 => vF = .int .i64 (n : Int) | 5 => vF = .pointer (some ⟨b', n, none⟩) | 6 => vF = .int .i64 (a : Int) | 7 => IsRowL L vF wF | 8 => vF = .int .i64 (L.length : Int) | 9 => vF = Value.int IntKind.i64 0 | _ => True
      have hstab : ∀ k v w1 w2, Grow w1 w2 → FF k v w1 → FF k v w2 := by
        intro k v w1 w2 hg h
        match k with
        | 0 => exact h
        | 1 => exact h
        | 2 => exact h
        | 3 => exact h
        | 4 => exact h
        | 5 => exact h
        | 6 => exact h
        | 7 => exact IsRowL.later hg h
        | 8 => exact h
        | 9 => exact h
        | k + 10 => exact trivial
      refine wp_region_invK FF (fun _ => none) (by kernel_rfl) (by kernel_rfl) ?_ ?_
      · refine ⟨?_, ?_, ?_, ?_, ?_, ?_, ?_, ?_, ?_, ?_, trivial⟩
        · refine stepK_run hstab trivial (by intro j b h; cases h) ?_
          intro a' w' hg hs hd
          have e3 : a'.eval (.tmp 3) = .pointer (some ⟨P, 0, none⟩) := hs.rest 3 rfl
          have ec : ∀ v, a'.eval (.const v) = v := fun _ => rfl
          have ef : ∀ g, a'.eval (.func g) = .func (.func g) #[] #[] := fun _ => rfl
          clear hd hs
          obtain ⟨k0, k1⟩ := KG.out.later (Grow.trans' G3.out hg); dsimp only at k0 k1
          refine wpv (v := .agg #[.slice gs gn gc, .slice gt gm gq]) ?_ ⟨_, rfl, Grow.rfl' _, rfl⟩
          (generalize a'.eval = ev at ec ef e3 ⊢; simp [execOp, go_sem, *])
        · refine stepK_run hstab trivial (by intro j b h; cases h) ?_
          intro a' w' hg hs hd
          have e8 : a'.eval (.tmp 8) = .slice (some ⟨b', 0, none⟩) nn c := hs.rest 8 rfl
          have ec : ∀ v, a'.eval (.const v) = v := fun _ => rfl
          have ef : ∀ g, a'.eval (.func g) = .func (.func g) #[] #[] := fun _ => rfl
          clear hd hs
          refine wpv (v := .slice (some ⟨b', 0, none⟩) nn c) ?_ ⟨_, rfl, Grow.rfl' _, rfl⟩
          (generalize a'.eval = ev at ec ef e8 ⊢; simp [execOp, go_sem, *])
        · refine stepK_run hstab trivial (by intro j b h; cases h) ?_
          intro a' w' hg hs hd
          have e8 : a'.eval (.tmp 8) = .slice (some ⟨b', 0, none⟩) nn c := hs.rest 8 rfl
          have ec : ∀ v, a'.eval (.const v) = v := fun _ => rfl
          have ef : ∀ g, a'.eval (.func g) = .func (.func g) #[] #[] := fun _ => rfl
          clear hd hs
          refine wpv (v := .slice (some ⟨b', 0, none⟩) nn c) ?_ ⟨_, rfl, Grow.rfl' _, rfl⟩
          (generalize a'.eval = ev at ec ef e8 ⊢; simp [execOp, go_sem, *])
        · refine stepK_run hstab trivial (by intro j b h; cases h) ?_
          intro a' w' hg hs hd
          have e22 : a'.eval (.tmp 22) = .slice (some ⟨b', 0, none⟩) nn c := hd ⟨2, Ground.data⟩ (by simp) rfl rfl
          have ec : ∀ v, a'.eval (.const v) = v := fun _ => rfl
          have ef : ∀ g, a'.eval (.func g) = .func (.func g) #[] #[] := fun _ => rfl
          clear hd hs
          refine wpv (v := .int .i64 (nn : Int)) ?_ ⟨_, rfl, Grow.rfl' _, rfl⟩
          (generalize a'.eval = ev at ec ef e22 ⊢; simp [go_sem, *])
        · refine stepK_run hstab trivial (by intro j b h; cases h) ?_
          intro a' w' hg hs hd
          have e23 : a'.eval (.tmp 23) = .int .i64 (nn : Int) := hd ⟨3, Ground.data⟩ (by simp) rfl rfl
          have ec : ∀ v, a'.eval (.const v) = v := fun _ => rfl
          have ef : ∀ g, a'.eval (.func g) = .func (.func g) #[] #[] := fun _ => rfl
          clear hd hs
          refine wpv (v := .int .i64 (n : Int)) ?_ ⟨_, rfl, Grow.rfl' _, rfl⟩
          (generalize a'.eval = ev at ec ef e23 ⊢; simp [execOp, go_sem, *])
        · refine stepK_run hstab trivial (by intro j b h; cases h) ?_
          intro a' w' hg hs hd
          have e21 : a'.eval (.tmp 21) = .slice (some ⟨b', 0, none⟩) nn c := hd ⟨1, Ground.data⟩ (by simp) rfl rfl
          have e24 : a'.eval (.tmp 24) = .int .i64 (n : Int) := hd ⟨4, Ground.data⟩ (by simp) rfl rfl
          have ec : ∀ v, a'.eval (.const v) = v := fun _ => rfl
          have ef : ∀ g, a'.eval (.func g) = .func (.func g) #[] #[] := fun _ => rfl
          clear hd hs
          refine wpv (v := .pointer (some ⟨b', n, none⟩)) ?_ ⟨_, rfl, Grow.rfl' _, rfl⟩
          (generalize a'.eval = ev at ec ef e21 e24 ⊢; simp [execOp, go_sem, *])
        · refine stepK_run hstab trivial (by intro j b h; cases h) ?_
          intro a' w' hg hs hd
          have e25 : a'.eval (.tmp 25) = .pointer (some ⟨b', n, none⟩) := hd ⟨5, Ground.data⟩ (by simp) rfl rfl
          have ec : ∀ v, a'.eval (.const v) = v := fun _ => rfl
          have ef : ∀ g, a'.eval (.func g) = .func (.func g) #[] #[] := fun _ => rfl
          clear hd hs
          have p0 := cell_later hg PA.out
          refine wpv (v := .int .i64 (a : Int)) ?_ ⟨_, rfl, Grow.rfl' _, rfl⟩
          (generalize a'.eval = ev at ec ef e25 ⊢; simp [execOp, go_sem, *])
        · refine stepK_run hstab trivial (by intro j b h; cases h) ?_
          intro a' w' hg hs hd
          have e20 : a'.eval (.tmp 20) = .agg #[.slice gs gn gc, .slice gt gm gq] := hd ⟨0, Ground.data⟩ (by simp) rfl rfl
          have e26 : a'.eval (.tmp 26) = .int .i64 (a : Int) := hd ⟨6, Ground.data⟩ (by simp) rfl rfl
          have ec : ∀ v, a'.eval (.const v) = v := fun _ => rfl
          have ef : ∀ g, a'.eval (.func g) = .func (.func g) #[] #[] := fun _ => rfl
          clear hd hs
          refine wpc ?_ (Calls.mono (rowL_of (args := [_, _]) (by rw [HLL.out]; exact next_raw gs gn gc gt gm gq E a w' hm3 (HE.out.later (Grow.trans' G3.out hg)))) fun e w2 ⟨v, he, hb, hv⟩ => ⟨v, he, _, rfl, hb, hv⟩)
          (generalize a'.eval = ev at ec ef e20 e26 ⊢; simp [execOp, go_sem, *])
        · refine stepK_run hstab trivial (by intro j b h; cases h) ?_
          intro a' w' hg hs hd
          obtain ⟨sl27, nl27, cl27, e27, h27⟩ : IsRowL L (a'.eval (.tmp 27)) w' := hd ⟨7, Ground.data⟩ (by simp) rfl rfl
          have ec : ∀ v, a'.eval (.const v) = v := fun _ => rfl
          have ef : ∀ g, a'.eval (.func g) = .func (.func g) #[] #[] := fun _ => rfl
          clear hd hs
          have hL' : (nl27 : Int) = (L.length : Int) := by rw [h27.1]
          refine wpv (v := .int .i64 (L.length : Int)) ?_ ⟨_, rfl, Grow.rfl' _, rfl⟩
          (generalize a'.eval = ev at ec ef e27 ⊢; simp [go_sem, *])
        · refine stepK_run hstab trivial (by intro j b h; cases h) ?_
          intro a' w' hg hs hd
          have ec : ∀ v, a'.eval (.const v) = v := fun _ => rfl
          have ef : ∀ g, a'.eval (.func g) = .func (.func g) #[] #[] := fun _ => rfl
          clear hd hs
          refine wpv (v := Value.int IntKind.i64 0) ?_ ⟨_, rfl, Grow.rfl' _, rfl⟩
          (generalize a'.eval = ev at ec ef ⊢; simp [execOp, go_sem, *])
      · intro a' w' hg hs hd
        have G4 := hide (Grow.trans' G3.out hg)
        have OB4 := hide (OB.out.later hg)
        have OI4 := hide (OI.out.later hg)
        clear G3 OB OI PA hg
        obtain ⟨sl, nl, cl, e27, h27⟩ : IsRowL L (a'.tmps.getD 27 undef) w' := hd 7 (by simp) (by intro k h; cases h)
        have fz20 : a'.tmps.getD 20 undef = .agg #[.slice gs gn gc, .slice gt gm gq] := hd 0 (by simp) (by intro k h; cases h); have fz21 : a'.tmps.getD 21 undef = .slice (some ⟨b', 0, none⟩) nn c := hd 1 (by simp) (by intro k h; cases h); have fz22 : a'.tmps.getD 22 undef = .slice (some ⟨b', 0, none⟩) nn c := hd 2 (by simp) (by intro k h; cases h); have fz23 : a'.tmps.getD 23 undef = .int .i64 (nn : Int) := hd 3 (by simp) (by intro k h; cases h); have fz24 : a'.tmps.getD 24 undef = .int .i64 (n : Int) := hd 4 (by simp) (by intro k h; cases h); have fz25 : a'.tmps.getD 25 undef = .pointer (some ⟨b', n, none⟩) := hd 5 (by simp) (by intro k h; cases h); have fz26 : a'.tmps.getD 26 undef = .int .i64 (a : Int) := hd 6 (by simp) (by intro k h; cases h); have fz28 : a'.tmps.getD 28 undef = .int .i64 (L.length : Int) := hd 8 (by simp) (by intro k h; cases h); have fz29 : a'.tmps.getD 29 undef = Value.int IntKind.i64 0 := hd 9 (by simp) (by intro k h; cases h); rw [frame_eq hs [false, false, false, false, false, false, false, false, false, false, false, false, false, false, false, false, false, false, false, false, true, true, true, true, true, true, true, true, true, true, false, false, false, false, false, false, false, false, false, false, false, false, false, false, false, false, false, false, false, false, false, false, false, false, false, false, false, false, false, false, false, false, false, false] (by kernel_rfl)]; simp only [mergeL, e27, fz20, fz21, fz22, fz23, fz24, fz25, fz26, fz28, fz29]; clear hs hd hstab fz20 fz21 fz22 fz23 fz24 fz25 fz26 fz28 fz29; generalize a'.tmps = TT at *
        have HI5 := hide h27
        clear h27 e27
        generalize w' = w4 at *
        have hL40 : L.length ≤ 40 := by
          have h1 := nextP_len E a
          rw [← HLL.out, HE.out.1] at h1
          omega
        go_wp2_with fail
        go_loopg [8, 29] L.length (fun k t8 t29 wr => ∃ j : Nat, j + k = L.length ∧ t8 = .slice (some ⟨b', 0, none⟩) nn c ∧ t29 = .int .i64 (j : Int) ∧ Grow w4 wr ∧ ∀ i (h : i < L.length), i < j → okT N own L[i].n.toNat = true → S.getD L[i].n.toNat false = true)
        case atStart => exact ⟨0, by omega, rfl, rfl, Grow.rfl' _, fun i h hi => by omega⟩
        case round =>
          obtain ⟨j, hjk, rfl, rfl, hg, hall⟩ := hrel
          have HA := hide hall
          generalize wr = w5 at *
          have HGR := hide hg
          have G5 := hide (Grow.trans' G4.out hg)
          have OB5 := hide (OB4.out.later hg)
          have OI5 := hide (OI4.out.later hg)
          have HI6 := hide (HI5.out.later hg)
          clear hall
          by_cases hlt : j < L.length
          · have hkd : j < L.length := hlt
            have hne : ¬ L = [] := fun h => by rw [h] at hkd; simp at hkd
            obtain ⟨be, o, rfl, hr1⟩ := HI6.out.2.2.resolve_left hne
            obtain ⟨p0, p1⟩ := hr1.at j hkd
            obtain ⟨x, hx⟩ : ∃ x, x = L[j] := ⟨_, rfl⟩
            rw [← hx] at p0 p1
            obtain ⟨e, he, hef, hex⟩ := next_mem.1 (show x ∈ nextP E a by rw [← HLL.out, hx]; exact List.getElem_mem _)
            have hin := HIN.out e he
            obtain ⟨t, ht⟩ : ∃ t : Nat, e.t = (t : Int) := ⟨e.t.toNat, by omega⟩
            have hxn : x.n = (t : Int) := by rw [hex, ← ht]
            have htN : t < N.length := by omega
            obtain ⟨xn, xp⟩ := x
            dsimp only at hxn p0 p1
            subst hxn
            have HX : Hid (∀ h : j < L.length, (L[j]'h).n.toNat = t) := hide (fun h => by rw [← hx]; simp)
            have HEE : Hid (e ∈ E ∧ e.f = a ∧ e.t = (t : Int)) := hide ⟨he, hef, ht⟩
            have hi3 : (0 : Int) ≤ (j : Int) := by omega
            have hi4 : (j : Int) < (L.length : Int) := by omega
            have hi5 : (j : Int) < (nl : Int) := by rw [← HI5.out.1]; omega
            have hi6 : (0 : Int) ≤ (t : Int) := by omega
            have hi7 : (t : Int) < (gn : Int) := by omega
            obtain ⟨q, hq⟩ : ∃ q, okT N own t = q := ⟨_, rfl⟩
            have HQ := hide hq
            have HT : Hid (t < N.length) := hide htN
            have HGX := hide (fun w' (h : Grow w0 w') => pass_raw gs gn gc gt gm gq N t own bg bo hq w' htN (HG.out.later h) (cell_later h HO.out) (HN.out.later h))
            have HJ : Hid (todo gn S nn = todo gn S W.length) := hide (by rw [HN2.out])
            clear hne hr1 hx hkd he hef hex hin ht htN hq hg
            go_wp2_with (refine wpList_putL rfl _ _ rfl w5.heap.size ⟨(t : Int), xp⟩ rfl rfl (BlkL.new w5) w5 (Grow.alloc' _ _) (Nat.le_refl _) ?_)
            intro w6 hg6 hb6
            have G6 := hide (Grow.trans' G5.out hg6)
            have OB6 := hide (OB5.out.later hg6)
            have OI6 := hide (OI5.out.later hg6)
            have KLB : Hid (w4.heap.size ≤ w5.heap.size) := hide HGR.out.size
            have HG6 := hide (Grow.trans' (show Grow w4 w5 from HGR.out) hg6)
            obtain ⟨l0, l1⟩ := hb6
            dsimp only at l0 l1
            generalize w5.heap.size = LB at *
            clear p0 p1 hg6 OB5 OI5 l1
            have hst := HD.out.len
            have hsl : t < S.length := by rw [hst]; exact HT.out
            clear hst
            cases q
            · have HH : Hid (∀ i (h : i < L.length), i < j + 1 → okT N own L[i].n.toNat = true → S.getD L[i].n.toNat false = true) := hide (fun i h hi ok => by
                by_cases hij : i < j
                · exact HA.out i h hij ok
                · have : i = j := by omega
                  subst this
                  rw [HX.out h, HQ.out] at ok
                  cases ok)
              go_wp2_with fail
              refine (HGX.out w6 G6.out).mono ?_
              rintro _ w7 ⟨rfl, hb⟩
              have HG7 := hide (Grow.trans' HG6.out hb)
              clear hb l0
              go_wp2_with fail
              go_roundg (gk - 1)
              case rel => exact ⟨j + 1, by omega, rfl, by go_num, HG7.out, HH.out⟩
              case measure => omega
            · cases hsb : S.getD t false
              · have HSB := hide hsb
                clear hsb
                go_wp2_with fail
                refine (HGX.out w6 G6.out).mono ?_
                rintro _ w7 ⟨rfl, hb⟩
                have G7 := hide (Grow.trans' G6.out hb)
                have OB7 := hide (OB6.out.later hb)
                have OI7 := hide (OI6.out.later hb)
                have l2 := cell_later hb l0
                have c0 := OB7.out.cell t hsl
                rw [HSB.out] at c0
                have f0 := OB7.out.free t
                have hst := OB7.out.stored t true
                have OB8 := hide hst.1
                have GB8 := hide hst.2
                have G8 : Hid (Grow w0 (w7.setCell ⟨B, t, none⟩ (.bool true))) := hide (Below.grown G7.out hst.2 G7.out.size (fun j hj => by cases hj; exact Nat.le_of_eq HB.out.symm))
                have OI8 : Hid (OwnI (w7.setCell ⟨B, t, none⟩ (.bool true)) (B + 1) (some ⟨b', 0, none⟩) nn c (intsN W)) := hide (OI7.out.keep fun a ha => by
                  have h1 := (OI7.out.lt a ha).2
                  exact hst.2.block a.block (OI7.out.lt a ha).1 (by simp; omega))
                have hLB : ¬ LB = B := by
                  intro h
                  have h1 := KLB.out
                  rw [h] at h1
                  have h2 := OB4.out.lt
                  omega
                have D8 := hide (HD.out.push HIN.out (show a ∈ W by rw [HWW.out]; simp) HEE.out.1 HEE.out.2.1 HEE.out.2.2 HQ.out)
                have HC8 : Hid (nn + 1 ≤ cnt (S.set t true) + 1) := hide (by
                  have h1 := cnt_set S t hsl HSB.out
                  have h2 := HCN.out
                  rw [← HN2.out] at h2
                  omega)
                have HM8 : Hid (todo gn (S.set t true) (nn + 1) < todo gn S W.length) := hide (by
                  rw [← HN2.out]
                  exact todo_push (by rw [HD.out.len]; exact hN) (by omega) HSB.out)
                have hzs : (w7.setCell ⟨B, t, none⟩ (.bool true)).heap.size = w7.heap.size := by simp
                have hB7 : B + 1 ≤ w7.heap.size := by have := OB7.out.lt; omega
                have I1 : Hid (IsIns ((w7.setCell ⟨B, t, none⟩ (.bool true)).alloc (.cells #[.int .i64 (t : Int)] 3)) (some ⟨w7.heap.size, 0, none⟩) 1 1 [(t : Int)]) := hide (by
                  have := isIns_one (w7.setCell ⟨B, t, none⟩ (.bool true)) (t : Int)
                  rw [hzs] at this
                  exact this)
                have hB8 : Hid (B + 1 ≤ ((w7.setCell ⟨B, t, none⟩ (.bool true)).alloc (.cells #[.int .i64 (t : Int)] 3)).heap.size) := hide (by simp; omega)
                clear hb l0 hst OB6 OI6 OB7 OI7 hzs
                go_wp2_with (at_builtin; refine wpList_apd_int rfl _ _ rfl (B + 1) (some ⟨b', 0, none⟩) nn c (intsN W) [(t : Int)] rfl (OI8.out.later (Grow.alloc' _ _)) (some ⟨w7.heap.size, 0, none⟩) 1 1 rfl I1.out (by omega) hB8.out ?_)
                intro s9 c9 w9 h9 gb
                have G9 := hide (gb.grow (Grow.trans' G8.out (Grow.alloc' _ _)) (by have := OB8.out.lt; have := HB.out; omega))
                have OB9 := hide ((OB8.out.later (Grow.alloc' _ _)).keep (gb.grown.block B (by have := OB8.out.lt; simp at this ⊢; omega) (by simp; have := (OI8.out.lt _ rfl).2; simp at this; omega)))
                have OI9 : Hid (OwnI w9 (B + 1) s9 (nn + 1) c9 (intsN (W ++ [t]))) := hide (by rw [intsN_app]; exact h9)
                have HL9 : Hid ((W ++ [t]).length = nn + 1) := hide (by rw [List.length_append, ← HN2.out]; simp)
                clear h9 gb l2 c0 f0
                go_wp2_with fail
                go_roundg (todo gn (S.set t true) (nn + 1))
                case rel => exact ⟨W ++ [t], S.set t true, s9, c9, by rw [HL9.out], by rw [HL9.out], G9.out, OB9.out, by rw [HL9.out]; exact OI9.out, by rw [HL9.out]; exact HC8.out, D8.out⟩
                case measure => exact HM8.out
              · have HSB := hide hsb
                have HH : Hid (∀ i (h : i < L.length), i < j + 1 → okT N own L[i].n.toNat = true → S.getD L[i].n.toNat false = true) := hide (fun i h hi ok => by
                  by_cases hij : i < j
                  · exact HA.out i h hij ok
                  · have : i = j := by omega
                    subst this
                    rw [HX.out h]
                    exact HSB.out)
                clear hsb
                go_wp2_with fail
                refine (HGX.out w6 G6.out).mono ?_
                rintro _ w7 ⟨rfl, hb⟩
                have HG7 := hide (Grow.trans' HG6.out hb)
                have OB7 := hide (OB6.out.later hb)
                have l2 := cell_later hb l0
                have c0 := OB7.out.cell t hsl
                rw [HSB.out] at c0
                clear hb l0
                go_wp2_with fail
                go_roundg (gk - 1)
                case rel => exact ⟨j + 1, by omega, rfl, by go_num, HG7.out, HH.out⟩
                case measure => omega
          · have hjL : j = L.length := by omega
            subst hjL
            have hi4 : ¬ (L.length : Int) < (L.length : Int) := by omega
            have r1 : ∀ w, (Instr.slice 76 (.slice (some ⟨b', 0, none⟩) nn c) none (some (.int .i64 (n : Int))) none).run Tryz.prog w = .ok (.slice (some ⟨b', 0, none⟩) n c) w := fun w => run_headI _ nn c n w (by have := HL.out; omega)
            have HLit : Hid (Lit N E own S a) := hide (fun e he hef ok => by
              obtain ⟨i, hi, hie⟩ := List.getElem_of_mem (show (⟨e.t, e.p⟩ : Lc) ∈ L by rw [HLL.out]; exact next_mem.2 ⟨e, he, hef, rfl⟩)
              have := HA.out i hi hi
              rw [hie] at this
              exact this ok)
            have DD : Hid (Dfs N E own v S W') := hide (by have := HD.out; rw [HWW.out] at this; exact this.pop HLit.out)
            have OI7 : Hid (OwnI w5 (B + 1) (some ⟨b', 0, none⟩) n c (intsN W')) := hide (by
              have := OI5.out
              rw [HL.out, HWW.out, intsN_app] at this
              exact this.pop)
            have HC8 : Hid (n ≤ cnt S + 1) := hide (by
              have h2 := HCN.out
              rw [← HN2.out, HL.out] at h2
              omega)
            have HM8 : Hid (todo gn S n < todo gn S W.length) := hide (by rw [← HN2.out, HL.out]; exact todo_pop)
            clear hg
            go_wp2_with fail
            go_roundg (todo gn S n)
            case rel => exact ⟨W', S, _, c, by rw [← HNN.out], by rw [← HNN.out], G5.out, OB5.out, by rw [← HNN.out]; exact OI7.out, by rw [← HNN.out]; exact HC8.out, DD.out⟩
            case measure => exact HM8.out

end Go.Proofs.YtjebipagehhkjaaGreat
