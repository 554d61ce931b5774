/-
  GraphPlaces: for every graph (its first 20 nodes and 40 edges; depths of 1000 at most, either way) and every place: its places in order, where a node's edges lead and a place's come from, whether the place is one, and its depth, are what the document's own functions say; the call returns true and leaves its arguments as they were. No conditions.
-/
import Derived.Test.YtjpaclcpebpcjaaHHd
import Derived.Test.YtjpaclcpebpcjaaHNx
import Derived.Test.YtjpaclcpebpcjaaHRf
namespace Go.Proofs.Ytjpaclcpebpcjaa
set_option maxRecDepth 100000
open Go.ChangeShapes Go.WideShapes Go.ChangeAt Go.RowKit Go.Deep Go.Sort
set_option linter.unusedVariables false
set_option linter.unusedSimpArgs false

set_option maxHeartbeats 8000000 in
theorem places_raw (gs : Option Addr) (gn gc : Nat) (gt : Option Addr) (gm gq : Nat) (N0 : List Nd) (E0 : List Ed) (n p : Int) (w : World) (hN : IsNds w gs gn gc N0) (hE : IsEds w gt gm gq E0) :
    Calls Try.prog 4 #[.agg #[.slice gs gn gc, .slice gt gm gq], .agg #[.int .i64 n, .int .i64 p]] w fun r w' => r = .returned (.bool true) ∧ Grow w w' := by
  have HN0 := hide (hN.cut 20)
  have HE0 := hide (hE.cut 40)
  have CF := hide (fun w => few_raw gs gn gc gt gm gq w hN.2.1 hE.2.1)
  have hn2' := cutN_le 20 gn
  have hm2' := cutN_le 40 gm
  obtain ⟨n2, hn2⟩ : ∃ n2, cutN 20 gn = n2 := ⟨_, rfl⟩
  obtain ⟨m2, hm2⟩ : ∃ m2, cutN 40 gm = m2 := ⟨_, rfl⟩
  obtain ⟨N, hNN⟩ : ∃ N, N0.take 20 = N := ⟨_, rfl⟩
  obtain ⟨E, hEE⟩ : ∃ E, E0.take 40 = E := ⟨_, rfl⟩
  rw [hn2] at HN0 CF hn2'
  rw [hm2] at HE0 CF hm2'
  rw [hNN] at HN0
  rw [hEE] at HE0
  clear hN hE hn2 hm2 hNN hEE
  have hn3 : n2 ≤ 20 := by omega
  have hm3 : m2 ≤ 40 := by omega
  have hz1 : (w.alloc (.cells #[.slice gs gn gc, .slice gt gm gq] 39)).heap.size = w.heap.size + 1 := by simp
  have GG : Hid (Grow w ((w.alloc (.cells #[.slice gs gn gc, .slice gt gm gq] 39)).alloc (.cells #[.int .i64 n, .int .i64 p] 25))) := hide (Grow.trans' (Grow.alloc' _ _) (Grow.alloc' _ _))
  have KG : Hid (BoxG ((w.alloc (.cells #[.slice gs gn gc, .slice gt gm gq] 39)).alloc (.cells #[.int .i64 n, .int .i64 p] 25)) w.heap.size ⟨gs, gn, gc, gt, gm, gq, [], []⟩) := hide ((BoxG.new w ⟨gs, gn, gc, gt, gm, gq, [], []⟩).later (Grow.alloc' _ _))
  have KB : Hid (BlkG ((w.alloc (.cells #[.slice gs gn gc, .slice gt gm gq] 39)).alloc (.cells #[.int .i64 n, .int .i64 p] 25)) w.heap.size) := hide ((BlkG.new w _ _).later (Grow.alloc' _ _))
  have KL : Hid (BoxL ((w.alloc (.cells #[.slice gs gn gc, .slice gt gm gq] 39)).alloc (.cells #[.int .i64 n, .int .i64 p] 25)) (w.heap.size + 1) ⟨n, p⟩) := hide (by rw [← hz1]; exact BoxL.new _ ⟨n, p⟩)
  clear hn2' hm2' hz1
  go_enter Try.func4, Try.ntmps4
  go_wp2_with fail
  generalize (w.alloc (.cells #[.slice gs gn gc, .slice gt gm gq] 39)).alloc (.cells #[.int .i64 n, .int .i64 p] 25) = w0 at *
  refine (shown_any _).mono ?_
  rintro _ w1 ⟨rfl, hb⟩
  have G1 := hide (Grow.trans' GG.out hb)
  have KB1 := hide (KB.out.later hb)
  have KL1 := hide (KL.out.later hb)
  obtain ⟨g0, g1⟩ := KG.out.later hb
  dsimp only at g0 g1
  clear hb KG KB KL GG
  go_wp2_with fail
  refine (CF.out _).mono ?_
  rintro _ w2 ⟨rfl, hb⟩
  have G2 := hide (Grow.trans' G1.out hb)
  have KB2 := hide (KB1.out.later hb)
  have KL2 := hide (KL1.out.later hb)
  clear hb KB1 KL1 G1 g0 g1 CF
  go_wp2_with (refine wpList_putG rfl _ _ rfl w.heap.size ⟨gs, n2, gc, gt, m2, gq, [], []⟩ rfl rfl KB2.out w G2.out (Nat.le_refl _) ?_)
  intro w3 hg3 hb3 hoth hsame
  have G3 := hide hg3
  have KG3 := hide hb3
  have KL3 : Hid (BoxL w3 (w.heap.size + 1) ⟨n, p⟩) := hide ⟨by rw [hoth _ (by simp)]; exact KL2.out.1, by rw [hoth _ (by simp)]; exact KL2.out.2⟩
  have HN := hide (HN0.out.later hg3)
  have HE := hide (HE0.out.later hg3)
  obtain ⟨g0, g1⟩ := hb3
  dsimp only at g0 g1
  clear hg3 hoth hsame KB2 KL2 G2 HN0 HE0
  generalize w.heap.size = P at *
  go_wp2_with fail
  clear g0 g1
  go_loopw [6] (fun i wr => ∃ k : Nat, k ≤ n2 ∧ i = .int .i64 k ∧ Grow w3 wr) (fun i _ => n2 - (intOf i).toNat)
  case atStart => exact ⟨0, Nat.zero_le _, rfl, Grow.rfl' _⟩
  case round =>
    obtain ⟨k, hk, rfl, hg⟩ := hrel
    have HG := hide hg
    obtain ⟨g0, g1⟩ := KG3.out.later hg
    dsimp only at g0 g1
    by_cases hlt : k < n2
    · have hkd : k < N.length := by rw [HN.out.1]; exact hlt
      have hne : ¬ N = [] := fun h => by rw [h] at hkd; simp at hkd
      obtain ⟨b, o, rfl, hr1⟩ := HN.out.2.2.resolve_left hne
      obtain ⟨p0, p1, p2, p3⟩ := (hr1.later hg).at k hkd
      obtain ⟨x, hx⟩ : ∃ x, x = N[k] := ⟨_, rfl⟩
      rw [← hx] at p0 p1 p2 p3
      obtain ⟨xk, xa, xb, xd⟩ := x
      dsimp only at p0 p1 p2 p3
      have hi1 : (0 : Int) ≤ (k : Int) := by omega
      have hi2 : (k : Int) < (n2 : Int) := by omega
      clear hne hr1 hx hkd hg p0 p1 p2
      have hc : xd < -1000 ∨ (¬ xd < -1000 ∧ 1000 < xd) ∨ (¬ xd < -1000 ∧ ¬ 1000 < xd) := by omega
      rcases hc with h1 | ⟨h1, h2⟩ | ⟨h1, h2⟩
      · go_wp2_with fail
        go_ret
        exact ⟨rfl, Grow.trans' G3.out HG.out⟩
      · go_wp2_with fail
        go_ret
        exact ⟨rfl, Grow.trans' G3.out HG.out⟩
      · go_wp2_with fail
        go_roundw
        case rel => exact ⟨k + 1, by omega, by go_num, HG.out⟩
        case measure => simp [intOf]; omega
    · have hi2 : ¬ (k : Int) < (n2 : Int) := by omega
      have G4 := hide (Grow.trans' G3.out hg)
      have KG4 := hide (KG3.out.later hg)
      have KL4 := hide (KL3.out.later hg)
      have HN4 := hide (HN.out.later hg)
      have HE4 := hide (HE.out.later hg)
      have hl1 : (locs N).length ≤ 60 := (by
        have h2 : (locs N).length ≤ 3 * N.length := locsTo_len N N.length
        rw [HN.out.1] at h2
        omega)
      have hl2 : (nextP E n).length ≤ 40 := (by
        have h2 := nextP_len E n
        rw [HE.out.1] at h2
        omega)
      have hl3 : (prevP E ⟨n, p⟩).length ≤ 40 := (by
        have h2 := prevP_len E ⟨n, p⟩
        rw [HE.out.1] at h2
        omega)
      clear HG hg KG3 KL3 HN HE G3 hk
      go_wp2_with fail
      clear g0 g1
      let FF : Nat → Value → World → Prop := fun i vF wF => match i with | 0 => vF = .agg #[.slice gs n2 gc, .slice gt m2 gq] | 1 => IsRowL (locs N) vF wF | 2 => vF = .agg #[.slice gs n2 gc, .slice gt m2 gq] | 3 => IsRowL (locs N) vF wF | 4 => vF = .bool true | 5 => vF = .bool true | _ => True
      have hstab : ∀ k v w1 w2, Grow w1 w2 → FF k v w1 → FF k v w2 := by
        intro k v w1 w2 hg h
        match k with
        | 0 => exact h
        | 1 => exact IsRowL.later hg h
        | 2 => exact h
        | 3 => exact IsRowL.later hg h
        | 4 => exact h
        | 5 => exact h
        | k + 6 => exact trivial
      refine wp_region_invK FF (fun _ => none) (by kernel_rfl) (by kernel_rfl) ?_ ?_
      · refine ⟨?_, ?_, ?_, ?_, ?_, ?_, trivial⟩
        · refine stepK_run hstab trivial (by intro j b h; cases h) ?_
          intro a' w' hg hs hd
          have e2 : a'.eval (.tmp 2) = .pointer (some ⟨P, 0, none⟩) := hs.rest 2 rfl
          have ec : ∀ v, a'.eval (.const v) = v := fun _ => rfl
          have ef : ∀ g, a'.eval (.func g) = .func (.func g) #[] #[] := fun _ => rfl
          clear hd hs
          obtain ⟨k0, k1⟩ := KG4.out.later hg; dsimp only at k0 k1
          refine wpv (v := .agg #[.slice gs n2 gc, .slice gt m2 gq]) ?_ ⟨_, rfl, Grow.rfl' _, rfl⟩
          (generalize a'.eval = ev at ec ef e2 ⊢; simp [execOp, go_sem, *])
        · refine stepK_run hstab trivial (by intro j b h; cases h) ?_
          intro a' w' hg hs hd
          have e37 : a'.eval (.tmp 37) = .agg #[.slice gs n2 gc, .slice gt m2 gq] := hd ⟨0, Ground.data⟩ (by simp) rfl rfl
          have ec : ∀ v, a'.eval (.const v) = v := fun _ => rfl
          have ef : ∀ g, a'.eval (.func g) = .func (.func g) #[] #[] := fun _ => rfl
          clear hd hs
          refine wpc ?_ (Calls.mono (rowL_of (args := [_]) (locs_raw gs n2 gc gt m2 gq N w' hn3 (HN4.out.later hg))) fun e w2 ⟨v, he, hb, hv⟩ => ⟨v, he, _, rfl, hb, hv⟩)
          (generalize a'.eval = ev at ec ef e37 ⊢; simp [execOp, go_sem, *])
        · refine stepK_run hstab trivial (by intro j b h; cases h) ?_
          intro a' w' hg hs hd
          have e2 : a'.eval (.tmp 2) = .pointer (some ⟨P, 0, none⟩) := hs.rest 2 rfl
          have ec : ∀ v, a'.eval (.const v) = v := fun _ => rfl
          have ef : ∀ g, a'.eval (.func g) = .func (.func g) #[] #[] := fun _ => rfl
          clear hd hs
          obtain ⟨k0, k1⟩ := KG4.out.later hg; dsimp only at k0 k1
          refine wpv (v := .agg #[.slice gs n2 gc, .slice gt m2 gq]) ?_ ⟨_, rfl, Grow.rfl' _, rfl⟩
          (generalize a'.eval = ev at ec ef e2 ⊢; simp [execOp, go_sem, *])
        · refine stepK_run hstab trivial (by intro j b h; cases h) ?_
          intro a' w' hg hs hd
          have e39 : a'.eval (.tmp 39) = .agg #[.slice gs n2 gc, .slice gt m2 gq] := hd ⟨2, Ground.data⟩ (by simp) rfl rfl
          have ec : ∀ v, a'.eval (.const v) = v := fun _ => rfl
          have ef : ∀ g, a'.eval (.func g) = .func (.func g) #[] #[] := fun _ => rfl
          clear hd hs
          refine wpc ?_ (Calls.mono (rowL_of (args := [_]) (rlocs_raw gs n2 gc gt m2 gq N w' hn3 (HN4.out.later hg))) fun e w2 ⟨v, he, hb, hv⟩ => ⟨v, he, _, rfl, hb, hv⟩)
          (generalize a'.eval = ev at ec ef e39 ⊢; simp [execOp, go_sem, *])
        · refine stepK_run hstab trivial (by intro j b h; cases h) ?_
          intro a' w' hg hs hd
          obtain ⟨sl38, nl38, cl38, e38, h38⟩ : IsRowL (locs N) (a'.eval (.tmp 38)) w' := hd ⟨1, Ground.data⟩ (by simp) rfl rfl
          obtain ⟨sl40, nl40, cl40, e40, h40⟩ : IsRowL (locs N) (a'.eval (.tmp 40)) w' := hd ⟨3, Ground.data⟩ (by simp) rfl rfl
          have ec : ∀ v, a'.eval (.const v) = v := fun _ => rfl
          have ef : ∀ g, a'.eval (.func g) = .func (.func g) #[] #[] := fun _ => rfl
          clear hd hs
          refine wpc ?_ (Calls.mono (sameL_self sl38 sl40 cl38 cl40 nl38 nl40 (locs N) w' (by have := h38.1; omega) h38 h40) fun e w2 ⟨he, hb⟩ => ⟨_, he, _, rfl, hb, rfl⟩)
          (generalize a'.eval = ev at ec ef e38 e40 ⊢; simp [execOp, go_sem, *])
        · refine stepK_run hstab trivial (by intro j b h; cases h) ?_
          intro a' w' hg hs hd
          have e41 : a'.eval (.tmp 41) = .bool true := hd ⟨4, Ground.data⟩ (by simp) rfl rfl
          have ec : ∀ v, a'.eval (.const v) = v := fun _ => rfl
          have ef : ∀ g, a'.eval (.func g) = .func (.func g) #[] #[] := fun _ => rfl
          clear hd hs
          refine wpv (v := .bool true) ?_ ⟨_, rfl, Grow.rfl' _, rfl⟩
          (generalize a'.eval = ev at ec ef e41 ⊢; simp [execOp, go_sem, *])
      · intro a' w' hg hs hd
        have G5 := hide (Grow.trans' G4.out hg)
        have KG5 := hide (KG4.out.later hg)
        have KL5 := hide (KL4.out.later hg)
        have HN5 := hide (HN4.out.later hg)
        have HE5 := hide (HE4.out.later hg)
        clear G4 KG4 KL4 HN4 HE4 hg
        have fz37 : a'.tmps.getD 37 undef = .agg #[.slice gs n2 gc, .slice gt m2 gq] := hd 0 (by simp) (by intro k h; cases h); have fz39 : a'.tmps.getD 39 undef = .agg #[.slice gs n2 gc, .slice gt m2 gq] := hd 2 (by simp) (by intro k h; cases h); have fz41 : a'.tmps.getD 41 undef = .bool true := hd 4 (by simp) (by intro k h; cases h); have fz7 : a'.tmps.getD 7 undef = .bool true := hd 5 (by simp) (by intro k h; cases h); rw [frame_eq hs [false, false, false, false, false, false, false, true, false, false, false, false, false, false, false, false, false, false, false, false, false, false, false, false, false, false, false, false, false, false, false, false, false, false, false, false, false, true, true, true, true, true, false, false, false, false, false, false, false, false, false, false, false, false, false, false, false, false, false, false, false, false, false, false, false, false, false, false, false, false, false, false, false, false, false, false, false, false, false, false, false, false, false, false, false, false] (by kernel_rfl)]; simp only [mergeL, fz37, fz39, fz41, fz7]; clear hs hd hstab fz37 fz39 fz41 fz7; generalize a'.tmps = TT at *
        generalize w' = w5 at *
        go_wp2_with fail
        let FF : Nat → Value → World → Prop := fun i vF wF => match i with | 0 => vF = .agg #[.slice gs n2 gc, .slice gt m2 gq] | 1 => vF = .pointer (some ⟨P + 1, 0, none⟩) | 2 => vF = .int .i64 n | 3 => IsRowL (nextP E n) vF wF | 4 => vF = .agg #[.slice gs n2 gc, .slice gt m2 gq] | 5 => vF = .pointer (some ⟨P + 1, 0, none⟩) | 6 => vF = .int .i64 n | 7 => IsRowL (nextP E n) vF wF | 8 => vF = .bool true | 9 => vF = .bool true | _ => True
        have hstab : ∀ k v w1 w2, Grow w1 w2 → FF k v w1 → FF k v w2 := by
          intro k v w1 w2 hg h
          match k with
          | 0 => exact h
          | 1 => exact h
          | 2 => exact h
          | 3 => exact IsRowL.later hg h
          | 4 => exact h
          | 5 => exact h
          | 6 => exact h
          | 7 => exact IsRowL.later hg h
          | 8 => exact h
          | 9 => exact h
          | k + 10 => exact trivial
        refine wp_region_invK FF (fun _ => none) (by kernel_rfl) (by kernel_rfl) ?_ ?_
        · refine ⟨?_, ?_, ?_, ?_, ?_, ?_, ?_, ?_, ?_, ?_, trivial⟩
          · refine stepK_run hstab trivial (by intro j b h; cases h) ?_
            intro a' w' hg hs hd
            have e2 : a'.eval (.tmp 2) = .pointer (some ⟨P, 0, none⟩) := hs.rest 2 rfl
            have ec : ∀ v, a'.eval (.const v) = v := fun _ => rfl
            have ef : ∀ g, a'.eval (.func g) = .func (.func g) #[] #[] := fun _ => rfl
            clear hd hs
            obtain ⟨k0, k1⟩ := KG5.out.later hg; dsimp only at k0 k1
            refine wpv (v := .agg #[.slice gs n2 gc, .slice gt m2 gq]) ?_ ⟨_, rfl, Grow.rfl' _, rfl⟩
            (generalize a'.eval = ev at ec ef e2 ⊢; simp [execOp, go_sem, *])
          · refine stepK_run hstab trivial (by intro j b h; cases h) ?_
            intro a' w' hg hs hd
            have e3 : a'.eval (.tmp 3) = .pointer (some ⟨P + 1, 0, none⟩) := hs.rest 3 rfl
            have ec : ∀ v, a'.eval (.const v) = v := fun _ => rfl
            have ef : ∀ g, a'.eval (.func g) = .func (.func g) #[] #[] := fun _ => rfl
            clear hd hs
            refine wpv (v := .pointer (some ⟨P + 1, 0, none⟩)) ?_ ⟨_, rfl, Grow.rfl' _, rfl⟩
            (generalize a'.eval = ev at ec ef e3 ⊢; simp [execOp, go_sem, *])
          · refine stepK_run hstab trivial (by intro j b h; cases h) ?_
            intro a' w' hg hs hd
            have e43 : a'.eval (.tmp 43) = .pointer (some ⟨P + 1, 0, none⟩) := hd ⟨1, Ground.data⟩ (by simp) rfl rfl
            have ec : ∀ v, a'.eval (.const v) = v := fun _ => rfl
            have ef : ∀ g, a'.eval (.func g) = .func (.func g) #[] #[] := fun _ => rfl
            clear hd hs
            obtain ⟨l0, l1⟩ := KL5.out.later hg; dsimp only at l0 l1
            refine wpv (v := .int .i64 n) ?_ ⟨_, rfl, Grow.rfl' _, rfl⟩
            (generalize a'.eval = ev at ec ef e43 ⊢; simp [execOp, go_sem, *])
          · refine stepK_run hstab trivial (by intro j b h; cases h) ?_
            intro a' w' hg hs hd
            have e42 : a'.eval (.tmp 42) = .agg #[.slice gs n2 gc, .slice gt m2 gq] := hd ⟨0, Ground.data⟩ (by simp) rfl rfl
            have e44 : a'.eval (.tmp 44) = .int .i64 n := hd ⟨2, Ground.data⟩ (by simp) rfl rfl
            have ec : ∀ v, a'.eval (.const v) = v := fun _ => rfl
            have ef : ∀ g, a'.eval (.func g) = .func (.func g) #[] #[] := fun _ => rfl
            clear hd hs
            refine wpc ?_ (Calls.mono (rowL_of (args := [_, _]) (next_raw gs n2 gc gt m2 gq E n w' hm3 (HE5.out.later hg))) fun e w2 ⟨v, he, hb, hv⟩ => ⟨v, he, _, rfl, hb, hv⟩)
            (generalize a'.eval = ev at ec ef e42 e44 ⊢; simp [execOp, go_sem, *])
          · refine stepK_run hstab trivial (by intro j b h; cases h) ?_
            intro a' w' hg hs hd
            have e2 : a'.eval (.tmp 2) = .pointer (some ⟨P, 0, none⟩) := hs.rest 2 rfl
            have ec : ∀ v, a'.eval (.const v) = v := fun _ => rfl
            have ef : ∀ g, a'.eval (.func g) = .func (.func g) #[] #[] := fun _ => rfl
            clear hd hs
            obtain ⟨k0, k1⟩ := KG5.out.later hg; dsimp only at k0 k1
            refine wpv (v := .agg #[.slice gs n2 gc, .slice gt m2 gq]) ?_ ⟨_, rfl, Grow.rfl' _, rfl⟩
            (generalize a'.eval = ev at ec ef e2 ⊢; simp [execOp, go_sem, *])
          · refine stepK_run hstab trivial (by intro j b h; cases h) ?_
            intro a' w' hg hs hd
            have e3 : a'.eval (.tmp 3) = .pointer (some ⟨P + 1, 0, none⟩) := hs.rest 3 rfl
            have ec : ∀ v, a'.eval (.const v) = v := fun _ => rfl
            have ef : ∀ g, a'.eval (.func g) = .func (.func g) #[] #[] := fun _ => rfl
            clear hd hs
            refine wpv (v := .pointer (some ⟨P + 1, 0, none⟩)) ?_ ⟨_, rfl, Grow.rfl' _, rfl⟩
            (generalize a'.eval = ev at ec ef e3 ⊢; simp [execOp, go_sem, *])
          · refine stepK_run hstab trivial (by intro j b h; cases h) ?_
            intro a' w' hg hs hd
            have e47 : a'.eval (.tmp 47) = .pointer (some ⟨P + 1, 0, none⟩) := hd ⟨5, Ground.data⟩ (by simp) rfl rfl
            have ec : ∀ v, a'.eval (.const v) = v := fun _ => rfl
            have ef : ∀ g, a'.eval (.func g) = .func (.func g) #[] #[] := fun _ => rfl
            clear hd hs
            obtain ⟨l0, l1⟩ := KL5.out.later hg; dsimp only at l0 l1
            refine wpv (v := .int .i64 n) ?_ ⟨_, rfl, Grow.rfl' _, rfl⟩
            (generalize a'.eval = ev at ec ef e47 ⊢; simp [execOp, go_sem, *])
          · refine stepK_run hstab trivial (by intro j b h; cases h) ?_
            intro a' w' hg hs hd
            have e46 : a'.eval (.tmp 46) = .agg #[.slice gs n2 gc, .slice gt m2 gq] := hd ⟨4, Ground.data⟩ (by simp) rfl rfl
            have e48 : a'.eval (.tmp 48) = .int .i64 n := hd ⟨6, Ground.data⟩ (by simp) rfl rfl
            have ec : ∀ v, a'.eval (.const v) = v := fun _ => rfl
            have ef : ∀ g, a'.eval (.func g) = .func (.func g) #[] #[] := fun _ => rfl
            clear hd hs
            refine wpc ?_ (Calls.mono (rowL_of (args := [_, _]) (rnext_raw gs n2 gc gt m2 gq E n w' hm3 (HE5.out.later hg))) fun e w2 ⟨v, he, hb, hv⟩ => ⟨v, he, _, rfl, hb, hv⟩)
            (generalize a'.eval = ev at ec ef e46 e48 ⊢; simp [execOp, go_sem, *])
          · refine stepK_run hstab trivial (by intro j b h; cases h) ?_
            intro a' w' hg hs hd
            obtain ⟨sl45, nl45, cl45, e45, h45⟩ : IsRowL (nextP E n) (a'.eval (.tmp 45)) w' := hd ⟨3, Ground.data⟩ (by simp) rfl rfl
            obtain ⟨sl49, nl49, cl49, e49, h49⟩ : IsRowL (nextP E n) (a'.eval (.tmp 49)) w' := hd ⟨7, Ground.data⟩ (by simp) rfl rfl
            have ec : ∀ v, a'.eval (.const v) = v := fun _ => rfl
            have ef : ∀ g, a'.eval (.func g) = .func (.func g) #[] #[] := fun _ => rfl
            clear hd hs
            refine wpc ?_ (Calls.mono (sameL_self sl45 sl49 cl45 cl49 nl45 nl49 (nextP E n) w' (by have := h45.1; omega) h45 h49) fun e w2 ⟨he, hb⟩ => ⟨_, he, _, rfl, hb, rfl⟩)
            (generalize a'.eval = ev at ec ef e45 e49 ⊢; simp [execOp, go_sem, *])
          · refine stepK_run hstab trivial (by intro j b h; cases h) ?_
            intro a' w' hg hs hd
            have e50 : a'.eval (.tmp 50) = .bool true := hd ⟨8, Ground.data⟩ (by simp) rfl rfl
            have ec : ∀ v, a'.eval (.const v) = v := fun _ => rfl
            have ef : ∀ g, a'.eval (.func g) = .func (.func g) #[] #[] := fun _ => rfl
            clear hd hs
            refine wpv (v := .bool true) ?_ ⟨_, rfl, Grow.rfl' _, rfl⟩
            (generalize a'.eval = ev at ec ef e50 ⊢; simp [execOp, go_sem, *])
        · intro a' w' hg hs hd
          have G6 := hide (Grow.trans' G5.out hg)
          have KG6 := hide (KG5.out.later hg)
          have KL6 := hide (KL5.out.later hg)
          have HN6 := hide (HN5.out.later hg)
          have HE6 := hide (HE5.out.later hg)
          clear G5 KG5 KL5 HN5 HE5 hg
          have fz42 : a'.tmps.getD 42 undef = .agg #[.slice gs n2 gc, .slice gt m2 gq] := hd 0 (by simp) (by intro k h; cases h); have fz43 : a'.tmps.getD 43 undef = .pointer (some ⟨P + 1, 0, none⟩) := hd 1 (by simp) (by intro k h; cases h); have fz44 : a'.tmps.getD 44 undef = .int .i64 n := hd 2 (by simp) (by intro k h; cases h); have fz46 : a'.tmps.getD 46 undef = .agg #[.slice gs n2 gc, .slice gt m2 gq] := hd 4 (by simp) (by intro k h; cases h); have fz47 : a'.tmps.getD 47 undef = .pointer (some ⟨P + 1, 0, none⟩) := hd 5 (by simp) (by intro k h; cases h); have fz48 : a'.tmps.getD 48 undef = .int .i64 n := hd 6 (by simp) (by intro k h; cases h); have fz50 : a'.tmps.getD 50 undef = .bool true := hd 8 (by simp) (by intro k h; cases h); have fz8 : a'.tmps.getD 8 undef = .bool true := hd 9 (by simp) (by intro k h; cases h); rw [frame_eq hs [false, false, false, false, false, false, false, false, true, false, false, false, false, false, false, false, false, false, false, false, false, false, false, false, false, false, false, false, false, false, false, false, false, false, false, false, false, false, false, false, false, false, true, true, true, true, true, true, true, true, true, false, false, false, false, false, false, false, false, false, false, false, false, false, false, false, false, false, false, false, false, false, false, false, false, false, false, false, false, false, false, false, false, false, false, false] (by kernel_rfl)]; simp only [mergeL, fz42, fz43, fz44, fz46, fz47, fz48, fz50, fz8]; clear hs hd hstab fz42 fz43 fz44 fz46 fz47 fz48 fz50 fz8; generalize a'.tmps = TT at *
          generalize w' = w6 at *
          go_wp2_with fail
          let FF : Nat → Value → World → Prop := fun i vF wF => match i with | 0 => vF = .agg #[.slice gs n2 gc, .slice gt m2 gq] | 1 => vF = .agg #[.int .i64 n, .int .i64 p] | 2 => IsRowI (prevP E ⟨n, p⟩) vF wF | 3 => vF = .agg #[.slice gs n2 gc, .slice gt m2 gq] | 4 => vF = .agg #[.int .i64 n, .int .i64 p] | 5 => IsRowI (prevP E ⟨n, p⟩) vF wF | 6 => vF = .bool true | 7 => vF = .bool true | _ => True
          have hstab : ∀ k v w1 w2, Grow w1 w2 → FF k v w1 → FF k v w2 := by
            intro k v w1 w2 hg h
            match k with
            | 0 => exact h
            | 1 => exact h
            | 2 => exact IsRowI.later hg h
            | 3 => exact h
            | 4 => exact h
            | 5 => exact IsRowI.later hg h
            | 6 => exact h
            | 7 => exact h
            | k + 8 => exact trivial
          refine wp_region_invK FF (fun _ => none) (by kernel_rfl) (by kernel_rfl) ?_ ?_
          · refine ⟨?_, ?_, ?_, ?_, ?_, ?_, ?_, ?_, trivial⟩
            · refine stepK_run hstab trivial (by intro j b h; cases h) ?_
              intro a' w' hg hs hd
              have e2 : a'.eval (.tmp 2) = .pointer (some ⟨P, 0, none⟩) := hs.rest 2 rfl
              have ec : ∀ v, a'.eval (.const v) = v := fun _ => rfl
              have ef : ∀ g, a'.eval (.func g) = .func (.func g) #[] #[] := fun _ => rfl
              clear hd hs
              obtain ⟨k0, k1⟩ := KG6.out.later hg; dsimp only at k0 k1
              refine wpv (v := .agg #[.slice gs n2 gc, .slice gt m2 gq]) ?_ ⟨_, rfl, Grow.rfl' _, rfl⟩
              (generalize a'.eval = ev at ec ef e2 ⊢; simp [execOp, go_sem, *])
            · refine stepK_run hstab trivial (by intro j b h; cases h) ?_
              intro a' w' hg hs hd
              have e3 : a'.eval (.tmp 3) = .pointer (some ⟨P + 1, 0, none⟩) := hs.rest 3 rfl
              have ec : ∀ v, a'.eval (.const v) = v := fun _ => rfl
              have ef : ∀ g, a'.eval (.func g) = .func (.func g) #[] #[] := fun _ => rfl
              clear hd hs
              obtain ⟨l0, l1⟩ := KL6.out.later hg; dsimp only at l0 l1
              refine wpv (v := .agg #[.int .i64 n, .int .i64 p]) ?_ ⟨_, rfl, Grow.rfl' _, rfl⟩
              (generalize a'.eval = ev at ec ef e3 ⊢; simp [execOp, go_sem, *])
            · refine stepK_run hstab trivial (by intro j b h; cases h) ?_
              intro a' w' hg hs hd
              have e51 : a'.eval (.tmp 51) = .agg #[.slice gs n2 gc, .slice gt m2 gq] := hd ⟨0, Ground.data⟩ (by simp) rfl rfl
              have e52 : a'.eval (.tmp 52) = .agg #[.int .i64 n, .int .i64 p] := hd ⟨1, Ground.data⟩ (by simp) rfl rfl
              have ec : ∀ v, a'.eval (.const v) = v := fun _ => rfl
              have ef : ∀ g, a'.eval (.func g) = .func (.func g) #[] #[] := fun _ => rfl
              clear hd hs
              refine wpc ?_ (Calls.mono (rowI_of (args := [_, _]) (prev_raw gs n2 gc gt m2 gq E n p w' hm3 (HE6.out.later hg))) fun e w2 ⟨v, he, hb, hv⟩ => ⟨v, he, _, rfl, hb, hv⟩)
              (generalize a'.eval = ev at ec ef e51 e52 ⊢; simp [execOp, go_sem, *])
            · refine stepK_run hstab trivial (by intro j b h; cases h) ?_
              intro a' w' hg hs hd
              have e2 : a'.eval (.tmp 2) = .pointer (some ⟨P, 0, none⟩) := hs.rest 2 rfl
              have ec : ∀ v, a'.eval (.const v) = v := fun _ => rfl
              have ef : ∀ g, a'.eval (.func g) = .func (.func g) #[] #[] := fun _ => rfl
              clear hd hs
              obtain ⟨k0, k1⟩ := KG6.out.later hg; dsimp only at k0 k1
              refine wpv (v := .agg #[.slice gs n2 gc, .slice gt m2 gq]) ?_ ⟨_, rfl, Grow.rfl' _, rfl⟩
              (generalize a'.eval = ev at ec ef e2 ⊢; simp [execOp, go_sem, *])
            · refine stepK_run hstab trivial (by intro j b h; cases h) ?_
              intro a' w' hg hs hd
              have e3 : a'.eval (.tmp 3) = .pointer (some ⟨P + 1, 0, none⟩) := hs.rest 3 rfl
              have ec : ∀ v, a'.eval (.const v) = v := fun _ => rfl
              have ef : ∀ g, a'.eval (.func g) = .func (.func g) #[] #[] := fun _ => rfl
              clear hd hs
              obtain ⟨l0, l1⟩ := KL6.out.later hg; dsimp only at l0 l1
              refine wpv (v := .agg #[.int .i64 n, .int .i64 p]) ?_ ⟨_, rfl, Grow.rfl' _, rfl⟩
              (generalize a'.eval = ev at ec ef e3 ⊢; simp [execOp, go_sem, *])
            · refine stepK_run hstab trivial (by intro j b h; cases h) ?_
              intro a' w' hg hs hd
              have e54 : a'.eval (.tmp 54) = .agg #[.slice gs n2 gc, .slice gt m2 gq] := hd ⟨3, Ground.data⟩ (by simp) rfl rfl
              have e55 : a'.eval (.tmp 55) = .agg #[.int .i64 n, .int .i64 p] := hd ⟨4, Ground.data⟩ (by simp) rfl rfl
              have ec : ∀ v, a'.eval (.const v) = v := fun _ => rfl
              have ef : ∀ g, a'.eval (.func g) = .func (.func g) #[] #[] := fun _ => rfl
              clear hd hs
              refine wpc ?_ (Calls.mono (rowI_of (args := [_, _]) (rprev_raw gs n2 gc gt m2 gq E n p w' hm3 (HE6.out.later hg))) fun e w2 ⟨v, he, hb, hv⟩ => ⟨v, he, _, rfl, hb, hv⟩)
              (generalize a'.eval = ev at ec ef e54 e55 ⊢; simp [execOp, go_sem, *])
            · refine stepK_run hstab trivial (by intro j b h; cases h) ?_
              intro a' w' hg hs hd
              obtain ⟨sl53, nl53, cl53, e53, h53⟩ : IsRowI (prevP E ⟨n, p⟩) (a'.eval (.tmp 53)) w' := hd ⟨2, Ground.data⟩ (by simp) rfl rfl
              obtain ⟨sl56, nl56, cl56, e56, h56⟩ : IsRowI (prevP E ⟨n, p⟩) (a'.eval (.tmp 56)) w' := hd ⟨5, Ground.data⟩ (by simp) rfl rfl
              have ec : ∀ v, a'.eval (.const v) = v := fun _ => rfl
              have ef : ∀ g, a'.eval (.func g) = .func (.func g) #[] #[] := fun _ => rfl
              clear hd hs
              refine wpc ?_ (Calls.mono (numsR_self sl53 sl56 cl53 cl56 nl53 nl56 (prevP E ⟨n, p⟩) w' (by have := h53.1; omega) h53 h56) fun e w2 ⟨he, hb⟩ => ⟨_, he, _, rfl, hb, rfl⟩)
              (generalize a'.eval = ev at ec ef e53 e56 ⊢; simp [execOp, go_sem, *])
            · refine stepK_run hstab trivial (by intro j b h; cases h) ?_
              intro a' w' hg hs hd
              have e57 : a'.eval (.tmp 57) = .bool true := hd ⟨6, Ground.data⟩ (by simp) rfl rfl
              have ec : ∀ v, a'.eval (.const v) = v := fun _ => rfl
              have ef : ∀ g, a'.eval (.func g) = .func (.func g) #[] #[] := fun _ => rfl
              clear hd hs
              refine wpv (v := .bool true) ?_ ⟨_, rfl, Grow.rfl' _, rfl⟩
              (generalize a'.eval = ev at ec ef e57 ⊢; simp [execOp, go_sem, *])
          · intro a' w' hg hs hd
            have G7 := hide (Grow.trans' G6.out hg)
            have KG7 := hide (KG6.out.later hg)
            have KL7 := hide (KL6.out.later hg)
            have HN7 := hide (HN6.out.later hg)
            clear G6 KG6 KL6 HN6 HE6 hg
            have fz51 : a'.tmps.getD 51 undef = .agg #[.slice gs n2 gc, .slice gt m2 gq] := hd 0 (by simp) (by intro k h; cases h); have fz52 : a'.tmps.getD 52 undef = .agg #[.int .i64 n, .int .i64 p] := hd 1 (by simp) (by intro k h; cases h); have fz54 : a'.tmps.getD 54 undef = .agg #[.slice gs n2 gc, .slice gt m2 gq] := hd 3 (by simp) (by intro k h; cases h); have fz55 : a'.tmps.getD 55 undef = .agg #[.int .i64 n, .int .i64 p] := hd 4 (by simp) (by intro k h; cases h); have fz57 : a'.tmps.getD 57 undef = .bool true := hd 6 (by simp) (by intro k h; cases h); have fz9 : a'.tmps.getD 9 undef = .bool true := hd 7 (by simp) (by intro k h; cases h); rw [frame_eq hs [false, false, false, false, false, false, false, false, false, true, false, false, false, false, false, false, false, false, false, false, false, false, false, false, false, false, false, false, false, false, false, false, false, false, false, false, false, false, false, false, false, false, false, false, false, false, false, false, false, false, false, true, true, true, true, true, true, true, false, false, false, false, false, false, false, false, false, false, false, false, false, false, false, false, false, false, false, false, false, false, false, false, false, false, false, false] (by kernel_rfl)]; simp only [mergeL, fz51, fz52, fz54, fz55, fz57, fz9]; clear hs hd hstab fz51 fz52 fz54 fz55 fz57 fz9; generalize a'.tmps = TT at *
            generalize w' = w7 at *
            go_wp2_with fail
            obtain ⟨k0, k1⟩ := KG7.out
            obtain ⟨l0, l1⟩ := KL7.out
            dsimp only at k0 k1 l0 l1
            have sk0 := cell_regrown k0
            have sk1 := cell_regrown k1
            have sl0 := cell_regrown l0
            have sl1 := cell_regrown l1
            obtain ⟨r, hr⟩ : ∃ r, isP N ⟨n, p⟩ = r := ⟨_, rfl⟩
            obtain ⟨z, hz⟩ : ∃ z, depP N ⟨n, p⟩ = z := ⟨_, rfl⟩
            have HQ := fun dd os => HN7.out.later (below_regrown w7 dd os)
            have Q1 := hide (fun dd os => Calls.regrown_of (is_raw gs n2 gc gt m2 gq N n p (grow (redrawn w7 dd) os) (by omega) (HQ dd os)))
            have R1 := hide (fun dd os => Calls.regrown_of (ris_raw gs n2 gc gt m2 gq N n p (grow (redrawn w7 dd) os) hn3 (HQ dd os)))
            have Q2 := hide (fun dd os => Calls.regrown_of (dep_raw gs n2 gc gt m2 gq N n p (grow (redrawn w7 dd) os) hn3 (HQ dd os)))
            have R2 := hide (fun dd os => Calls.regrown_of (rdep_raw gs n2 gc gt m2 gq N n p (grow (redrawn w7 dd) os) hn3 (HQ dd os)))
            rw [hr] at Q1 R1
            rw [hz] at Q2 R2
            clear hr hz HQ
            refine wp_region_quiet_below (by kernel_rfl) (by kernel_rfl) ?_
            repeat (go_big_quiet_step (first | (go_at_call 29; exact Q1.out _ _) | (go_at_call 30; exact R1.out _ _) | (go_at_call 31; exact Q2.out _ _) | (go_at_call 32; exact R2.out _ _)))
            refine wpQuiet_nil ?_
            intro _ hw'
            obtain ⟨⟨dq, osq⟩, hw''⟩ := hw'
            subst hw''
            have G8 := hide (Grow.trans' G7.out (below_regrown w7 dq osq))
            clear sk0 sk1 sl0 sl1 k0 k1 l0 l1
            go_wp2_with fail
            go_ret
            exact ⟨rfl, G8.out⟩

theorem GraphPlaces_any (g : GA) (l : Lc) (w : World) (hg : IsG w g) :
    Calls Try.prog 4 #[.agg #[.slice g.s g.n g.c, .slice g.t g.m g.q], .agg #[.int .i64 l.n, .int .i64 l.p]] w fun r w' => r = .returned (.bool true) ∧ Grow w w' :=
  places_raw g.s g.n g.c g.t g.m g.q g.N g.E l.n l.p w hg.nodes hg.edges

set_option maxRecDepth 100000 in
theorem GraphPlaces_lifted (os : Os) (started : os.Started) (H : Type) (enc : TypeId × Value → H) :
    ReturnsInHanded {} Try.checked os 4 .any (Rows.graphPlacesSpec.pre6 enc Try.prog Try.f4 Rows.graphPlacesRow.domain false) (Rows.graphPlacesSpec.post enc Try.prog Try.f4 false true false false) := by
  refine returnsInHanded_of_change (C := Try.checked) own started (by kernel_rfl) Try.func4
    (ChangeSpec.witness6 (enc := enc) (C := Try.checked) false ⟨#[], #[.agg #[.slice none 0 0, .slice none 0 0], .agg #[.int .i64 0, .int .i64 0]], []⟩ 8 (by kernel_rfl) (by kernel_rfl) (by kernel_rfl) (by kernel_rfl)) ?_
  intro W base args ds gs before hval0 hW hcnd _
  have hval : ∀ (j : Nat) t v, Try.f4.params[j]? = some t → args[j]? = some v → Value.okWide Try.prog W .any base t v := hval0
  have hW' := hW
  obtain ⟨p, q, hA0, hV, rfl, hfz, hnd⟩ := hW
  have hA : DataW.TrodAll enc Try.prog W 0 (fun _ => true) true Try.f4.params.toList args.toList ds p := hA0
  rw [Try.params4] at hA hval
  obtain ⟨v0, vs0, d0, ds0, p0, q0, hargs, rfl, rfl, h0, r0⟩ := trodAll_cons hA
  obtain ⟨v1, vs1, d1, ds1, p1, q1, rfl, rfl, rfl, h1, r1⟩ := trodAll_cons r0
  obtain ⟨rfl, rfl, rfl⟩ := trodAll_nil r1
  obtain rfl : args = #[v0, v1] := by cases args; simp_all
  obtain ⟨rfl, rfl⟩ := trodVars_none hV
  have k0 := h0
  have lt0 : ∀ x ∈ p0, x.block < W.heap.size := by obtain ⟨m, hm⟩ := k0; exact DataW.trod_lt m _ _ _ hm
  obtain ⟨t0, rfl, w0⟩ := open_gr (hval 0 39 v0 rfl rfl) h0
  have k1 := h1
  have lt1 : ∀ x ∈ p1, x.block < W.heap.size := by obtain ⟨m, hm⟩ := k1; exact DataW.trod_lt m _ _ _ hm
  obtain ⟨t1, rfl, w1⟩ := open_lc (hval 1 25 v1 rfl rfl) h1
  clear hA0 hval0
  refine (GraphPlaces_any t0 t1 W w0).mono fun e W' ⟨he, bel⟩ => ?_
  subst he
  exact ⟨_, rfl, _, _, _, [], _, [], hW', trodAll_mk1 (shut_bool Try.underlying4 _), (trodAll_cons_mk (Below.trod laidOut (by kernel_rfl) (of_decide_eq_true (by kernel_rfl)) k0 bel lt0) (trodAll_cons_mk (Below.trod laidOut (by kernel_rfl) (of_decide_eq_true (by kernel_rfl)) k1 bel lt1) trodAll_mk0)), rfl, bel.frame _, fun h => by cases h⟩

/-- The given statement. -/
theorem GraphPlaces_holds : Rows.GraphPlacesSaid :=
  OpenClaim.holds_of_wide 4 Try.f4 rfl rfl rfl rfl rfl rfl rfl ⟨rfl, rfl, rfl, rfl, rfl⟩ rfl rfl rfl rfl rfl (by kernel_rfl) Try.func4 (by kernel_rfl)
    (of_decide_eq_true (by kernel_rfl)) (by unfold Func.isWrapper; first | (rw [if_pos (by decide +kernel)]; kernel_rfl) | (rw [if_neg (by decide +kernel)]; exact ⟨rfl, rfl⟩))
    (fun os started H enc _ => GraphPlaces_lifted os started H enc)


end Go.Proofs.Ytjpaclcpebpcjaa
