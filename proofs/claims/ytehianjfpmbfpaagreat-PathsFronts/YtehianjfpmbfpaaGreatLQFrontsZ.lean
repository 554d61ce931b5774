/-
  PathsFronts: of every graph that is accepted, every row of changes (its first 20) and every place: the front of the whole row is the chain of the fronts of its two halves; changes with nothing added have none; of another graph nothing is asked.
-/
import Derived.Test.YtehianjfpmbfpaaGreatQHdZ
import Derived.Test.YtehianjfpmbfpaaGreatQThZ
import Derived.Test.YtehianjfpmbfpaaGreatQFrZ
import Derived.Test.YtehianjfpmbfpaaGreatRTmZ
import Derived.Test.YtehianjfpmbfpaaGreatSmeGZ
import Derived.Test.YtehianjfpmbfpaaGreatEndGZ
namespace Go.Proofs.YtehianjfpmbfpaaGreat
set_option maxRecDepth 100000
open Go.ChangeShapes Go.WideShapes Go.ChangeAt Go.RowKit Go.Deep Go.Sort
attribute [local go_sem ↓] run_headC run_tailC run_minI
set_option linter.unusedVariables false
set_option linter.unusedSimpArgs false

set_option maxHeartbeats 8000000 in
theorem PathsFronts_any (g : GA) (b : Lc) (s : Option Addr) (n c : Nat) (cs : List Ch) (w : World) (hg : IsG w g) (hb : LcWf b) (hcs : IsChs w s n c cs) (hwf : ∀ x ∈ cs, LcWf x.l) :
    Calls Tryz.prog 8 #[.agg #[.slice g.s g.n g.c, .slice g.t g.m g.q], .agg #[.int .i64 b.n, .int .i64 b.p], .slice s n c] w fun r w' => r = .returned (.bool true) ∧ Grow w w' := by
  have GG : Hid (Grow w ((w.alloc (.cells #[.slice g.s g.n g.c, .slice g.t g.m g.q] 25)).alloc (.cells #[.int .i64 b.n, .int .i64 b.p] 27))) := hide (Grow.trans' (Grow.alloc' _ _) (Grow.alloc' _ _))
  have KG : Hid (BoxG ((w.alloc (.cells #[.slice g.s g.n g.c, .slice g.t g.m g.q] 25)).alloc (.cells #[.int .i64 b.n, .int .i64 b.p] 27)) w.heap.size g) := hide ((BoxG.new w g).later (Grow.alloc' _ _))
  have KT : Hid (BoxL ((w.alloc (.cells #[.slice g.s g.n g.c, .slice g.t g.m g.q] 25)).alloc (.cells #[.int .i64 b.n, .int .i64 b.p] 27)) (w.heap.size + 1) b) := hide (by simp [BoxL, go_sem])
  have KX := hide (hcs.later GG.out)
  have HN := hide (hg.nodes.later GG.out)
  have HE := hide (hg.edges.later GG.out)
  have F1 := hide hb
  have F2 := hide hwf
  clear hg hb hcs hwf
  go_enter Tryz.func8, Tryz.ntmps8
  go_wp2_with fail
  refine (shown_any _).mono ?_
  rintro _ w1 ⟨rfl, hb⟩
  have G1 := hide (Grow.trans' GG.out hb)
  have KG1 := hide (KG.out.later hb)
  have KT1 := hide (KT.out.later hb)
  have KX1 := hide (KX.out.later hb)
  have HN1 := hide (HN.out.later hb)
  have HE1 := hide (HE.out.later hb)
  obtain ⟨PG, hPG⟩ : ∃ PG, PG = w.heap.size := ⟨_, rfl⟩
  obtain ⟨PT, hPT⟩ : ∃ PT, PT = w.heap.size + 1 := ⟨_, rfl⟩
  rw [← hPG] at KG1
  rw [← hPT] at KT1
  clear hb GG KG KT KX HN HE
  obtain ⟨g0, g1⟩ := KG1.out
  rw [hPG] at g0 g1
  obtain ⟨q, hq⟩ : ∃ q, decide (errG g.N g.E = 0) = q := ⟨_, rfl⟩
  have CA := hide (accepted_at g.s g.n g.c g.t g.m g.q g.N g.E hq w1 HN1.out HE1.out)
  have HQ := hide hq
  clear hq
  go_wp2_with fail
  refine CA.out.mono ?_
  rintro _ w2 ⟨rfl, hb⟩
  have G2 := hide (Grow.trans' G1.out hb)
  have KG2 := hide (KG1.out.later hb)
  have KT2 := hide (KT1.out.later hb)
  have KX2 := hide (KX1.out.later hb)
  have HN2 := hide (HN1.out.later hb)
  have HE2 := hide (HE1.out.later hb)
  clear hb CA G1 KG1 KT1 KX1 HN1 HE1 g0 g1
  cases q
  · go_wp2_with fail
    go_ret
    exact ⟨rfl, G2.out⟩
  · have HA : Hid (AccG g.N g.E) := hide (errG_zero.1 (of_decide_eq_true HQ.out))
    obtain ⟨g0, g1⟩ := KG2.out
    rw [hPG] at g0 g1
    have CC : Hid (∃ (n2 : Nat) (cs2 : List Ch), n2 ≤ 20 ∧ IsChs w2 s n2 c cs2 ∧ (∀ x ∈ cs2, LcWf x.l) ∧ ((20 < n ∧ n2 = 20) ∨ (¬ 20 < n ∧ n2 = n))) := hide (by
      by_cases h : 20 < n
      · exact ⟨20, cs.take 20, Nat.le_refl _, KX2.out.take' 20 (by omega), fun x hx => F2.out x (List.mem_of_mem_take hx), .inl ⟨h, rfl⟩⟩
      · exact ⟨n, cs, by omega, KX2.out, F2.out, .inr ⟨h, rfl⟩⟩)
    have hcn := KX2.out.2.1
    clear F2 KX2
    obtain ⟨n2, cs2, hn2, hcs2, hwf2, hcase⟩ := CC.out
    have HC2 := hide hcs2
    have F2 := hide hwf2
    clear CC hcs2 hwf2
    have CN := hide (new_any g.s g.n g.c g.t g.m g.q g.N g.E HA.out w2 HN2.out HE2.out)
    have hr : ∀ w', 20 < n → (Instr.slice 37 (.slice s n c) none (some (.int .i64 20)) none).run Tryz.prog w' = .ok (.slice s n2 c) w' := fun w' h => by
      have h3 : n2 = 20 := by omega
      subst h3
      exact run_headC s n c 20 w' (by omega)
    rcases hcase with ⟨h1, h2⟩ | ⟨h1, h2⟩
    focus
      have h1' : (20 : Int) < (n : Int) := by omega
      have hr' := fun w' => hr w' h1
      clear hr h2
      go_wp2_with fail
    rotate_left
    focus
      have h1' : ¬ (20 : Int) < (n : Int) := by omega
      subst h2
      clear hr
      go_wp2_with fail
    all_goals
      have HL2 : Hid (cs2.length = n2) := hide HC2.out.1
      have hcn2 : n2 ≤ c := HC2.out.2.1
      try clear hr'
      try clear hcn
      clear h1 h1'
      refine CN.out.mono ?_
      rintro _ w3 ⟨p, rfl, hb, hI⟩
      have G3 := hide (Grow.trans' G2.out hb)
      have KT3 := hide (KT2.out.later hb)
      have HC3 := hide (HC2.out.later hb)
      have HI := hide hI
      clear hb hI CN G2 KG2 KT2 HC2 HN2 HE2 g0 g1
      have hex : ∀ x : Lc, ∃ l : List Sm, LcWf x → SumsOf g.N g.E x b l := fun x => by
        by_cases h : LcWf x
        · obtain ⟨l, hl⟩ := HI.out.has x b h F1.out
          exact ⟨l, fun _ => hl⟩
        · exact ⟨[], fun k => absurd k h⟩
      obtain ⟨sm, hsm⟩ := Classical.axiomOfChoice hex
      clear hex
      have HSM := hide hsm
      have HB : Hid (∀ x ∈ cs2, (sm x.l).length ≤ BIG) := hide fun x hx => sumsOf_len HA.out (hsm x.l (F2.out x hx))
      clear hsm
      obtain ⟨K, hK⟩ : ∃ K : Nat, K = n2 / 2 := ⟨_, rfl⟩
      have hq : (n2 : Int) / 2 = (K : Int) := by omega
      have hK1 : K ≤ n2 := by omega
      clear hK
      have hk3 : (K : Int) ≤ (c : Int) := by omega
      have hk4 : (K : Int) ≤ (n2 : Int) := by omega
      have hk5 : (0 : Int) ≤ (K : Int) := by omega
      have hlT : (frontL sm (cs2.take K)).length ≤ 4012012004 * 20 := by
        have h1 := frontL_len (sm := sm) (cs2.take K) fun x hx => HB.out x (List.mem_of_mem_take hx)
        rw [BIG_eq] at h1
        have h2 : (cs2.take K).length ≤ 20 := by rw [List.length_take]; omega
        have h3 := Nat.mul_le_mul_right 4012012004 h2
        omega
      have hlD : (frontL sm (cs2.drop K)).length ≤ 4012012004 * 20 := by
        have h1 := frontL_len (sm := sm) (cs2.drop K) fun x hx => HB.out x (List.mem_of_mem_drop hx)
        rw [BIG_eq] at h1
        have h2 : (cs2.drop K).length ≤ 20 := by rw [List.length_drop]; have := HL2.out; omega
        have h3 := Nat.mul_le_mul_right 4012012004 h2
        omega
      have hlS : (frontL sm (cs2.take K)).length + (frontL sm (cs2.drop K)).length ≤ 4012012004 * 20 := by
        have e : (frontL sm (cs2.take K)).length + (frontL sm (cs2.drop K)).length = (frontL sm cs2).length := by
          rw [← List.length_append]
          unfold frontL
          rw [← List.flatMap_append, List.take_append_drop]
        have h1 := frontL_len (sm := sm) cs2 HB.out
        rw [BIG_eq] at h1
        have h2 : cs2.length ≤ 20 := by rw [HL2.out]; exact hn2
        have h3 := Nat.mul_le_mul_right 4012012004 h2
        omega
      have hc1 := chainO_len kinT (frontL sm (cs2.take K))
      have hc2 := chainO_len kinT (frontL sm (cs2.drop K))
      go_wp2_with fail
      rw [← hPT, ← hPG]
      clear hPT hPG
      let FF : Nat → Value → World → Prop := fun i vF wF => match i with | 0 => LitT w3.heap.size vF wF | 1 => vF = .pointer (some ⟨p, 0, none⟩) | 2 => vF = .slice s n2 c | 3 => vF = .int .i64 (K : Int) | 4 => vF = .slice s K c | 5 => vF = .agg #[.int .i64 b.n, .int .i64 b.p] | 6 => IsRowT (chainO kinT (frontL sm (cs2.take K))) vF wF | 7 => OwnRowT w3.heap.size (chainO kinT (frontL sm (cs2.take K))) vF wF | 8 => vF = .pointer (some ⟨p, 0, none⟩) | 9 => vF = .slice s n2 c | 10 => vF = .int .i64 (K : Int) | 11 => vF = .slice (fromC s c K) (n2 - K) (c - K) | 12 => vF = .agg #[.int .i64 b.n, .int .i64 b.p] | 13 => IsRowT (chainO kinT (frontL sm (cs2.drop K))) vF wF | 14 => OwnRowT w3.heap.size (chainO kinT (frontL sm (cs2.take K)) ++ chainO kinT (frontL sm (cs2.drop K))) vF wF | 15 => OwnRowT w3.heap.size (chainO kinT (frontL sm (cs2.take K)) ++ chainO kinT (frontL sm (cs2.drop K))) vF wF | _ => True
      have hstab : ∀ k v w1 w2, Grow w1 w2 → FF k v w1 → FF k v w2 := by
        intro k v w1 w2 hg h
        match k with
        | 0 => exact LitT.later hg h
        | 1 => exact h
        | 2 => exact h
        | 3 => exact h
        | 4 => exact h
        | 5 => exact h
        | 6 => exact IsRowT.later hg h
        | 7 => exact OwnRowT.later hg h
        | 8 => exact h
        | 9 => exact h
        | 10 => exact h
        | 11 => exact h
        | 12 => exact h
        | 13 => exact IsRowT.later hg h
        | 14 => exact OwnRowT.later hg h
        | 15 => exact OwnRowT.later hg h
        | k + 16 => exact trivial
      refine wp_region_invK FF (fun i => match i with | 0 => some 7 | 6 => some 7 | 7 => some 14 | 13 => some 14 | _ => none) (by kernel_rfl) (by kernel_rfl) ?_ ?_
      · refine ⟨?_, ?_, ?_, ?_, ?_, ?_, ?_, ?_, ?_, ?_, ?_, ?_, ?_, ?_, ?_, ?_, trivial⟩
        · refine stepK_run hstab trivial (by intro j b h; cases h) ?_
          intro a' w' hg hs hd
          have ec : ∀ v, a'.eval (.const v) = v := fun _ => rfl
          have ef : ∀ g, a'.eval (.func g) = .func (.func g) #[] #[] := fun _ => rfl
          clear hd hs
          refine wpv (v := .slice (some ⟨w'.heap.size, 0, none⟩) 0 0) (w' := w'.alloc (.cells #[] 43)) ?_ ⟨_, rfl, Grow.alloc' _ _, litT_new _ w3.heap.size hg.size⟩
          (generalize a'.eval = ev at ec ef ⊢; simp [execOp, go_sem, *])
        · refine stepK_run hstab trivial (by intro j b h; cases h) ?_
          intro a' w' hg hs hd
          have e9 : a'.eval (.tmp 9) = .pointer (some ⟨p, 0, none⟩) := hs.rest 9 rfl
          have ec : ∀ v, a'.eval (.const v) = v := fun _ => rfl
          have ef : ∀ g, a'.eval (.func g) = .func (.func g) #[] #[] := fun _ => rfl
          clear hd hs
          refine wpv (v := .pointer (some ⟨p, 0, none⟩)) ?_ ⟨_, rfl, Grow.rfl' _, rfl⟩
          (generalize a'.eval = ev at ec ef e9 ⊢; simp [execOp, go_sem, *])
        · refine stepK_run hstab trivial (by intro j b h; cases h) ?_
          intro a' w' hg hs hd
          have e2 : a'.eval (.tmp 2) = .slice s n2 c := hs.rest 2 rfl
          have ec : ∀ v, a'.eval (.const v) = v := fun _ => rfl
          have ef : ∀ g, a'.eval (.func g) = .func (.func g) #[] #[] := fun _ => rfl
          clear hd hs
          refine wpv (v := .slice s n2 c) ?_ ⟨_, rfl, Grow.rfl' _, rfl⟩
          (generalize a'.eval = ev at ec ef e2 ⊢; simp [execOp, go_sem, *])
        · refine stepK_run hstab trivial (by intro j b h; cases h) ?_
          intro a' w' hg hs hd
          have e10 : a'.eval (.tmp 10) = .int .i64 (K : Int) := hs.rest 10 rfl
          have ec : ∀ v, a'.eval (.const v) = v := fun _ => rfl
          have ef : ∀ g, a'.eval (.func g) = .func (.func g) #[] #[] := fun _ => rfl
          clear hd hs
          refine wpv (v := .int .i64 (K : Int)) ?_ ⟨_, rfl, Grow.rfl' _, rfl⟩
          (generalize a'.eval = ev at ec ef e10 ⊢; simp [execOp, go_sem, *])
        · refine stepK_run hstab trivial (by intro j b h; cases h) ?_
          intro a' w' hg hs hd
          have e35 : a'.eval (.tmp 35) = .slice s n2 c := hd ⟨2, Ground.data⟩ (by simp) rfl rfl
          have e36 : a'.eval (.tmp 36) = .int .i64 (K : Int) := hd ⟨3, Ground.data⟩ (by simp) rfl rfl
          have ec : ∀ v, a'.eval (.const v) = v := fun _ => rfl
          have ef : ∀ g, a'.eval (.func g) = .func (.func g) #[] #[] := fun _ => rfl
          clear hd hs
          refine wpv (v := .slice s K c) ?_ ⟨_, rfl, Grow.rfl' _, rfl⟩
          (generalize a'.eval = ev at ec ef e35 e36 ⊢; simp [execOp, go_sem, *])
        · refine stepK_run hstab trivial (by intro j b h; cases h) ?_
          intro a' w' hg hs hd
          have e4 : a'.eval (.tmp 4) = .pointer (some ⟨PT, 0, none⟩) := hs.rest 4 rfl
          have ec : ∀ v, a'.eval (.const v) = v := fun _ => rfl
          have ef : ∀ g, a'.eval (.func g) = .func (.func g) #[] #[] := fun _ => rfl
          clear hd hs
          obtain ⟨b0, b1⟩ := KT3.out.later hg
          refine wpv (v := .agg #[.int .i64 b.n, .int .i64 b.p]) ?_ ⟨_, rfl, Grow.rfl' _, rfl⟩
          (generalize a'.eval = ev at ec ef e4 ⊢; simp [execOp, go_sem, *])
        · refine stepK_run hstab trivial (by intro j b h; cases h) ?_
          intro a' w' hg hs hd
          have e34 : a'.eval (.tmp 34) = .pointer (some ⟨p, 0, none⟩) := hd ⟨1, Ground.data⟩ (by simp) rfl rfl
          have e37 : a'.eval (.tmp 37) = .slice s K c := hd ⟨4, Ground.data⟩ (by simp) rfl rfl
          have e38 : a'.eval (.tmp 38) = .agg #[.int .i64 b.n, .int .i64 b.p] := hd ⟨5, Ground.data⟩ (by simp) rfl rfl
          have ec : ∀ v, a'.eval (.const v) = v := fun _ => rfl
          have ef : ∀ g, a'.eval (.func g) = .func (.func g) #[] #[] := fun _ => rfl
          clear hd hs
          refine wpc ?_ (Calls.mono (front_any p g.N g.E HA.out b F1.out sm HSM.out s K c (cs2.take K) (fun x hx => F2.out x (List.mem_of_mem_take hx)) (by omega) w' ((HC3.out.take' K (by omega)).later hg) (HI.out.later hg)) fun e w2 ⟨v, he, hb, hv⟩ => ⟨v, he, _, rfl, hb, hv⟩)
          (generalize a'.eval = ev at ec ef e34 e37 e38 ⊢; simp [execOp, go_sem, *])
        · refine stepK_run hstab trivial (by intro j b h; cases h) ?_
          intro a' w' hg hs hd
          obtain ⟨g33, e33, h33⟩ : LitT w3.heap.size (a'.eval (.tmp 33)) w' := hd ⟨0, Ground.data⟩ (by simp) rfl rfl
          obtain ⟨sl39, nl39, cl39, e39, h39⟩ : IsRowT (chainO kinT (frontL sm (cs2.take K))) (a'.eval (.tmp 39)) w' := hd ⟨6, Ground.data⟩ (by simp) rfl rfl
          have ec : ∀ v, a'.eval (.const v) = v := fun _ => rfl
          have ef : ∀ g, a'.eval (.func g) = .func (.func g) #[] #[] := fun _ => rfl
          clear hd hs
          obtain ⟨s2, c2, w2, hrun, hown, hgb⟩ := run_ap0_tm w' 39 w3.heap.size g33 (chainO kinT (frontL sm (cs2.take K))) h33 sl39 nl39 cl39 h39 (by have a1 := h39.1; omega) hg.size
          refine wpv (v := .slice s2 _ c2) (w' := w2) ?_ ⟨_, rfl, hgb, ⟨s2, _, c2, rfl, hown⟩⟩
          unfold execOp; simp only [resolve, invoke, builtin, Sem.run_bind, Sem.run_pure, Result.andThen_ok, List.map_toArray, List.map_cons, List.map_nil, e33, e39, hrun]
        · refine stepK_run hstab trivial (by intro j b h; cases h) ?_
          intro a' w' hg hs hd
          have e9 : a'.eval (.tmp 9) = .pointer (some ⟨p, 0, none⟩) := hs.rest 9 rfl
          have ec : ∀ v, a'.eval (.const v) = v := fun _ => rfl
          have ef : ∀ g, a'.eval (.func g) = .func (.func g) #[] #[] := fun _ => rfl
          clear hd hs
          refine wpv (v := .pointer (some ⟨p, 0, none⟩)) ?_ ⟨_, rfl, Grow.rfl' _, rfl⟩
          (generalize a'.eval = ev at ec ef e9 ⊢; simp [execOp, go_sem, *])
        · refine stepK_run hstab trivial (by intro j b h; cases h) ?_
          intro a' w' hg hs hd
          have e2 : a'.eval (.tmp 2) = .slice s n2 c := hs.rest 2 rfl
          have ec : ∀ v, a'.eval (.const v) = v := fun _ => rfl
          have ef : ∀ g, a'.eval (.func g) = .func (.func g) #[] #[] := fun _ => rfl
          clear hd hs
          refine wpv (v := .slice s n2 c) ?_ ⟨_, rfl, Grow.rfl' _, rfl⟩
          (generalize a'.eval = ev at ec ef e2 ⊢; simp [execOp, go_sem, *])
        · refine stepK_run hstab trivial (by intro j b h; cases h) ?_
          intro a' w' hg hs hd
          have e10 : a'.eval (.tmp 10) = .int .i64 (K : Int) := hs.rest 10 rfl
          have ec : ∀ v, a'.eval (.const v) = v := fun _ => rfl
          have ef : ∀ g, a'.eval (.func g) = .func (.func g) #[] #[] := fun _ => rfl
          clear hd hs
          refine wpv (v := .int .i64 (K : Int)) ?_ ⟨_, rfl, Grow.rfl' _, rfl⟩
          (generalize a'.eval = ev at ec ef e10 ⊢; simp [execOp, go_sem, *])
        · refine stepK_run hstab trivial (by intro j b h; cases h) ?_
          intro a' w' hg hs hd
          have e42 : a'.eval (.tmp 42) = .slice s n2 c := hd ⟨9, Ground.data⟩ (by simp) rfl rfl
          have e43 : a'.eval (.tmp 43) = .int .i64 (K : Int) := hd ⟨10, Ground.data⟩ (by simp) rfl rfl
          have ec : ∀ v, a'.eval (.const v) = v := fun _ => rfl
          have ef : ∀ g, a'.eval (.func g) = .func (.func g) #[] #[] := fun _ => rfl
          clear hd hs
          refine wpv (v := .slice (fromC s c K) (n2 - K) (c - K)) ?_ ⟨_, rfl, Grow.rfl' _, rfl⟩
          (generalize a'.eval = ev at ec ef e42 e43 ⊢; simp [execOp, go_sem, *])
        · refine stepK_run hstab trivial (by intro j b h; cases h) ?_
          intro a' w' hg hs hd
          have e4 : a'.eval (.tmp 4) = .pointer (some ⟨PT, 0, none⟩) := hs.rest 4 rfl
          have ec : ∀ v, a'.eval (.const v) = v := fun _ => rfl
          have ef : ∀ g, a'.eval (.func g) = .func (.func g) #[] #[] := fun _ => rfl
          clear hd hs
          obtain ⟨b0, b1⟩ := KT3.out.later hg
          refine wpv (v := .agg #[.int .i64 b.n, .int .i64 b.p]) ?_ ⟨_, rfl, Grow.rfl' _, rfl⟩
          (generalize a'.eval = ev at ec ef e4 ⊢; simp [execOp, go_sem, *])
        · refine stepK_run hstab trivial (by intro j b h; cases h) ?_
          intro a' w' hg hs hd
          have e41 : a'.eval (.tmp 41) = .pointer (some ⟨p, 0, none⟩) := hd ⟨8, Ground.data⟩ (by simp) rfl rfl
          have e44 : a'.eval (.tmp 44) = .slice (fromC s c K) (n2 - K) (c - K) := hd ⟨11, Ground.data⟩ (by simp) rfl rfl
          have e45 : a'.eval (.tmp 45) = .agg #[.int .i64 b.n, .int .i64 b.p] := hd ⟨12, Ground.data⟩ (by simp) rfl rfl
          have ec : ∀ v, a'.eval (.const v) = v := fun _ => rfl
          have ef : ∀ g, a'.eval (.func g) = .func (.func g) #[] #[] := fun _ => rfl
          clear hd hs
          refine wpc ?_ (Calls.mono (front_any p g.N g.E HA.out b F1.out sm HSM.out (fromC s c K) (n2 - K) (c - K) (cs2.drop K) (fun x hx => F2.out x (List.mem_of_mem_drop hx)) (by omega) w' ((HC3.out.from' K (by omega)).later hg) (HI.out.later hg)) fun e w2 ⟨v, he, hb, hv⟩ => ⟨v, he, _, rfl, hb, hv⟩)
          (generalize a'.eval = ev at ec ef e41 e44 e45 ⊢; simp [execOp, go_sem, *])
        · refine stepK_take rfl ?_
          intro a' w' hg hs hd
          obtain ⟨sc40, nc40, cc40, e40, h40⟩ : OwnRowT w3.heap.size (chainO kinT (frontL sm (cs2.take K))) (a'.eval (.tmp 40)) w' := hd ⟨7, Ground.data⟩ (by simp) rfl rfl
          obtain ⟨sl46, nl46, cl46, e46, h46⟩ : IsRowT (chainO kinT (frontL sm (cs2.drop K))) (a'.eval (.tmp 46)) w' := hd ⟨13, Ground.data⟩ (by simp) rfl rfl
          have ec : ∀ v, a'.eval (.const v) = v := fun _ => rfl
          have ef : ∀ g, a'.eval (.func g) = .func (.func g) #[] #[] := fun _ => rfl
          clear hd hs
          obtain ⟨s2, c2, w2, hrun, hown, hgb⟩ := run_apv_tm w' 39 w3.heap.size sc40 nc40 cc40 _ _ h40 sl46 nl46 cl46 h46 (by have a1 := h40.1; have a2 := h46.1; omega) hg.size
          refine wpv (v := .slice s2 _ c2) (w' := w2) ?_ ⟨_, rfl, hgb.grow hg (Nat.le_refl _), ⟨s2, _, c2, rfl, hown⟩, ?_⟩
          rotate_left
          · intro j u hj h
            match j with
            | 0 => cases hj
            | 1 => exact h
            | 2 => exact h
            | 3 => exact h
            | 4 => exact h
            | 5 => exact h
            | 6 => cases hj
            | 7 => cases hj
            | 8 => exact h
            | 9 => exact h
            | 10 => exact h
            | 11 => exact h
            | 12 => exact h
            | 13 => cases hj
            | 14 => cases hj
            | 15 => cases hj
            | j + 16 => exact trivial
          · unfold execOp; simp only [resolve, invoke, builtin, Sem.run_bind, Sem.run_pure, Result.andThen_ok, List.map_toArray, List.map_cons, List.map_nil, e40, e46, hrun]
        · refine stepK_run hstab trivial (by intro j b h; cases h) ?_
          intro a' w' hg hs hd
          have hq : OwnRowT w3.heap.size (chainO kinT (frontL sm (cs2.take K)) ++ chainO kinT (frontL sm (cs2.drop K))) (a'.eval (.tmp 47)) w' := hd ⟨14, Ground.data⟩ (by simp) rfl rfl
          have ec : ∀ v, a'.eval (.const v) = v := fun _ => rfl
          have ef : ∀ g, a'.eval (.func g) = .func (.func g) #[] #[] := fun _ => rfl
          clear hd hs
          refine wpv (v := a'.eval (.tmp 47)) ?_ ⟨_, rfl, Grow.rfl' _, hq⟩
          simp [execOp, go_sem]
      · intro a' w' hg hs hd
        obtain ⟨sz, nz, cz, e11, h11⟩ : OwnRowT w3.heap.size (chainO kinT (frontL sm (cs2.take K)) ++ chainO kinT (frontL sm (cs2.drop K))) (a'.eval (.tmp 11)) w' := hd 15 (by simp) (by intro k h; cases h)
        have z11 : a'.tmps.getD 11 undef = .slice sz nz cz := e11
        have G4 := hide (Grow.trans' G3.out hg)
        have KT4 := hide (KT3.out.later hg)
        have HC4 := hide (HC3.out.later hg)
        have HI4 := hide (HI.out.later hg)
        have RZ := hide h11.is
        have hnz : nz ≤ 4012012004 * 20 := by
          have a1 := h11.1
          rw [List.length_append] at a1
          omega
        clear hg h11 e11 G3 KT3 HC3 HI
        have fz34 : a'.tmps.getD 34 undef = .pointer (some ⟨p, 0, none⟩) := hd 1 (by simp) (by intro k h; cases h); have fz35 : a'.tmps.getD 35 undef = .slice s n2 c := hd 2 (by simp) (by intro k h; cases h); have fz36 : a'.tmps.getD 36 undef = .int .i64 (K : Int) := hd 3 (by simp) (by intro k h; cases h); have fz37 : a'.tmps.getD 37 undef = .slice s K c := hd 4 (by simp) (by intro k h; cases h); have fz38 : a'.tmps.getD 38 undef = .agg #[.int .i64 b.n, .int .i64 b.p] := hd 5 (by simp) (by intro k h; cases h); have fz41 : a'.tmps.getD 41 undef = .pointer (some ⟨p, 0, none⟩) := hd 8 (by simp) (by intro k h; cases h); have fz42 : a'.tmps.getD 42 undef = .slice s n2 c := hd 9 (by simp) (by intro k h; cases h); have fz43 : a'.tmps.getD 43 undef = .int .i64 (K : Int) := hd 10 (by simp) (by intro k h; cases h); have fz44 : a'.tmps.getD 44 undef = .slice (fromC s c K) (n2 - K) (c - K) := hd 11 (by simp) (by intro k h; cases h); have fz45 : a'.tmps.getD 45 undef = .agg #[.int .i64 b.n, .int .i64 b.p] := hd 12 (by simp) (by intro k h; cases h); rw [frame_eq hs [false, false, false, false, false, false, false, false, false, false, false, true, false, false, false, false, false, false, false, false, false, false, false, false, false, false, false, false, false, false, false, false, false, true, true, true, true, true, true, true, true, true, true, true, true, true, true, true, false, false, false, false, false, false, false, false, false, false, false, false, false, false, false, false, false, false, false, false, false, false, false, false, false, false, false, false, false, false, false, false, false, false, false, false, false, false, false, false, false, false, false, false, false, false] (by kernel_rfl)]; simp only [mergeL, z11, fz34, fz35, fz36, fz37, fz38, fz41, fz42, fz43, fz44, fz45]; clear hs hd hstab fz34 fz35 fz36 fz37 fz38 fz41 fz42 fz43 fz44 fz45; generalize a'.tmps = TT at *
        generalize w' = w4 at *
        go_wp2_with fail
        go_loopw [12, 13] (fun v i wr => ∃ (k : Nat) (s' : Option Addr) (c' : Nat), k ≤ n2 ∧ v = .slice s' k c' ∧ i = .int .i64 k ∧ Grow w4 wr ∧ OwnC wr w4.heap.size s' k c' (noneL (cs2.take k))) (fun _ i _ => n2 - (intOf i).toNat)
        case atStart => exact ⟨0, _, 0, Nat.zero_le _, rfl, rfl, Grow.alloc' _ _, by simpa [noneL] using OwnC.lit0 w4 w4.heap.size (Nat.le_refl _)⟩
        case round =>
          obtain ⟨k, s', c', hk, rfl, rfl, hg, hO⟩ := hrel
          have HG := hide hg
          have HO := hide hO
          clear hO
          by_cases hlt : k < n2
          · have hkd : k < cs2.length := by rw [HL2.out]; exact hlt
            have hne : ¬ cs2 = [] := fun h => by rw [h] at hkd; simp at hkd
            obtain ⟨bs, os, rfl, hrs⟩ := HC4.out.2.2.resolve_left hne
            have HAt := fun w' (h : Grow w4 w') => (hrs.later h).at k hkd
            have HMS := hide (noneL_step cs2 k hkd)
            obtain ⟨y, hy⟩ : ∃ y, y = cs2[k] := ⟨_, rfl⟩
            rw [← hy] at HMS
            simp only [← hy] at HAt
            obtain ⟨A, hA⟩ : ∃ A, A = noneL (cs2.take k) := ⟨_, rfl⟩
            rw [← hA] at HMS HO
            have hi1 : (0 : Int) ≤ (k : Int) := by omega
            have hi2 : (k : Int) < (n2 : Int) := by omega
            clear hne hrs hy hkd hg hA
            obtain ⟨w5, rfl⟩ : ∃ w5 : World, w5 = wr := ⟨_, rfl⟩
            have HGG : ∀ wa wb, Grow w4 wa → Grow wa wb → Grow w4 wb := fun _ _ h q => Grow.trans' h q
            have HBG : ∀ wa wb, Grow wa wb → OwnC wa w4.heap.size s' k c' A → OwnC wb w4.heap.size s' k c' A := fun _ _ q h => h.later q
            have HG0 : ∀ w', Grow w5 w' → w'.heap = w5.heap → Grow w4 w' := fun _ h _ => Grow.trans' HG.out h
            have HB0 : ∀ w', Grow w5 w' → w'.heap = w5.heap → OwnC w' w4.heap.size s' k c' A := fun _ h _ => HO.out.later h
            go_wp2_with fail
            let FF : Nat → Value → World → Prop := fun i vF wF => match i with | 0 => vF = .slice s' k c' | 1 => vF = .slice (some ⟨bs, os, none⟩) n2 c | 2 => vF = .int .i64 (k : Int) | 3 => vF = .pointer (some ⟨bs, os + k * 8, none⟩) | 4 => vF = .pointer (some ⟨bs, os + k * 8, none⟩) | 5 => vF = .agg #[.int .i64 y.l.n, .int .i64 y.l.p] | 6 => vF = .slice (some ⟨bs, os, none⟩) n2 c | 7 => vF = .int .i64 (k : Int) | 8 => vF = .pointer (some ⟨bs, os + k * 8, none⟩) | 9 => vF = .pointer (some ⟨bs, os + k * 8 + 2, none⟩) | 10 => vF = .agg #[.int .i64 y.t.e, .int .i64 y.t.d, .int .i64 y.t.x, .int .i64 y.t.y, .int .i64 y.t.z] | 11 => vF = .slice (some ⟨bs, os, none⟩) n2 c | 12 => vF = .int .i64 (k : Int) | 13 => vF = .pointer (some ⟨bs, os + k * 8, none⟩) | 14 => vF = .pointer (some ⟨bs, os + k * 8 + 7, none⟩) | 15 => vF = .int .i64 y.n | 16 => vF = .int .i64 (minI 0 y.n) | 17 => vF = .agg #[.int .i64 y.l.n, .int .i64 y.l.p, .int .i64 y.t.e, .int .i64 y.t.d, .int .i64 y.t.x, .int .i64 y.t.y, .int .i64 y.t.z, .int .i64 (minI 0 y.n)] | 18 => OneC ⟨y.l, y.t, minI 0 y.n⟩ vF wF | 19 => AppC w4.heap.size (k + 1) (A ++ [⟨y.l, y.t, minI 0 y.n⟩]) vF wF | _ => True
            let GG : World → Prop := fun w' => Grow w4 w'
            let BB : World → Prop := fun w' => OwnC w' w4.heap.size s' k c' A
            have hstab : ∀ k v w1 w2, Grow w1 w2 → FF k v w1 → FF k v w2 := by
              intro k v w1 w2 hg h
              match k with
              | 0 => exact h
              | 1 => exact h
              | 2 => exact h
              | 3 => exact h
              | 4 => exact h
              | 5 => exact h
              | 6 => exact h
              | 7 => exact h
              | 8 => exact h
              | 9 => exact h
              | 10 => exact h
              | 11 => exact h
              | 12 => exact h
              | 13 => exact h
              | 14 => exact h
              | 15 => exact h
              | 16 => exact h
              | 17 => exact h
              | 18 => exact OneC.later hg h
              | 19 => exact AppC.later hg h
              | k + 20 => exact trivial
            have hGg : ∀ w1 w2, GG w1 → Grow w1 w2 → GG w2 := HGG
            have hBg : ∀ w1 w2, Grow w1 w2 → BB w1 → BB w2 := HBG
            refine wp_region_endG FF GG BB (fun i => match i with | 18 => some 19 | _ => none) 19 20 _ rfl rfl rfl (by kernel_rfl) (by kernel_rfl) HG0 HB0 ?_ ?_
            · refine ⟨?_, ?_, ?_, ?_, ?_, ?_, ?_, ?_, ?_, ?_, ?_, ?_, ?_, ?_, ?_, ?_, ?_, ?_, ?_, ?_, trivial⟩
              · refine stepG_run hGg hBg hstab rfl ?_
                intro a' w' hg hs hd hb
                have e12 : a'.eval (.tmp 12) = .slice s' k c' := hs.rest 12 rfl
                have ec : ∀ v, a'.eval (.const v) = v := fun _ => rfl
                have ef : ∀ g, a'.eval (.func g) = .func (.func g) #[] #[] := fun _ => rfl
                clear hd hs
                refine wpv (v := .slice s' k c') ?_ ⟨_, rfl, Grow.rfl' _, rfl⟩
                (generalize a'.eval = ev at ec ef e12 ⊢; simp [execOp, go_sem, *])
              · refine stepG_run hGg hBg hstab rfl ?_
                intro a' w' hg hs hd hb
                have e2 : a'.eval (.tmp 2) = .slice (some ⟨bs, os, none⟩) n2 c := hs.rest 2 rfl
                have ec : ∀ v, a'.eval (.const v) = v := fun _ => rfl
                have ef : ∀ g, a'.eval (.func g) = .func (.func g) #[] #[] := fun _ => rfl
                clear hd hs
                refine wpv (v := .slice (some ⟨bs, os, none⟩) n2 c) ?_ ⟨_, rfl, Grow.rfl' _, rfl⟩
                (generalize a'.eval = ev at ec ef e2 ⊢; simp [execOp, go_sem, *])
              · refine stepG_run hGg hBg hstab rfl ?_
                intro a' w' hg hs hd hb
                have e13 : a'.eval (.tmp 13) = .int .i64 (k : Int) := hs.rest 13 rfl
                have ec : ∀ v, a'.eval (.const v) = v := fun _ => rfl
                have ef : ∀ g, a'.eval (.func g) = .func (.func g) #[] #[] := fun _ => rfl
                clear hd hs
                refine wpv (v := .int .i64 (k : Int)) ?_ ⟨_, rfl, Grow.rfl' _, rfl⟩
                (generalize a'.eval = ev at ec ef e13 ⊢; simp [execOp, go_sem, *])
              · refine stepG_run hGg hBg hstab rfl ?_
                intro a' w' hg hs hd hb
                have e56 : a'.eval (.tmp 56) = .slice (some ⟨bs, os, none⟩) n2 c := hd ⟨1, Ground.data⟩ (by simp) rfl rfl
                have e57 : a'.eval (.tmp 57) = .int .i64 (k : Int) := hd ⟨2, Ground.data⟩ (by simp) rfl rfl
                have ec : ∀ v, a'.eval (.const v) = v := fun _ => rfl
                have ef : ∀ g, a'.eval (.func g) = .func (.func g) #[] #[] := fun _ => rfl
                clear hd hs
                refine wpv (v := .pointer (some ⟨bs, os + k * 8, none⟩)) ?_ ⟨_, rfl, Grow.rfl' _, rfl⟩
                (generalize a'.eval = ev at ec ef e56 e57 ⊢; simp [execOp, go_sem, *])
              · refine stepG_run hGg hBg hstab rfl ?_
                intro a' w' hg hs hd hb
                have e58 : a'.eval (.tmp 58) = .pointer (some ⟨bs, os + k * 8, none⟩) := hd ⟨3, Ground.data⟩ (by simp) rfl rfl
                have ec : ∀ v, a'.eval (.const v) = v := fun _ => rfl
                have ef : ∀ g, a'.eval (.func g) = .func (.func g) #[] #[] := fun _ => rfl
                clear hd hs
                refine wpv (v := .pointer (some ⟨bs, os + k * 8, none⟩)) ?_ ⟨_, rfl, Grow.rfl' _, rfl⟩
                (generalize a'.eval = ev at ec ef e58 ⊢; simp [execOp, go_sem, *])
              · refine stepG_run hGg hBg hstab rfl ?_
                intro a' w' hg hs hd hb
                have e59 : a'.eval (.tmp 59) = .pointer (some ⟨bs, os + k * 8, none⟩) := hd ⟨4, Ground.data⟩ (by simp) rfl rfl
                have ec : ∀ v, a'.eval (.const v) = v := fun _ => rfl
                have ef : ∀ g, a'.eval (.func g) = .func (.func g) #[] #[] := fun _ => rfl
                obtain ⟨y0, y1, y2, y3, y4, y5, y6, y7⟩ := HAt w' hg
                clear hd hs
                refine wpv (v := .agg #[.int .i64 y.l.n, .int .i64 y.l.p]) ?_ ⟨_, rfl, Grow.rfl' _, rfl⟩
                (generalize a'.eval = ev at ec ef e59 ⊢; simp [execOp, go_sem, *])
              · refine stepG_run hGg hBg hstab rfl ?_
                intro a' w' hg hs hd hb
                have e2 : a'.eval (.tmp 2) = .slice (some ⟨bs, os, none⟩) n2 c := hs.rest 2 rfl
                have ec : ∀ v, a'.eval (.const v) = v := fun _ => rfl
                have ef : ∀ g, a'.eval (.func g) = .func (.func g) #[] #[] := fun _ => rfl
                clear hd hs
                refine wpv (v := .slice (some ⟨bs, os, none⟩) n2 c) ?_ ⟨_, rfl, Grow.rfl' _, rfl⟩
                (generalize a'.eval = ev at ec ef e2 ⊢; simp [execOp, go_sem, *])
              · refine stepG_run hGg hBg hstab rfl ?_
                intro a' w' hg hs hd hb
                have e13 : a'.eval (.tmp 13) = .int .i64 (k : Int) := hs.rest 13 rfl
                have ec : ∀ v, a'.eval (.const v) = v := fun _ => rfl
                have ef : ∀ g, a'.eval (.func g) = .func (.func g) #[] #[] := fun _ => rfl
                clear hd hs
                refine wpv (v := .int .i64 (k : Int)) ?_ ⟨_, rfl, Grow.rfl' _, rfl⟩
                (generalize a'.eval = ev at ec ef e13 ⊢; simp [execOp, go_sem, *])
              · refine stepG_run hGg hBg hstab rfl ?_
                intro a' w' hg hs hd hb
                have e61 : a'.eval (.tmp 61) = .slice (some ⟨bs, os, none⟩) n2 c := hd ⟨6, Ground.data⟩ (by simp) rfl rfl
                have e62 : a'.eval (.tmp 62) = .int .i64 (k : Int) := hd ⟨7, Ground.data⟩ (by simp) rfl rfl
                have ec : ∀ v, a'.eval (.const v) = v := fun _ => rfl
                have ef : ∀ g, a'.eval (.func g) = .func (.func g) #[] #[] := fun _ => rfl
                clear hd hs
                refine wpv (v := .pointer (some ⟨bs, os + k * 8, none⟩)) ?_ ⟨_, rfl, Grow.rfl' _, rfl⟩
                (generalize a'.eval = ev at ec ef e61 e62 ⊢; simp [execOp, go_sem, *])
              · refine stepG_run hGg hBg hstab rfl ?_
                intro a' w' hg hs hd hb
                have e63 : a'.eval (.tmp 63) = .pointer (some ⟨bs, os + k * 8, none⟩) := hd ⟨8, Ground.data⟩ (by simp) rfl rfl
                have ec : ∀ v, a'.eval (.const v) = v := fun _ => rfl
                have ef : ∀ g, a'.eval (.func g) = .func (.func g) #[] #[] := fun _ => rfl
                clear hd hs
                refine wpv (v := .pointer (some ⟨bs, os + k * 8 + 2, none⟩)) ?_ ⟨_, rfl, Grow.rfl' _, rfl⟩
                (generalize a'.eval = ev at ec ef e63 ⊢; simp [execOp, go_sem, *])
              · refine stepG_run hGg hBg hstab rfl ?_
                intro a' w' hg hs hd hb
                have e64 : a'.eval (.tmp 64) = .pointer (some ⟨bs, os + k * 8 + 2, none⟩) := hd ⟨9, Ground.data⟩ (by simp) rfl rfl
                have ec : ∀ v, a'.eval (.const v) = v := fun _ => rfl
                have ef : ∀ g, a'.eval (.func g) = .func (.func g) #[] #[] := fun _ => rfl
                obtain ⟨y0, y1, y2, y3, y4, y5, y6, y7⟩ := HAt w' hg
                clear hd hs
                refine wpv (v := .agg #[.int .i64 y.t.e, .int .i64 y.t.d, .int .i64 y.t.x, .int .i64 y.t.y, .int .i64 y.t.z]) ?_ ⟨_, rfl, Grow.rfl' _, rfl⟩
                (generalize a'.eval = ev at ec ef e64 ⊢; simp [execOp, go_sem, *])
              · refine stepG_run hGg hBg hstab rfl ?_
                intro a' w' hg hs hd hb
                have e2 : a'.eval (.tmp 2) = .slice (some ⟨bs, os, none⟩) n2 c := hs.rest 2 rfl
                have ec : ∀ v, a'.eval (.const v) = v := fun _ => rfl
                have ef : ∀ g, a'.eval (.func g) = .func (.func g) #[] #[] := fun _ => rfl
                clear hd hs
                refine wpv (v := .slice (some ⟨bs, os, none⟩) n2 c) ?_ ⟨_, rfl, Grow.rfl' _, rfl⟩
                (generalize a'.eval = ev at ec ef e2 ⊢; simp [execOp, go_sem, *])
              · refine stepG_run hGg hBg hstab rfl ?_
                intro a' w' hg hs hd hb
                have e13 : a'.eval (.tmp 13) = .int .i64 (k : Int) := hs.rest 13 rfl
                have ec : ∀ v, a'.eval (.const v) = v := fun _ => rfl
                have ef : ∀ g, a'.eval (.func g) = .func (.func g) #[] #[] := fun _ => rfl
                clear hd hs
                refine wpv (v := .int .i64 (k : Int)) ?_ ⟨_, rfl, Grow.rfl' _, rfl⟩
                (generalize a'.eval = ev at ec ef e13 ⊢; simp [execOp, go_sem, *])
              · refine stepG_run hGg hBg hstab rfl ?_
                intro a' w' hg hs hd hb
                have e66 : a'.eval (.tmp 66) = .slice (some ⟨bs, os, none⟩) n2 c := hd ⟨11, Ground.data⟩ (by simp) rfl rfl
                have e67 : a'.eval (.tmp 67) = .int .i64 (k : Int) := hd ⟨12, Ground.data⟩ (by simp) rfl rfl
                have ec : ∀ v, a'.eval (.const v) = v := fun _ => rfl
                have ef : ∀ g, a'.eval (.func g) = .func (.func g) #[] #[] := fun _ => rfl
                clear hd hs
                refine wpv (v := .pointer (some ⟨bs, os + k * 8, none⟩)) ?_ ⟨_, rfl, Grow.rfl' _, rfl⟩
                (generalize a'.eval = ev at ec ef e66 e67 ⊢; simp [execOp, go_sem, *])
              · refine stepG_run hGg hBg hstab rfl ?_
                intro a' w' hg hs hd hb
                have e68 : a'.eval (.tmp 68) = .pointer (some ⟨bs, os + k * 8, none⟩) := hd ⟨13, Ground.data⟩ (by simp) rfl rfl
                have ec : ∀ v, a'.eval (.const v) = v := fun _ => rfl
                have ef : ∀ g, a'.eval (.func g) = .func (.func g) #[] #[] := fun _ => rfl
                clear hd hs
                refine wpv (v := .pointer (some ⟨bs, os + k * 8 + 7, none⟩)) ?_ ⟨_, rfl, Grow.rfl' _, rfl⟩
                (generalize a'.eval = ev at ec ef e68 ⊢; simp [execOp, go_sem, *])
              · refine stepG_run hGg hBg hstab rfl ?_
                intro a' w' hg hs hd hb
                have e69 : a'.eval (.tmp 69) = .pointer (some ⟨bs, os + k * 8 + 7, none⟩) := hd ⟨14, Ground.data⟩ (by simp) rfl rfl
                have ec : ∀ v, a'.eval (.const v) = v := fun _ => rfl
                have ef : ∀ g, a'.eval (.func g) = .func (.func g) #[] #[] := fun _ => rfl
                obtain ⟨y0, y1, y2, y3, y4, y5, y6, y7⟩ := HAt w' hg
                clear hd hs
                refine wpv (v := .int .i64 y.n) ?_ ⟨_, rfl, Grow.rfl' _, rfl⟩
                (generalize a'.eval = ev at ec ef e69 ⊢; simp [execOp, go_sem, *])
              · refine stepG_run hGg hBg hstab rfl ?_
                intro a' w' hg hs hd hb
                have e70 : a'.eval (.tmp 70) = .int .i64 y.n := hd ⟨15, Ground.data⟩ (by simp) rfl rfl
                have ec : ∀ v, a'.eval (.const v) = v := fun _ => rfl
                have ef : ∀ g, a'.eval (.func g) = .func (.func g) #[] #[] := fun _ => rfl
                clear hd hs
                refine wpv (v := .int .i64 (minI 0 y.n)) ?_ ⟨_, rfl, Grow.rfl' _, rfl⟩
                (generalize a'.eval = ev at ec ef e70 ⊢; simp [execOp, go_sem, *])
              · refine stepG_run hGg hBg hstab rfl ?_
                intro a' w' hg hs hd hb
                have e60 : a'.eval (.tmp 60) = .agg #[.int .i64 y.l.n, .int .i64 y.l.p] := hd ⟨5, Ground.data⟩ (by simp) rfl rfl
                have e65 : a'.eval (.tmp 65) = .agg #[.int .i64 y.t.e, .int .i64 y.t.d, .int .i64 y.t.x, .int .i64 y.t.y, .int .i64 y.t.z] := hd ⟨10, Ground.data⟩ (by simp) rfl rfl
                have e71 : a'.eval (.tmp 71) = .int .i64 (minI 0 y.n) := hd ⟨16, Ground.data⟩ (by simp) rfl rfl
                have ec : ∀ v, a'.eval (.const v) = v := fun _ => rfl
                have ef : ∀ g, a'.eval (.func g) = .func (.func g) #[] #[] := fun _ => rfl
                clear hd hs
                refine wpv (v := .agg #[.int .i64 y.l.n, .int .i64 y.l.p, .int .i64 y.t.e, .int .i64 y.t.d, .int .i64 y.t.x, .int .i64 y.t.y, .int .i64 y.t.z, .int .i64 (minI 0 y.n)]) ?_ ⟨_, rfl, Grow.rfl' _, rfl⟩
                (generalize a'.eval = ev at ec ef e60 e65 e71 ⊢; simp [execOp, go_sem, *])
              · refine stepG_run hGg hBg hstab rfl ?_
                intro a' w' hg hs hd hb
                have e72 : a'.eval (.tmp 72) = .agg #[.int .i64 y.l.n, .int .i64 y.l.p, .int .i64 y.t.e, .int .i64 y.t.d, .int .i64 y.t.x, .int .i64 y.t.y, .int .i64 y.t.z, .int .i64 (minI 0 y.n)] := hd ⟨17, Ground.data⟩ (by simp) rfl rfl
                have ec : ∀ v, a'.eval (.const v) = v := fun _ => rfl
                have ef : ∀ g, a'.eval (.func g) = .func (.func g) #[] #[] := fun _ => rfl
                clear hd hs
                refine wpv (v := .slice (some ⟨w'.heap.size, 0, none⟩) 1 1) (w' := w'.alloc (.cells #[.int .i64 y.l.n, .int .i64 y.l.p, .int .i64 y.t.e, .int .i64 y.t.d, .int .i64 y.t.x, .int .i64 y.t.y, .int .i64 y.t.z, .int .i64 (minI 0 y.n)] 45)) ?_ ⟨_, rfl, Grow.alloc' _ _, oneC_new w' ⟨y.l, y.t, minI 0 y.n⟩⟩
                (generalize a'.eval = ev at ec ef e72 ⊢; simp [execOp, go_sem, *])
              · refine stepG_take rfl ?_
                intro a' w' hg hs hd hb
                have e55 : a'.eval (.tmp 55) = .slice s' k c' := hd ⟨0, Ground.data⟩ (by simp) rfl rfl
                obtain ⟨g73, e73, h73⟩ : OneC ⟨y.l, y.t, minI 0 y.n⟩ (a'.eval (.tmp 73)) w' := hd ⟨18, Ground.data⟩ (by simp) rfl rfl
                have ec : ∀ v, a'.eval (.const v) = v := fun _ => rfl
                have ef : ∀ g, a'.eval (.func g) = .func (.func g) #[] #[] := fun _ => rfl
                clear hd hs
                obtain ⟨s2, c2, w2, hrun, hown, hgr, hlie⟩ := run_apC hg 37 s' k c' A [⟨y.l, y.t, minI 0 y.n⟩] (hb rfl) (some ⟨g73, 0, none⟩) 1 1 h73 (by omega)
                refine wpv (v := .slice s2 _ c2) (w' := w2) ?_ ⟨_, rfl, hgr, ⟨s2, c2, rfl, hown, hlie⟩, ?_, fun h _ => absurd rfl h⟩
                rotate_left
                · intro j u hj h
                  match j with
                  | 0 => exact h
                  | 1 => exact h
                  | 2 => exact h
                  | 3 => exact h
                  | 4 => exact h
                  | 5 => exact h
                  | 6 => exact h
                  | 7 => exact h
                  | 8 => exact h
                  | 9 => exact h
                  | 10 => exact h
                  | 11 => exact h
                  | 12 => exact h
                  | 13 => exact h
                  | 14 => exact h
                  | 15 => exact h
                  | 16 => exact h
                  | 17 => exact h
                  | 18 => first | (cases hj; done) | exact OneC.turn hgr.2 (by decide) h
                  | 19 => first | (cases hj; done) | exact AppC.turn hgr.2 (by decide) h
                  | j + 20 => exact trivial
                · unfold execOp; simp only [resolve, invoke, builtin, Sem.run_bind, Sem.run_pure, Result.andThen_ok, List.map_toArray, List.map_cons, List.map_nil, e55, e73, hrun]
            · intro a' w' hg hs hd
              obtain ⟨sa74, ca74, e74, h74, t74⟩ : AppC w4.heap.size (k + 1) (A ++ [⟨y.l, y.t, minI 0 y.n⟩]) (a'.eval (.tmp 74)) w' := hd 19 (by omega) rfl
              have ec : ∀ v, a'.eval (.const v) = v := fun _ => rfl
              have ef : ∀ g, a'.eval (.func g) = .func (.func g) #[] #[] := fun _ => rfl
              have HF := hide h74
              have HG3 := hide hg
              refine wpv (v := .slice sa74 (k + 1) ca74) (w' := w') ?_ ?_
              · (generalize a'.eval = ev at ec ef e74 ⊢; simp [execOp, go_sem, *])
              clear h74 t74 e74 ec ef hg HGG HBG HG0 HB0 hGg hBg hstab HAt
              rw [frame_eq hs [false, false, false, false, false, false, false, false, false, false, false, false, true, false, false, false, false, false, false, false, false, false, false, false, false, false, false, false, false, false, false, false, false, false, false, false, false, false, false, false, false, false, false, false, false, false, false, false, false, false, false, false, false, false, false, true, true, true, true, true, true, true, true, true, true, true, true, true, true, true, true, true, true, true, true, false, false, false, false, false, false, false, false, false, false, false, false, false, false, false, false, false, false, false] (by kernel_rfl)]; simp only [mergeL]; clear hs hd; generalize a'.tmps = TT at *; try go_frame
              go_wp2_with fail
              go_roundw
              case rel => exact ⟨k + 1, sa74, ca74, by omega, rfl, by go_num, HG3.out, by rw [HMS.out]; exact HF.out⟩
              case measure => simp [intOf]; omega
          · have hkn : cs2.take k = cs2 := List.take_of_length_le (by rw [HL2.out]; omega)
            have hi2 : ¬ (k : Int) < (n2 : Int) := by omega
            rw [hkn] at HO
            have CF := hide (front_any p g.N g.E HA.out b F1.out sm HSM.out s n2 c cs2 F2.out hn2 wr (HC4.out.later hg) (HI4.out.later hg))
            obtain ⟨b0, b1⟩ := KT4.out.later hg
            clear hkn hg
            go_wp2_with fail
            refine CF.out.mono ?_
            rintro _ w6 ⟨v, rfl, hb, sf, nf, cf, rfl, hrf⟩
            have HG6 := hide (Grow.trans' HG.out hb)
            have RF := hide hrf
            have HO6 := hide (HO.out.later hb)
            have hnf : nf ≤ 4012012004 * 20 := by
              have a1 := hrf.1
              have a2 := chainO_len kinT (frontL sm cs2)
              have h1 := frontL_len (sm := sm) cs2 HB.out
              rw [BIG_eq] at h1
              have h2 : cs2.length ≤ 20 := by rw [HL2.out]; exact hn2
              have h3 := Nat.mul_le_mul_right 4012012004 h2
              omega
            have CT := hide (refTimes_any sz nz cz _ w6 (by omega) (RZ.out.later HG6.out))
            clear hb hrf CF HG HO b0 b1
            go_wp2_with fail
            refine CT.out.mono ?_
            rintro _ w7 ⟨v, rfl, hb, st, nt, ct, rfl, hrt⟩
            rw [front_both] at hrt
            have HG7 := hide (Grow.trans' HG6.out hb)
            have HO7 := hide (HO6.out.later hb)
            have CS := hide (sameT_any sf st cf ct nf nt _ _ true (by simp) w7 (by omega) (RF.out.later hb) hrt)
            clear hb hrt CT HG6 HO6 RF
            go_wp2_with fail
            refine CS.out.mono ?_
            rintro _ w8 ⟨rfl, hb⟩
            have HG8 := hide (Grow.trans' HG7.out hb)
            have CN2 := hide (front_any p g.N g.E HA.out b F1.out sm HSM.out s' k c' (noneL cs2) (noneL_wf F2.out) (by omega) w8 (HO7.out.later hb).is (HI4.out.later HG8.out))
            rw [front_none _ _ (noneL_n cs2), chainO_nil] at CN2
            obtain ⟨b0, b1⟩ := KT4.out.later HG8.out
            clear hb CS HG7 HO7
            go_wp2_with fail
            refine CN2.out.mono ?_
            rintro _ w9 ⟨v, rfl, hb, sx, nx, cx, rfl, hrx⟩
            obtain rfl : nx = 0 := hrx.1.symm
            have HG9 := hide (Grow.trans' HG8.out hb)
            clear hb hrx CN2 HG8 b0 b1
            go_wp2_with fail
            go_ret
            exact ⟨rfl, Grow.trans' G4.out HG9.out⟩

set_option maxRecDepth 100000 in
theorem PathsFronts_lifted (os : Os) (started : os.Started) (H : Type) (enc : TypeId × Value → H) :
    ReturnsInHanded {} Tryz.checked os 8 .any (Rows.pathsFrontsSpec.pre6 enc Tryz.prog Tryz.f8 Rows.pathsFrontsRow.domain false) (Rows.pathsFrontsSpec.post enc Tryz.prog Tryz.f8 false true false false) := by
  refine returnsInHanded_of_change (C := Tryz.checked) own started (by kernel_rfl) Tryz.func8
    (ChangeSpec.witness6 (enc := enc) (C := Tryz.checked) false ⟨#[], #[.agg #[.slice none 0 0, .slice none 0 0], .agg #[.int .i64 0, .int .i64 0], .slice none 0 0], []⟩ 8 (by kernel_rfl) (by kernel_rfl) (by kernel_rfl) (by kernel_rfl)) ?_
  intro W base args ds gs before hval0 hW hcnd _
  have hval : ∀ (j : Nat) t v, Tryz.f8.params[j]? = some t → args[j]? = some v → Value.okWide Tryz.prog W .any base t v := hval0
  have hW' := hW
  obtain ⟨p, q, hA0, hV, rfl, hfz, hnd⟩ := hW
  have hA : DataW.TrodAll enc Tryz.prog W 0 (fun _ => true) true Tryz.f8.params.toList args.toList ds p := hA0
  rw [Tryz.params8] at hA hval
  obtain ⟨v0, vs0, d0, ds0, p0, q0, hargs, rfl, rfl, h0, r0⟩ := trodAll_cons hA
  obtain ⟨v1, vs1, d1, ds1, p1, q1, rfl, rfl, rfl, h1, r1⟩ := trodAll_cons r0
  obtain ⟨v2, vs2, d2, ds2, p2, q2, rfl, rfl, rfl, h2, r2⟩ := trodAll_cons r1
  obtain ⟨rfl, rfl, rfl⟩ := trodAll_nil r2
  obtain rfl : args = #[v0, v1, v2] := by cases args; simp_all
  obtain ⟨rfl, rfl⟩ := trodVars_none hV
  have k0 := h0
  have lt0 : ∀ x ∈ p0, x.block < W.heap.size := by obtain ⟨m, hm⟩ := k0; exact DataW.trod_lt m _ _ _ hm
  obtain ⟨t0, rfl, w0⟩ := open_gr (hval 0 25 v0 rfl rfl) h0
  have k1 := h1
  have lt1 : ∀ x ∈ p1, x.block < W.heap.size := by obtain ⟨m, hm⟩ := k1; exact DataW.trod_lt m _ _ _ hm
  obtain ⟨t1, rfl, w1⟩ := open_lc (hval 1 27 v1 rfl rfl) h1
  have k2 := h2
  have lt2 : ∀ x ∈ p2, x.block < W.heap.size := by obtain ⟨m, hm⟩ := k2; exact DataW.trod_lt m _ _ _ hm
  obtain ⟨s2, len2, cap2, rfl⟩ := okWide_slice Tryz.underlying37 (hval 2 37 v2 rfl rfl)
  obtain ⟨z2, w2⟩ := rows_chs h2
  clear hA0 hval0
  refine (PathsFronts_any t0 t1 s2 len2 cap2 z2 W w0 w1 w2.1 (fun x hx => ⟨(w2.2 x hx).1, (w2.2 x hx).2.1⟩)).mono fun e W' ⟨he, bel⟩ => ?_
  subst he
  exact ⟨_, rfl, _, _, _, [], _, [], hW', trodAll_mk1 (shut_bool Tryz.underlying4 _), (trodAll_cons_mk (Below.trod laidOut (by kernel_rfl) (of_decide_eq_true (by kernel_rfl)) k0 bel lt0) (trodAll_cons_mk (Below.trod laidOut (by kernel_rfl) (of_decide_eq_true (by kernel_rfl)) k1 bel lt1) (trodAll_cons_mk (Below.trod laidOut (by kernel_rfl) (of_decide_eq_true (by kernel_rfl)) k2 bel lt2) trodAll_mk0))), rfl, bel.frame _, fun h => by cases h⟩

/-- The given statement. -/
theorem PathsFronts_holds : Rows.PathsFrontsSaid :=
  OpenClaim.holds_of_wide 8 Tryz.f8 rfl rfl rfl rfl rfl rfl rfl ⟨rfl, rfl, rfl, rfl, rfl⟩ rfl rfl rfl rfl rfl (by kernel_rfl) Tryz.func8 (by kernel_rfl)
    (of_decide_eq_true (by kernel_rfl)) (by unfold Func.isWrapper; first | (rw [if_pos (by decide +kernel)]; kernel_rfl) | (rw [if_neg (by decide +kernel)]; exact ⟨rfl, rfl⟩))
    (fun os started H enc _ => PathsFronts_lifted os started H enc)



end Go.Proofs.YtehianjfpmbfpaaGreat
