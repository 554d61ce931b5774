import Derived.Test.YtehianjfpmbfpaaGreatQFuZ
import Derived.Test.YtehianjfpmbfpaaGreatPubZ
import Derived.Test.YtehianjfpmbfpaaGreatEndGZ
import Derived.Deep.LoopGhost
section
/-
  What add does to the world: rows of summaries, each a chain, take in more of them one by one; what was not covered is told, in rows of its own; of what was there the map of the chains alone has turned.
-/
namespace Go.Proofs.YtehianjfpmbfpaaGreat
set_option maxRecDepth 100000
open Go.RowKit Go.Maps Go.Deep
set_option linter.unusedVariables false
set_option linter.unusedSimpArgs false
attribute [local go_sem ↓] run_makeMap

theorem addL_like {f t : Int} {l r : List Sm} (hl : ∀ s ∈ l, Like f t s) (hr : ∀ s ∈ r, Like f t s) : ∀ s ∈ addL l r, Like f t s := fun s hs => by
  rcases addL_mem hs with h | h
  · exact hl s h
  · exact hr s (freshL_sub h).1
theorem addL_len {f t : Int} {l r : List Sm} (hc : IsCh l) (hl : ∀ s ∈ l, Like f t s) (hr : ∀ s ∈ r, Like f t s) : (addL l r).length ≤ BIG := like_len (IsCh.nodup (addL_ch hc)) (addL_like hl hr)
theorem freshL_len {f t : Int} {l r : List Sm} (hr : ∀ s ∈ r, Like f t s) : (freshL l r).length ≤ BIG := like_len freshL_nodup fun s hs => hr s (freshL_sub hs).1
theorem InF.off {w : World} {b : Nat} {P : List Lc} {f : Lc → Option Value} {L : Lc → List Sm} (h : InF w b P f L) {x : Lc} (hx : x ∉ P) : L x = [] := by
  rcases h.row x with ⟨_, e⟩ | ⟨s, n, c, e, _⟩
  · exact e
  · exact absurd (h.map.keys (by rw [e]; simp)) hx
theorem InF.getK {w : World} {b : Nat} {P : List Lc} {f : Lc → Option Value} {L : Lc → List Sm} (h : InF w b P f L) {x : Lc} (hx : LcWf x) :
    ∃ s n c, IsSms w s n c (L x) ∧ ∀ w', Grow w w' → (Instr.lookup 81 (.map (some b)) (.agg #[.int .i64 x.n, .int .i64 x.p]) false).run Tryz.prog w' = .ok (.slice s n c) w' := by
  have h1 := fun w' hg => (h.map.later (w' := w') hg).get Tryz.underlying81 (zeroSlice w') hx
  unfold vL at h1
  rcases h.row x with ⟨e, e2⟩ | ⟨s, n, c, e, hI, _⟩
  · rw [e] at h1
    exact ⟨none, 0, 0, by rw [e2]; exact ⟨rfl, Nat.le_refl _, .inl rfl⟩, h1⟩
  · rw [e] at h1
    exact ⟨s, n, c, hI, h1⟩
theorem BoxS.mapTurn {w w' : World} {q g : Nat} {y : Sm} (h : BoxS w q y) (hg : w.grownBy w' (some g)) (hm : ∃ es cl, w.heap[g]? = some (.map es cl)) : BoxS w' q y := by
  obtain ⟨es, cl, hm⟩ := hm
  obtain ⟨h0, h1, h2, h3, h4, h5, h6⟩ := h
  exact ⟨cell_mapTurn h0 hg hm, cell_mapTurn h1 hg hm, cell_mapTurn h2 hg hm, cell_mapTurn h3 hg hm, cell_mapTurn h4 hg hm, cell_mapTurn h5 hg hm, cell_mapTurn h6 hg hm⟩
/-- A place in a box. -/
def FixL (w : World) (q : Nat) (y : Lc) : Prop := BoxL w q y ∧ TyB w q 27
theorem FixL.later {w w' : World} {q : Nat} {y : Lc} (h : FixL w q y) (hg : Grow w w') : FixL w' q y := ⟨h.1.later hg, h.2.later hg⟩
theorem FixL.keep {w w' : World} {q : Nat} {y : Lc} (h : FixL w q y) (he : w'.heap[q]? = w.heap[q]?) : FixL w' q y := by
  obtain ⟨cs, r, hb⟩ := h.2
  exact ⟨boxL_keep h.1 he, cs, r, he.trans hb⟩
theorem loc_ne : (27 : TypeId) ≠ 68 := by decide
theorem FixL.mapTurn {w w' : World} {q g : Nat} {y : Lc} (h : FixL w q y) (hg : w.grownBy w' (some g)) (hm : ∃ es cl, w.heap[g]? = some (.map es cl)) : FixL w' q y := by
  obtain ⟨es, cl, hm⟩ := hm
  exact h.keep (mapTurn_keepTy hg hm h.2)
theorem FixL.rowTurn {w w' : World} {q base : Nat} {y : Lc} {s : Option Addr} (h : FixL w q y) (ht : RowTurn w w' base s) : FixL w' q y := h.keep (ht.keepTy h.2 loc_ne)
theorem wpList_putL' {ops : Array Oper} {rest : List Oper} {o : Oper} {a : Act} {w : World} {Q : Exit → Act → World → Prop} (hgd : o.guard = none) (x y : Operand) (ho : o.op = .store 27 x y) (b : Nat) (t : Lc)
    (hx : a.eval x = .pointer (some ⟨b, 0, none⟩)) (hy : a.eval y = .agg #[.int .i64 t.n, .int .i64 t.p]) (hb : BlkL w b) (W : World) (hg : Grow W w) (hW : W.heap.size ≤ b) (h : ∀ w2, Grow W w2 → FixL w2 b t → wpList Tryz.prog ops Q rest (a.put o.dst undef) w2) : wpList Tryz.prog ops Q (o :: rest) a w := by
  have hb' := hb
  obtain ⟨cs, hb1, hs⟩ := hb
  refine wpList_store_row hgd 27 x y ho b _ hx hy _ _ hb1 (by kernel_rfl) (by rw [hs]; rfl) (by simp [Value.oneCell']) (h _ (below_setRow hg hW _) ⟨hb'.box t, ?_⟩)
  exact ⟨_, (0, 0), by simp only [World.setRow, Array.getElem?_modify, if_true, hb1, Option.map_some]; rfl⟩
/-- Of what was there, one map alone has turned. -/
structure KeepA (W w : World) (lb rb r n : Nat) (D : DataW Value) (left : Lit → Bool) (cnt : Nat) : Prop where
  rg : RangesL w rb r n D left cnt
  gr : W.grownBy w (some lb)
theorem grow_none {w w' : World} (hg : Grow w w') : w.grownBy w' none := ⟨hg.os, hg.tape, hg.output, hg.size, fun k hk _ => hg.block k hk⟩
theorem KeepA.later {W w w' : World} {lb rb r n : Nat} {D : DataW Value} {left : Lit → Bool} {cnt : Nat} (h : KeepA W w lb rb r n D left cnt) (hg : Grow w w') : KeepA W w' lb rb r n D left cnt :=
  ⟨rangesL_later h.rg hg, h.gr.andThen (grow_none hg) fun j e => by cases e⟩
theorem KeepA.mapTurn {W w w' : World} {lb rb r n g : Nat} {D : DataW Value} {left : Lit → Bool} {cnt : Nat} (h : KeepA W w lb rb r n D left cnt) (hg : w.grownBy w' (some g)) (hm : ∃ es cl, w.heap[g]? = some (.map es cl)) (hW : W.heap.size ≤ g ∨ g = lb) (hne : rb ≠ g) : KeepA W w' lb rb r n D left cnt := by
  obtain ⟨es, cl, hm⟩ := hm
  exact ⟨mapTurn_ranges hg hm h.rg hne, h.gr.andThen hg fun j e => by cases e; exact hW.imp id fun q => by rw [q]⟩
theorem KeepA.rowTurn {W w w' : World} {lb rb r n base : Nat} {D : DataW Value} {left : Lit → Bool} {cnt : Nat} {s : Option Addr} (h : KeepA W w lb rb r n D left cnt) (ht : RowTurn w w' base s) (hb : W.heap.size ≤ base) : KeepA W w' lb rb r n D left cnt :=
  ⟨ht.ranges h.rg, h.gr.andThen ht.1 fun j e => .inl (by
    cases s with
    | none => cases e
    | some a =>
      simp at e
      have := (ht.2 a rfl).1
      omega)⟩
theorem moreM_in (B : Nat) (s : Option Addr) (n cap : Nat) (d : List Sm) (x : Sm) {p : Bool} (hp : isNew d x = p) (w : World) (hB : B ≤ w.heap.size) (hbig : n ≤ 90000000000) (hd : IsSms w s n cap d) :
    Calls Tryz.prog 83 #[.slice s n cap, .agg #[.int .i64 x.f, .int .i64 x.t, .int .i64 x.k, .int .i64 x.ep, .int .i64 x.x, .int .i64 x.y, .int .i64 x.z]] w fun e w' => ∃ v, e = .returned v ∧ Grow w w' ∧ OwnAddM B (chainO kinS (d ++ [x])) p v w' := by
  rw [← hp]; exact (moreM_own s n cap d x w hbig hd).mono fun e w' ⟨v, he, hg, h⟩ => ⟨v, he, hg, h.rebase hB⟩
/-- What has been done for the places that are through. -/
structure AdSpec (P : List Lc) (L R : Lc → List Sm) (left : Lit → Bool) (L' F' : Lc → List Sm) : Prop where
  yet : ∀ x ∈ P, left (klL x) = true → L' x = L x ∧ F' x = []
  done : ∀ x ∈ P, left (klL x) = false → L' x = addL (L x) (R x) ∧ F' x = freshL (L x) (R x)
theorem AdSpec.step {P : List Lc} {L R : Lc → List Sm} {left : Lit → Bool} {L' F' L2 F2 : Lc → List Sm} (h : AdSpec P L R left L' F') (hwf : ∀ x ∈ P, LcWf x) {x : Lc} (hx : x ∈ P)
    (h1 : ∀ y, y ≠ x → L2 y = L' y ∧ F2 y = F' y) (h2 : L2 x = addL (L x) (R x)) (h3 : F2 x = freshL (L x) (R x)) : AdSpec P L R (fun z => left z && !z.sameKey (klL x)) L2 F2 := by
  have hw := hwf x hx
  refine ⟨fun y hy hl => ?_, fun y hy hl => ?_⟩
  · by_cases e : y = x
    · subst e
      have hl' := (strikeL_same (left := left) hw).symm.trans hl
      cases hl'
    · have hl' := (strikeL_other (left := left) hw (hwf y hy) e).symm.trans hl
      rw [(h1 y e).1, (h1 y e).2]
      exact h.yet y hy hl'
  · by_cases e : y = x
    · subst e; exact ⟨h2, h3⟩
    · have hl' := (strikeL_other (left := left) hw (hwf y hy) e).symm.trans hl
      rw [(h1 y e).1, (h1 y e).2]
      exact h.done y hy hl'
set_option maxHeartbeats 4000000 in
theorem padd_any (lb rb : Nat) (P : List Lc) (fl fr : Lc → Option Value) (L R : Lc → List Sm) (f : Int) (dep : Lc → Int) (w : World) (hP : P.length ≤ 60) (hL : InF w lb P fl L) (hR : InF w rb P fr R) (hne : rb ≠ lb)
    (hCh : ∀ x, IsCh (L x)) (hLL : ∀ x, ∀ s ∈ L x, Like f (dep x) s) (hRL : ∀ x, ∀ s ∈ R x, Like f (dep x) s) (hRl : ∀ x, (R x).length ≤ BIG * 60) :
    Calls Tryz.prog 59 #[.map (some lb), .map (some rb)] w fun e w' => ∃ fb fl' ff, e = .returned (.map (some fb)) ∧ w.grownBy w' (some lb) ∧ InF w' lb P fl' (fun x => addL (L x) (R x)) ∧
      GrpF w' w.heap.size fb P ff (fun x => freshL (L x) (R x)) (fun _ => False) := by
  obtain ⟨D, hMD⟩ := hR.map
  have hwf := hide hMD.wf
  have hPb : P.length < 1000000000 := by omega
  have G0 := hide (Grow.alloc' w (.map #[] 0))
  have HF0 := hide (GrpF.new w w.heap.size P hMD.nodup hMD.wf (Nat.le_refl _) (NoOf fl))
  have HMD := hide (hMD.keep (G0.out.block rb hMD.owns.lt))
  have HMDk := hide hMD
  have HL := hide hL
  have HR := hide hR
  have hlb : lb < w.heap.size := hL.map.lt
  have hrb : rb < w.heap.size := hR.map.lt
  have HCH := hide hCh
  have HLL := hide hLL
  have HRL := hide hRL
  have HRN := hide hRl
  have HLM := hide hL.map.isMap
  clear hL hR hMD hCh hLL hRL hRl
  obtain ⟨fb, hfb⟩ : ∃ fb, fb = w.heap.size := ⟨_, rfl⟩
  have hfbw : w.heap.size ≤ fb := by omega
  have hne2 : rb ≠ fb := by omega
  have hne3 : lb ≠ fb := by omega
  have HFB := hide hfb
  go_enter Tryz.func59, Tryz.ntmps59
  go_wp2_with (at_range; refine wpList_range_L rfl _ 81 _ Tryz.underlying81 rfl rb P fr D rfl HMD.out ?_; intro w0 hrg0 hg0 hs0)
  try go_frame
  rw [← hfb] at HF0 ⊢
  obtain ⟨r, hr⟩ : ∃ r, r = (w.alloc (.map #[] 0)).heap.size := ⟨_, rfl⟩
  rw [← hr] at hrg0 ⊢
  have HK0 : Hid (KeepA w w0 lb rb r (cntV P fr) D (Maps.has D) (cntV P fr)) := hide ⟨hrg0, (grow_none (Grow.trans' G0.out hg0)).andThen (grow_none (Grow.rfl' _)) (fun j e => by cases e) |>.but _⟩
  have HG0 := hide (HF0.out.later hg0)
  have HL0 := hide (HL.out.later (Grow.trans' G0.out hg0))
  have hrr : w.heap.size ≤ r := by rw [hr]; simp
  clear hrg0 hg0 hs0 HF0 G0 HMD hr hfb
  have HSP0 : Hid (AdSpec P L R (Maps.has D) L fun _ => []) := hide ⟨fun x _ _ => ⟨rfl, rfl⟩, fun x hx hl => by
    have h1 := HMDk.out.has x (hwf.out x hx)
    rw [hl] at h1
    rcases HR.out.row x with ⟨_, e⟩ | ⟨s', n', c', e, _⟩
    · rw [e]; exact ⟨rfl, rfl⟩
    · rw [e] at h1; cases h1⟩
  go_loopw [] (fun wr => ∃ (left : Lit → Bool) (cnt : Nat) (fl' ff : Lc → Option Value) (L' F' : Lc → List Sm), KeepA w wr lb rb r (cntV P fr) D left cnt ∧ InF wr lb P fl' L' ∧ GrpF wr fb fb P ff F' (NoOf fl') ∧ AdSpec P L R left L' F') (fun wr => wr.rangeLeft rb r)
  case atStart => exact ⟨_, _, _, _, _, _, HK0.out, HL0.out, HG0.out, HSP0.out⟩
  case round =>
    obtain ⟨left, cnt, fl', ff, L', F', hK, hI, hG, hSp⟩ := hrel
    have HK := hide hK
    have HI := hide hI
    have HG := hide hG
    have HSp := hide hSp
    clear hK hI hG hSp HK0 HL0 HG0 HSP0
    go_wp2_with (at_next; refine wpList_next_L rfl _ rfl rb r P fr D w HMDk.out left cnt rfl HK.out.rg ?_ ?_)
    · intro hl
      have HE := hide hl
      clear hl
      go_wp2_with fail
      go_ret
      have hall : ∀ x, L' x = addL (L x) (R x) ∧ F' x = freshL (L x) (R x) := fun x => by
        by_cases hx : x ∈ P
        · exact HSp.out.done x hx (HE.out _)
        · rw [HI.out.off hx, HG.out.is.off hx, HL.out.off hx, HR.out.off hx]
          exact ⟨rfl, rfl⟩
      refine ⟨fb, fl', ff, rfl, HK.out.gr, HI.out.ext fun x => (hall x).1, ?_⟩
      rw [← HFB.out]
      have h1 := HG.out.ext (fun x => (hall x).2)
      exact h1.reno h1 fun g k => k.elim
    · intro x v w1 cnt1 hwx hfx hlx hrg1 hlt hg1 hs1 hen
      obtain ⟨s, n, c, hv, hIR⟩ : ∃ s n c, v = .slice s n c ∧ IsSms w s n c (R x) := by
        rcases HR.out.row x with ⟨e, _⟩ | ⟨s, n, c, e, hI, _⟩
        · rw [hfx] at e; cases e
        · rw [hfx] at e; exact ⟨s, n, c, Option.some.inj e, hI⟩
      subst hv
      have hx : x ∈ P := HMDk.out.keys x (by rw [hfx]; simp)
      obtain ⟨left1, hL'⟩ : ∃ left1, left1 = fun z : Lit => left z && !z.sameKey (klL x) := ⟨_, rfl⟩
      rw [← hL'] at hrg1
      have hiter := (ranges_iter HK.out.rg).2
      have HK1 : Hid (KeepA w w1 lb rb r (cntV P fr) D left1 cnt1) := hide ⟨hrg1, HK.out.gr.andThen hg1 (fun j e => by cases e; exact .inl hrr)⟩
      have HG1 := hide (HG.out.iterTurn hg1 hiter)
      have HI1 := hide (HI.out.iterTurn hg1 hiter)
      have HLE := hide HK.out.rg.left_eq
      have HSp1 : Hid (∀ L2 F2 : Lc → List Sm, (∀ y, y ≠ x → L2 y = L' y ∧ F2 y = F' y) → L2 x = addL (L x) (R x) → F2 x = freshL (L x) (R x) → AdSpec P L R left1 L2 F2) := hide (by rw [hL']; exact fun L2 F2 h1 h2 h3 => HSp.out.step hwf.out hx h1 h2 h3)
      have HY := hide (HSp.out.yet x hx hlx)
      have HIR := hide hIR
      have hn : n ≤ 4012012004 * 60 := by rw [← hIR.1, ← BIG_eq]; exact HRN.out x
      have HX := hide hx
      have HWX := hide hwx
      have HLT := hide hlt
      clear hIR hwx hfx hlx hrg1 hlt hg1 hs1 HK HG HI HSp hL' hx hiter
      go_wp2_with (refine wpList_putL' rfl _ _ rfl w1.heap.size x rfl rfl (BlkL.new w1) w1 (Grow.alloc' _ _) (Nat.le_refl _) ?_)
      intro w2 hg2 hb2
      have HK2 := hide (HK1.out.later hg2)
      have HG2 := hide (HG1.out.later hg2)
      have HI2 := hide (HI1.out.later hg2)
      have HF2 := hide hb2
      clear hg2 HK1 HG1 HI1 hen hb2
      go_wp2_with fail
      obtain ⟨wo, rfl⟩ : ∃ wo : World, wo = wr := ⟨_, rfl⟩
      go_loopw [22] (fun i wq => ∃ (k : Nat) (f2 ff2 : Lc → Option Value) (L2 F2 : Lc → List Sm), k ≤ n ∧ i = .int .i64 k ∧ KeepA w wq lb rb r (cntV P fr) D left1 cnt1 ∧ InF wq lb P f2 L2 ∧ GrpF wq fb fb P ff2 F2 (NoOf f2) ∧ FixL wq w1.heap.size x ∧ (∀ y, y ≠ x → L2 y = L' y ∧ F2 y = F' y) ∧ L2 x = addL (L x) ((R x).take k) ∧ F2 x = freshL (L x) ((R x).take k)) (fun i _ => n - (intOf i).toNat)
      case atStart => exact ⟨0, _, _, L', F', Nat.zero_le _, rfl, HK2.out, HI2.out, HG2.out, HF2.out, fun y _ => ⟨rfl, rfl⟩, HY.out.1, HY.out.2⟩
      case round =>
        obtain ⟨k, f2, ff2, L2, F2, hk, rfl, hK, hI, hG, hFx, hoth, hLx, hFx2⟩ := hrel
        have HK3 := hide hK
        have HI3 := hide hI
        have HG3 := hide hG
        have HF3 := hide hFx
        have HO := hide hoth
        have HLX := hide hLx
        have HFX := hide hFx2
        clear hK hI hG hFx hoth hLx hFx2 HK2 HI2 HG2 HF2
        by_cases hlt1 : k < n
        · have hkd : k < (R x).length := by rw [HIR.out.1]; exact hlt1
          have hne' : ¬ R x = [] := fun h => by rw [h] at hkd; simp at hkd
          obtain ⟨bs, os, rfl, hrs⟩ := HIR.out.2.2.resolve_left hne'
          obtain ⟨z0, z1, z2, z3, z4, z5, z6⟩ := (hrs.mapTurn HK3.out.gr HLM.out.choose_spec.choose_spec).at k hkd
          have HAS := hide (addL_step (L x) (R x) k hkd)
          have HFS := hide (freshL_step (L x) (R x) k hkd)
          obtain ⟨z, hz⟩ : ∃ z, z = (R x)[k] := ⟨_, rfl⟩
          rw [← hz] at z0 z1 z2 z3 z4 z5 z6 HAS HFS
          rw [← HLX.out] at HAS HFS
          rw [← HFX.out] at HFS
          have hk1 : (0 : Int) ≤ (k : Int) := by omega
          have hk2 : (k : Int) < (n : Int) := by omega
          have hsubk : ∀ s ∈ (R x).take k, Like f (dep x) s := fun s hs => HRL.out x s (List.mem_of_mem_take hs)
          have hLl : (L2 x).length ≤ 4012012004 := by rw [HLX.out, ← BIG_eq]; exact addL_len (HCH.out x) (HLL.out x) hsubk
          have hFl : Hid ((F2 x).length + 1 ≤ 1000000000000) := hide (by
            have : (F2 x).length ≤ 4012012004 := by rw [HFX.out, ← BIG_eq]; exact freshL_len hsubk
            omega)
          clear hrs hne' hz hkd hsubk
          obtain ⟨w3, rfl⟩ : ∃ w3 : World, w3 = wr := ⟨_, rfl⟩
          go_wp2_with (refine wpList_putS rfl _ _ rfl w3.heap.size z rfl rfl (BlkS.new w3) w3 (Grow.alloc' _ _) (Nat.le_refl _) ?_)
          intro w4 hg4 hb4
          have HK4 := hide (HK3.out.later hg4)
          have HI4 := hide (HI3.out.later hg4)
          have HG4 := hide (HG3.out.later hg4)
          have HF4 := hide (HF3.out.later hg4)
          have HB4 := hide hb4
          obtain ⟨sl, nl, cl, hIl, hget⟩ := HI4.out.getK HWX.out
          have HGET := hide hget
          have HIL := hide hIl
          have hnl : nl ≤ 4012012004 := by rw [← hIl.1]; exact hLl
          obtain ⟨p, hp⟩ : ∃ p, isNew (L2 x) z = p := ⟨_, rfl⟩
          have HPN := hide hp
          clear hg4 hb4 hget hIl hp z0 z1 z2 z3 z4 z5 z6 HK3 HI3 HG3 HF3
          go_wp2_with fail
          let FF : Nat → Value → World → Prop := fun i vF wF => match i with | 0 => vF = .map (some lb) | 1 => vF = .agg #[.int .i64 x.n, .int .i64 x.p] | 2 => vF = .slice sl nl cl | 3 => vF = .agg #[.int .i64 z.f, .int .i64 z.t, .int .i64 z.k, .int .i64 z.ep, .int .i64 z.x, .int .i64 z.y, .int .i64 z.z] | 4 => OwnAddM w4.heap.size (chainO kinS (L2 x ++ [z])) p vF wF | 5 => OwnAddM w4.heap.size (chainO kinS (L2 x ++ [z])) p vF wF | 6 => OwnRowM w4.heap.size (chainO kinS (L2 x ++ [z])) vF wF | 7 => vF = .bool p | 8 => OwnRowM w4.heap.size (chainO kinS (L2 x ++ [z])) vF wF | 9 => vF = .bool p | _ => True
          have hstab : ∀ k v w1 w2, Grow w1 w2 → FF k v w1 → FF k v w2 := by
            intro k v w1 w2 hg h
            match k with
            | 0 => exact h
            | 1 => exact h
            | 2 => exact h
            | 3 => exact h
            | 4 => exact OwnAddM.later hg h
            | 5 => exact OwnAddM.later hg h
            | 6 => exact OwnRowM.later hg h
            | 7 => exact h
            | 8 => exact OwnRowM.later hg h
            | 9 => exact h
            | k + 10 => exact trivial
          refine wp_region_invK FF (fun _ => none) (by kernel_rfl) (by kernel_rfl) ?_ ?_
          · refine ⟨?_, ?_, ?_, ?_, ?_, ?_, ?_, ?_, ?_, ?_, trivial⟩
            · refine stepK_run hstab trivial (by intro j b h; cases h) ?_
              intro a' w' hg hs hd
              have e0 : a'.eval (.tmp 0) = .map (some lb) := hs.rest 0 rfl
              have ec : ∀ v, a'.eval (.const v) = v := fun _ => rfl
              have ef : ∀ g, a'.eval (.func g) = .func (.func g) #[] #[] := fun _ => rfl
              clear hd hs
              refine wpv (v := .map (some lb)) ?_ ⟨_, rfl, Grow.rfl' _, rfl⟩
              (generalize a'.eval = ev at ec ef e0 ⊢; simp [execOp, go_sem, *])
            · refine stepK_run hstab trivial (by intro j b h; cases h) ?_
              intro a' w' hg hs hd
              have e6 : a'.eval (.tmp 6) = .pointer (some ⟨w1.heap.size, 0, none⟩) := hs.rest 6 rfl
              have ec : ∀ v, a'.eval (.const v) = v := fun _ => rfl
              have ef : ∀ g, a'.eval (.func g) = .func (.func g) #[] #[] := fun _ => rfl
              clear hd hs
              obtain ⟨x0, x1⟩ := (HF4.out.later hg).1
              refine wpv (v := .agg #[.int .i64 x.n, .int .i64 x.p]) ?_ ⟨_, rfl, Grow.rfl' _, rfl⟩
              (generalize a'.eval = ev at ec ef e6 ⊢; simp [execOp, go_sem, *])
            · refine stepK_run hstab trivial (by intro j b h; cases h) ?_
              intro a' w' hg hs hd
              have e27 : a'.eval (.tmp 27) = .map (some lb) := hd ⟨0, Ground.data⟩ (by simp) rfl rfl
              have e28 : a'.eval (.tmp 28) = .agg #[.int .i64 x.n, .int .i64 x.p] := hd ⟨1, Ground.data⟩ (by simp) rfl rfl
              have ec : ∀ v, a'.eval (.const v) = v := fun _ => rfl
              have ef : ∀ g, a'.eval (.func g) = .func (.func g) #[] #[] := fun _ => rfl
              clear hd hs
              have hl := HGET.out w' hg
              refine wpv (v := .slice sl nl cl) ?_ ⟨_, rfl, Grow.rfl' _, rfl⟩
              (generalize a'.eval = ev at ec ef e27 e28 ⊢; simp [execOp, go_sem, *])
            · refine stepK_run hstab trivial (by intro j b h; cases h) ?_
              intro a' w' hg hs hd
              have e9 : a'.eval (.tmp 9) = .pointer (some ⟨w3.heap.size, 0, none⟩) := hs.rest 9 rfl
              have ec : ∀ v, a'.eval (.const v) = v := fun _ => rfl
              have ef : ∀ g, a'.eval (.func g) = .func (.func g) #[] #[] := fun _ => rfl
              clear hd hs
              obtain ⟨x0, x1, x2, x3, x4, x5, x6⟩ := HB4.out.later hg
              refine wpv (v := .agg #[.int .i64 z.f, .int .i64 z.t, .int .i64 z.k, .int .i64 z.ep, .int .i64 z.x, .int .i64 z.y, .int .i64 z.z]) ?_ ⟨_, rfl, Grow.rfl' _, rfl⟩
              (generalize a'.eval = ev at ec ef e9 ⊢; simp [execOp, go_sem, *])
            · refine stepK_run hstab trivial (by intro j b h; cases h) ?_
              intro a' w' hg hs hd
              have e29 : a'.eval (.tmp 29) = .slice sl nl cl := hd ⟨2, Ground.data⟩ (by simp) rfl rfl
              have e30 : a'.eval (.tmp 30) = .agg #[.int .i64 z.f, .int .i64 z.t, .int .i64 z.k, .int .i64 z.ep, .int .i64 z.x, .int .i64 z.y, .int .i64 z.z] := hd ⟨3, Ground.data⟩ (by simp) rfl rfl
              have ec : ∀ v, a'.eval (.const v) = v := fun _ => rfl
              have ef : ∀ g, a'.eval (.func g) = .func (.func g) #[] #[] := fun _ => rfl
              clear hd hs
              refine wpc ?_ (Calls.mono (moreM_in w4.heap.size sl nl cl (L2 x) z HPN.out w' hg.size (by omega) (HIL.out.later hg)) fun e w2 ⟨v, he, hb, hv⟩ => ⟨v, he, _, rfl, hb, hv⟩)
              (generalize a'.eval = ev at ec ef e29 e30 ⊢; simp [execOp, go_sem, *])
            · refine stepK_run hstab trivial (by intro j b h; cases h) ?_
              intro a' w' hg hs hd
              have hq : OwnAddM w4.heap.size (chainO kinS (L2 x ++ [z])) p (a'.eval (.tmp 31)) w' := hd ⟨4, Ground.data⟩ (by simp) rfl rfl
              have ec : ∀ v, a'.eval (.const v) = v := fun _ => rfl
              have ef : ∀ g, a'.eval (.func g) = .func (.func g) #[] #[] := fun _ => rfl
              clear hd hs
              refine wpv (v := a'.eval (.tmp 31)) ?_ ⟨_, rfl, Grow.rfl' _, hq⟩
              simp [execOp, go_sem]
            · refine stepK_run hstab trivial (by intro j b h; cases h) ?_
              intro a' w' hg hs hd
              obtain ⟨sa26, na26, ca26, e26, h26⟩ : OwnAddM w4.heap.size (chainO kinS (L2 x ++ [z])) p (a'.eval (.tmp 26)) w' := hd ⟨5, Ground.data⟩ (by simp) rfl rfl
              have ec : ∀ v, a'.eval (.const v) = v := fun _ => rfl
              have ef : ∀ g, a'.eval (.func g) = .func (.func g) #[] #[] := fun _ => rfl
              clear hd hs
              skip
              refine wpv (v := .slice sa26 na26 ca26) ?_ ⟨_, rfl, Grow.rfl' _, ⟨_, _, _, rfl, h26⟩⟩
              (generalize a'.eval = ev at ec ef e26 ⊢; simp [execOp, go_sem, *])
            · refine stepK_run hstab trivial (by intro j b h; cases h) ?_
              intro a' w' hg hs hd
              obtain ⟨sa26, na26, ca26, e26, h26⟩ : OwnAddM w4.heap.size (chainO kinS (L2 x ++ [z])) p (a'.eval (.tmp 26)) w' := hd ⟨5, Ground.data⟩ (by simp) rfl rfl
              have ec : ∀ v, a'.eval (.const v) = v := fun _ => rfl
              have ef : ∀ g, a'.eval (.func g) = .func (.func g) #[] #[] := fun _ => rfl
              clear hd hs
              refine wpv (v := .bool p) ?_ ⟨_, rfl, Grow.rfl' _, rfl⟩
              (generalize a'.eval = ev at ec ef e26 ⊢; simp [execOp, go_sem, *])
            · refine stepK_run hstab trivial (by intro j b h; cases h) ?_
              intro a' w' hg hs hd
              have hq : OwnRowM w4.heap.size (chainO kinS (L2 x ++ [z])) (a'.eval (.tmp 32)) w' := hd ⟨6, Ground.data⟩ (by simp) rfl rfl
              have ec : ∀ v, a'.eval (.const v) = v := fun _ => rfl
              have ef : ∀ g, a'.eval (.func g) = .func (.func g) #[] #[] := fun _ => rfl
              clear hd hs
              refine wpv (v := a'.eval (.tmp 32)) ?_ ⟨_, rfl, Grow.rfl' _, hq⟩
              simp [execOp, go_sem]
            · refine stepK_run hstab trivial (by intro j b h; cases h) ?_
              intro a' w' hg hs hd
              have e33 : a'.eval (.tmp 33) = .bool p := hd ⟨7, Ground.data⟩ (by simp) rfl rfl
              have ec : ∀ v, a'.eval (.const v) = v := fun _ => rfl
              have ef : ∀ g, a'.eval (.func g) = .func (.func g) #[] #[] := fun _ => rfl
              clear hd hs
              refine wpv (v := .bool p) ?_ ⟨_, rfl, Grow.rfl' _, rfl⟩
              (generalize a'.eval = ev at ec ef e33 ⊢; simp [execOp, go_sem, *])
          · intro a' w' hg hs hd
            obtain ⟨sf, nf, cf, e10, h10⟩ : OwnRowM w4.heap.size (chainO kinS (L2 x ++ [z])) (a'.eval (.tmp 10)) w' := hd 8 (by simp) (by intro k h; cases h)
            have z10 : a'.tmps.getD 10 undef = .slice sf nf cf := e10
            have HK5 := hide (HK4.out.later hg)
            have HI5 := hide (HI4.out.later hg)
            have HG5 := hide (HG4.out.later hg)
            have HF5 := hide (HF4.out.later hg)
            have HB5 := hide (HB4.out.later hg)
            have HO5 := hide h10
            have HG40 := hide HG4.out
            clear hg h10 e10 HK4 HI4 HG4 HF4 HB4 HGET HIL
            have fz27 : a'.tmps.getD 27 undef = .map (some lb) := hd 0 (by simp) (by intro k h; cases h); have fz28 : a'.tmps.getD 28 undef = .agg #[.int .i64 x.n, .int .i64 x.p] := hd 1 (by simp) (by intro k h; cases h); have fz29 : a'.tmps.getD 29 undef = .slice sl nl cl := hd 2 (by simp) (by intro k h; cases h); have fz30 : a'.tmps.getD 30 undef = .agg #[.int .i64 z.f, .int .i64 z.t, .int .i64 z.k, .int .i64 z.ep, .int .i64 z.x, .int .i64 z.y, .int .i64 z.z] := hd 3 (by simp) (by intro k h; cases h); have fz33 : a'.tmps.getD 33 undef = .bool p := hd 7 (by simp) (by intro k h; cases h); have fz11 : a'.tmps.getD 11 undef = .bool p := hd 9 (by simp) (by intro k h; cases h); rw [frame_eq hs [false, false, false, false, false, false, false, false, false, false, true, true, false, false, false, false, false, false, false, false, false, false, false, false, false, false, true, true, true, true, true, true, true, true, false, false, false, false, false, false, false, false, false, false, false, false, false, false] (by kernel_rfl)]; simp only [mergeL, z10, fz27, fz28, fz29, fz30, fz33, fz11]; clear hs hd hstab fz27 fz28 fz29 fz30 fz33 fz11; generalize a'.tmps = TT at *
            cases p
            · have e1 : Hid (add1 (L2 x) z = L2 x) := hide (by unfold add1; rw [if_neg (by rw [HPN.out]; simp)])
              go_wp2_with fail
              go_roundw
              case rel => exact ⟨k + 1, f2, ff2, L2, F2, by omega, by go_num, HK5.out, HI5.out, HG5.out, HF5.out, HO.out, by rw [HAS.out, e1.out], by rw [HFS.out, HPN.out]; simp⟩
              case measure => simp [intOf]; omega
            · have e1 : Hid (add1 (L2 x) z = chainO kinS (L2 x ++ [z])) := hide (by unfold add1; rw [if_pos HPN.out])
              obtain ⟨x0, x1⟩ := HF5.out.1
              go_wp2_with (refine wpList_set_F rfl _ _ _ 81 (.inl rfl) Tryz.underlying81 (x := x) rfl rfl rfl HI5.out hPb HX.out HO5.out.is (fun a q => (HO5.out.blk q).2.1) ?_)
              intro w6 hI6 hg6
              have hm5 := hide HI5.out.map.isMap
              have HK6 := hide (HK5.out.mapTurn hg6 hm5.out (.inr rfl) hne)
              have HF6 := hide (HF5.out.mapTurn hg6 hm5.out)
              have HB6 := hide (HB5.out.mapTurn hg6 hm5.out)
              have HG6 := hide (HG40.out.reno (HG5.out.mapTurn hg6 hm5.out.choose_spec.choose_spec (fun e => hne3 e.symm)) (No' := NoOf (putV f2 x (.slice sf nf cf))) fun g q => (noOf_put q).imp id fun ⟨a, ha, e⟩ => by rw [← e]; exact (HO5.out.blk ha).1)
              have HI6 := hide hI6
              clear x0 x1 hI6 hg6 HK5 HF5 HB5 HG5 HI5 HG40 hm5
              obtain ⟨x0, x1⟩ := HF6.out.1
              obtain ⟨y0, y1, y2, y3, y4, y5, y6⟩ := HB6.out
              have HK7 := hide (HK6.out.later (Grow.alloc' w6 (.cells #[.int .i64 z.f, .int .i64 z.t, .int .i64 z.k, .int .i64 z.ep, .int .i64 z.x, .int .i64 z.y, .int .i64 z.z] 68)))
              have HF7 := hide (HF6.out.later (Grow.alloc' w6 (.cells #[.int .i64 z.f, .int .i64 z.t, .int .i64 z.k, .int .i64 z.ep, .int .i64 z.x, .int .i64 z.y, .int .i64 z.z] 68)))
              have HG7 := hide (HG6.out.later (Grow.alloc' w6 (.cells #[.int .i64 z.f, .int .i64 z.t, .int .i64 z.k, .int .i64 z.ep, .int .i64 z.x, .int .i64 z.y, .int .i64 z.z] 68)))
              have HI7 := hide (HI6.out.later (Grow.alloc' w6 (.cells #[.int .i64 z.f, .int .i64 z.t, .int .i64 z.k, .int .i64 z.ep, .int .i64 z.x, .int .i64 z.y, .int .i64 z.z] 68)))
              have hrow := hide (RowM_one w6 z)
              clear HK6 HF6 HG6 HI6 HB6
              go_wp2_with (refine wpList_entry_G rfl _ _ rfl (x := x) rfl rfl HG7.out hPb HX.out ?_)
              intro s9 n9 c9 st f9 w9 hH9 hO9 hg9
              have hm7 := hide HG7.out.isMap
              have HK9 := hide (HK7.out.mapTurn hg9 hm7.out (.inl hfbw) hne2)
              have HF9 := hide (HF7.out.mapTurn hg9 hm7.out)
              have HI9 := hide (HI7.out.mapTurn hg9 hm7.out.choose_spec.choose_spec hne3)
              have hrow9 := hide (hrow.out.mapTurn hg9 hm7.out.choose_spec.choose_spec)
              have hO9' := hide hO9
              have hH9' := hide hH9
              have hn9 : n9 + 1 ≤ 1000000000000 := by rw [← hO9.1]; exact hFl.out
              clear hg9 HK7 HF7 HG7 HI7 hrow x0 x1 y0 y1 y2 y3 y4 y5 y6 hO9 hH9 hm7
              go_wp2_with (at_builtin; refine wpList_append_G rfl _ _ rfl hH9'.out hO9'.out rfl w6.heap.size 0 1 rfl hrow9.out hn9 (Nat.le_of_lt hH9'.out.map.lt) (fun g q => HI9.out.noLt g q) ?_)
              intro s10 c10 w10 hH10 hO10 ht10
              have HK11 := hide (HK9.out.rowTurn ht10 hfbw)
              have HF11 := hide (HF9.out.rowTurn ht10)
              have HI11 := hide (HI9.out.rowTurn ht10 fun a q => hH9'.out.nos a q)
              have hH11 := hide hH10
              have hO11 := hide hO10
              clear ht10 hH10 hO10 HK9 HF9 HI9 hrow9 hO9' hH9' hn9
              go_wp2_with (refine wpList_estore_G rfl _ _ _ rfl rfl rfl rfl hH11.out hPb HX.out hO11.out (by simp) ?_)
              intro f12 w12 hG12 hg12
              have HK12 := hide (HK11.out.mapTurn hg12 hH11.out.isMap (.inl hfbw) hne2)
              have HF12 := hide (HF11.out.mapTurn hg12 hH11.out.isMap)
              have HI12 := hide (HI11.out.mapTurn hg12 hH11.out.isMap.choose_spec.choose_spec hne3)
              have HG12 := hide hG12
              clear hG12 hg12 HK11 HF11 HI11 hH11 hO11
              go_wp2_with fail
              go_roundw
              case rel => exact ⟨k + 1, _, f12, _, _, by omega, by go_num, HK12.out, HI12.out, HG12.out, HF12.out, fun y hy => by rw [updL_other L2 _ hy, updL_other F2 _ hy]; exact HO.out y hy, by rw [updL_same, HAS.out, e1.out], by rw [updL_same, HFS.out, HPN.out]; simp⟩
              case measure => simp [intOf]; omega
        · have hi2 : ¬ (k : Int) < (n : Int) := by omega
          have HT5 : Hid ((R x).take k = R x) := hide (List.take_of_length_le (by rw [HIR.out.1]; omega))
          go_wp2_with fail
          go_roundw
          case rel => exact ⟨left1, cnt1, f2, ff2, L2, F2, HK3.out, HI3.out, HG3.out, HSp1.out L2 F2 HO.out (by rw [HLX.out, HT5.out]) (by rw [HFX.out, HT5.out])⟩
          case measure => rw [HK3.out.rg.left_eq, HLE.out]; exact HLT.out

end Go.Proofs.YtehianjfpmbfpaaGreat
end

section
/-
  What lowest does to the world: from a place, the fronts of what ways do to each place, in a map of its own; what was there stays as it was. It ends, as what is not covered yet grows less with each round that finds anything.
-/
namespace Go.Proofs.YtehianjfpmbfpaaGreat
set_option maxRecDepth 100000
open Go.RowKit Go.Maps Go.Deep
set_option linter.unusedVariables false
set_option linter.unusedSimpArgs false
attribute [local go_sem ↓] run_makeMap

theorem leftP_le {P : List Lc} {f : Int} {dep : Lc → Int} {L R : Lc → List Sm} : leftP P f dep (fun x => addL (L x) (R x)) ≤ leftP P f dep L :=
  sumP_le fun x _ => leftC_le fun s h => addL_cov h
theorem leftP_lt {P : List Lc} {f : Int} {dep : Lc → Int} {L R : Lc → List Sm} (hR : ∀ x, ∀ s ∈ R x, Like f (dep x) s) {x : Lc} (hx : x ∈ P) (hne : freshL (L x) (R x) ≠ []) : leftP P f dep (fun x => addL (L x) (R x)) < leftP P f dep L := by
  obtain ⟨s, hs⟩ := List.exists_mem_of_ne_nil _ hne
  obtain ⟨h1, h2, h3⟩ := freshL_sub hs
  refine Nat.lt_of_succ_le (sumP_lt 1 (fun y _ => leftC_le fun s h => addL_cov h) ⟨x, hx, ?_⟩)
  exact leftC_lt (hR x s h1) (fun s h => addL_cov h) h3 (addL_has h1 h2)
/-- How many rounds may still come. -/
def todoL (P : List Lc) (f : Int) (dep : Lc → Int) (L : Lc → List Sm) (c : Nat) : Nat := 2 * leftP P f dep L + if c = 0 then 0 else 1
theorem todoL_lt {P : List Lc} {f : Int} {dep : Lc → Int} {L R : Lc → List Sm} {c c' : Nat} (hc : c ≠ 0) (hR : ∀ x, ∀ s ∈ R x, Like f (dep x) s) (hc' : c' ≠ 0 → ∃ x ∈ P, freshL (L x) (R x) ≠ []) : todoL P f dep (fun x => addL (L x) (R x)) c' < todoL P f dep L c := by
  unfold todoL
  rw [if_neg hc]
  by_cases h : c' = 0
  · rw [if_pos h]
    have := leftP_le (P := P) (f := f) (dep := dep) (L := L) (R := R)
    omega
  · rw [if_neg h]
    obtain ⟨x, hx, hne⟩ := hc' h
    have := leftP_lt hR hx hne
    omega
/-- What the steps' rows are. -/
structure StpS (P : List Lc) (T : Lc → List Sp) (S : List Stp) : Prop where
  mem : ∀ y : Stp, y ∈ S ↔ y.a ∈ P ∧ (⟨y.b, y.r⟩ : Sp) ∈ T y.a
  to : ∀ x ∈ P, ∀ y ∈ T x, y.b ∈ P
  few : sumP P (fun x => (T x).length) ≤ 60

set_option maxHeartbeats 4000000 in
theorem lowest_any (sb : Nat) (P : List Lc) (fs : Lc → Option Value) (T : Lc → List Sp) (S : List Stp) (x : Lc) (s0 : Sm) (f : Int) (dep : Lc → Int) (w : World) (hP : P.length ≤ 60) (hM : StpM w sb P fs T) (hSS : StpS P T S) (hx : x ∈ P) (h0 : mayS s0 = true)
    (hWy : ∀ b s, Way S x s0 b s → b ∈ P ∧ Like f (dep b) s) :
    Calls Tryz.prog 32 #[.map (some sb), .agg #[.int .i64 x.n, .int .i64 x.p], .agg #[.int .i64 s0.f, .int .i64 s0.t, .int .i64 s0.k, .int .i64 s0.ep, .int .i64 s0.x, .int .i64 s0.y, .int .i64 s0.z]] w fun e w' => ∃ lb fl L, e = .returned (.map (some lb)) ∧ Grow w w' ∧ w.heap.size ≤ lb ∧ InF w' lb P fl L ∧ ∀ b, Front (Way S x s0 b) (L b) := by
  obtain ⟨hnd, hwf⟩ : P.Nodup ∧ ∀ y ∈ P, LcWf y := by obtain ⟨D, hD⟩ := hM.map; exact ⟨hD.nodup, hD.wf⟩
  have hPb : P.length < 1000000000 := by omega
  have HM := hide hM
  have HSS := hide hSS
  have HX := hide hx
  have H0 := hide h0
  have HW := hide hWy
  have e2 : ((w.alloc (.cells #[.int .i64 x.n, .int .i64 x.p] 27)).alloc (.cells #[.int .i64 s0.f, .int .i64 s0.t, .int .i64 s0.k, .int .i64 s0.ep, .int .i64 s0.x, .int .i64 s0.y, .int .i64 s0.z] 68)).heap.size = w.heap.size + 1 + 1 := by simp
  have e3 : (((w.alloc (.cells #[.int .i64 x.n, .int .i64 x.p] 27)).alloc (.cells #[.int .i64 s0.f, .int .i64 s0.t, .int .i64 s0.k, .int .i64 s0.ep, .int .i64 s0.x, .int .i64 s0.y, .int .i64 s0.z] 68)).alloc (.map #[] 0)).heap.size = w.heap.size + 1 + 1 + 1 := by simp
  have e4 : ((((w.alloc (.cells #[.int .i64 x.n, .int .i64 x.p] 27)).alloc (.cells #[.int .i64 s0.f, .int .i64 s0.t, .int .i64 s0.k, .int .i64 s0.ep, .int .i64 s0.x, .int .i64 s0.y, .int .i64 s0.z] 68)).alloc (.map #[] 0)).alloc (.map #[] 0)).heap.size = w.heap.size + 1 + 1 + 1 + 1 := by simp
  have G4 : Hid (Grow w ((((w.alloc (.cells #[.int .i64 x.n, .int .i64 x.p] 27)).alloc (.cells #[.int .i64 s0.f, .int .i64 s0.t, .int .i64 s0.k, .int .i64 s0.ep, .int .i64 s0.x, .int .i64 s0.y, .int .i64 s0.z] 68)).alloc (.map #[] 0)).alloc (.map #[] 0))) := hide (Grow.trans' (Grow.trans' (Grow.trans' (Grow.alloc' _ _) (Grow.alloc' _ _)) (Grow.alloc' _ _)) (Grow.alloc' _ _))
  have G5 : Hid (Grow w (((((w.alloc (.cells #[.int .i64 x.n, .int .i64 x.p] 27)).alloc (.cells #[.int .i64 s0.f, .int .i64 s0.t, .int .i64 s0.k, .int .i64 s0.ep, .int .i64 s0.x, .int .i64 s0.y, .int .i64 s0.z] 68)).alloc (.map #[] 0)).alloc (.map #[] 0)).alloc (.cells #[.int .i64 s0.f, .int .i64 s0.t, .int .i64 s0.k, .int .i64 s0.ep, .int .i64 s0.x, .int .i64 s0.y, .int .i64 s0.z] 68))) := hide (Grow.trans' G4.out (Grow.alloc' _ _))
  have HL5 : Hid (InF (((((w.alloc (.cells #[.int .i64 x.n, .int .i64 x.p] 27)).alloc (.cells #[.int .i64 s0.f, .int .i64 s0.t, .int .i64 s0.k, .int .i64 s0.ep, .int .i64 s0.x, .int .i64 s0.y, .int .i64 s0.z] 68)).alloc (.map #[] 0)).alloc (.map #[] 0)).alloc (.cells #[.int .i64 s0.f, .int .i64 s0.t, .int .i64 s0.k, .int .i64 s0.ep, .int .i64 s0.x, .int .i64 s0.y, .int .i64 s0.z] 68)) (w.heap.size + 1 + 1) P (fun _ => none) fun _ => []) := hide (by rw [← e2]; exact (InF.new _ P hnd hwf).later (Grow.trans' (Grow.alloc' _ _) (Grow.alloc' _ _)))
  have HR5 : Hid (InF (((((w.alloc (.cells #[.int .i64 x.n, .int .i64 x.p] 27)).alloc (.cells #[.int .i64 s0.f, .int .i64 s0.t, .int .i64 s0.k, .int .i64 s0.ep, .int .i64 s0.x, .int .i64 s0.y, .int .i64 s0.z] 68)).alloc (.map #[] 0)).alloc (.map #[] 0)).alloc (.cells #[.int .i64 s0.f, .int .i64 s0.t, .int .i64 s0.k, .int .i64 s0.ep, .int .i64 s0.x, .int .i64 s0.y, .int .i64 s0.z] 68)) (w.heap.size + 1 + 1 + 1) P (fun _ => none) fun _ => []) := hide (by rw [← e3]; exact (InF.new _ P hnd hwf).later (Grow.alloc' _ _))
  have HS5 : Hid (IsSms (((((w.alloc (.cells #[.int .i64 x.n, .int .i64 x.p] 27)).alloc (.cells #[.int .i64 s0.f, .int .i64 s0.t, .int .i64 s0.k, .int .i64 s0.ep, .int .i64 s0.x, .int .i64 s0.y, .int .i64 s0.z] 68)).alloc (.map #[] 0)).alloc (.map #[] 0)).alloc (.cells #[.int .i64 s0.f, .int .i64 s0.t, .int .i64 s0.k, .int .i64 s0.ep, .int .i64 s0.x, .int .i64 s0.y, .int .i64 s0.z] 68)) (some ⟨w.heap.size + 1 + 1 + 1 + 1, 0, none⟩) 1 1 [s0]) := hide (by rw [← e4]; exact ⟨rfl, Nat.le_refl _, .inr ⟨_, _, rfl, RowM_one _ s0⟩⟩)
  have hs5 : w.heap.size + 1 + 1 + 1 + 1 < (((((w.alloc (.cells #[.int .i64 x.n, .int .i64 x.p] 27)).alloc (.cells #[.int .i64 s0.f, .int .i64 s0.t, .int .i64 s0.k, .int .i64 s0.ep, .int .i64 s0.x, .int .i64 s0.y, .int .i64 s0.z] 68)).alloc (.map #[] 0)).alloc (.map #[] 0)).alloc (.cells #[.int .i64 s0.f, .int .i64 s0.t, .int .i64 s0.k, .int .i64 s0.ep, .int .i64 s0.x, .int .i64 s0.y, .int .i64 s0.z] 68)).heap.size := by simp
  have HN := hide hnd
  have HWF := hide hwf
  clear hM hSS hx h0 hWy hnd hwf e2 e3 e4
  go_enter Tryz.func32, Tryz.ntmps32
  go_wp2_with (refine wpList_set_F rfl _ _ _ 81 (.inr rfl) Tryz.underlying81 (x := x) rfl rfl rfl HR5.out hPb HX.out HS5.out (fun a q => by cases q; exact hs5) ?_)
  intro w6 hI6 hg6
  have hm5 := hide HR5.out.map.isMap
  have GW6 : Hid (Grow w w6) := hide (growL_step G5.out hg6 (by omega))
  have HL6 := hide (HL5.out.mapTurn hg6 hm5.out.choose_spec.choose_spec (by omega))
  have HR6 := hide hI6
  obtain ⟨lb, hlb⟩ : ∃ lb, lb = w.heap.size + 1 + 1 := ⟨_, rfl⟩
  obtain ⟨rb, hrb⟩ : ∃ rb, rb = w.heap.size + 1 + 1 + 1 := ⟨_, rfl⟩
  obtain ⟨v6, hv6⟩ : ∃ v6 : Value, v6 = .slice (some ⟨w.heap.size + 1 + 1 + 1 + 1, 0, none⟩) 1 1 := ⟨_, rfl⟩
  rw [← hlb] at HL6
  rw [← hv6, ← hrb] at HR6
  clear hI6 hg6 G4 G5 HL5 HR5 HS5 hs5 hm5
  go_wp2_with fail
  rw [← hrb, ← hlb]
  have hlw : w.heap.size ≤ lb := by omega
  have hne : rb ≠ lb := by omega
  clear hlb hrb hv6
  have hc6 : cntV P (putV (fun _ => none) x v6) = 1 := by
    rw [cntV_put HN.out HX.out]
    simp [cntV]
  have HP6 : Hid (Pend S x s0 (fun _ => []) (updL (fun _ => []) x [s0])) := hide (by
    have e : (updL (fun _ => []) x [s0]) = fun b => if b = x then [s0] else [] := rfl
    rw [e]; exact pend_start)
  go_loopg [8] (todoL P f dep (fun _ => []) 1) (fun k v wr => ∃ (fl : Lc → Option Value) (L : Lc → List Sm) (rk : Nat) (fr : Lc → Option Value) (R : Lc → List Sm), v = .map (some rk) ∧ k = todoL P f dep L (cntV P fr) ∧ Grow w wr ∧ InF wr lb P fl L ∧ InF wr rk P fr R ∧ (cntV P fr = 0 ↔ ∀ y, R y = []) ∧ rk ≠ lb ∧ Pend S x s0 L R ∧ ∀ y, (R y).length ≤ BIG * 60)
  case atStart => exact ⟨_, _, rb, _, _, rfl, by rw [hc6], GW6.out, HL6.out, HR6.out, by rw [hc6]; exact ⟨fun h => (by cases h), fun h => (by have := h x; rw [updL_same] at this; cases this)⟩, hne, HP6.out, fun y => by
    unfold updL
    split
    · simp [BIG_eq]
    · simp⟩
  case round =>
    obtain ⟨fl, L, rk, fr, R, rfl, hgk, hg, hIL, hIR, hem, hrk, hPd, hRl⟩ := hrel
    have HG := hide hg
    have HIL := hide hIL
    have HIR := hide hIR
    have HE := hide hem
    have HPd := hide hPd
    have HRl := hide hRl
    have HGK := hide hgk
    have hlen := fun ty => MapL.len hIR.map Tryz.underlying81 ty
    obtain ⟨c, hc⟩ : ∃ c, cntV P fr = c := ⟨_, rfl⟩
    rw [hc] at hlen HE HGK
    clear hg hIL hIR hem hPd hRl hgk hc GW6 HL6 HR6 HP6 hc6
    by_cases h0 : c = 0
    · subst h0
      go_wp2_with fail
      go_ret
      first
        | exact ⟨lb, fl, L, rfl, HG.out, hlw, HIL.out, HPd.out.done (HE.out.1 (by simp))⟩
        | exact ⟨lb, rfl, HG.out, hlw, fl, L, HIL.out, HPd.out.done (HE.out.1 (by simp))⟩
        | exact ⟨lb, rfl, HG.out, hlw, ⟨fl, L, HIL.out, HPd.out.done (HE.out.1 (by simp))⟩⟩
    · have hc0 : (0 : Int) < (c : Int) := by omega
      have hLL : ∀ y, ∀ s ∈ L y, Like f (dep y) s := fun y s hs => (HW.out y s (HPd.out.part.way y s hs)).2
      have hRL : ∀ y, ∀ s ∈ R y, Like f (dep y) s := fun y s hs => (HW.out y s (HPd.out.way y s hs)).2
      have HRL := hide hRL
      have CA := hide (padd_any lb rk P fl fr L R f dep wr hP HIL.out HIR.out hrk HPd.out.part.ch hLL hRL HRl.out)
      clear hLL hRL
      go_wp2_with fail
      refine CA.out.mono ?_
      rintro _ w2 ⟨fb, fl2, ff, rfl, hg2, hI2, hF2⟩
      have G2 := hide (growL_step HG.out hg2 hlw)
      have HI2 := hide hI2
      have CF := hide (further_any sb fb P fs ff T (fun y => freshL (L y) (R y)) w2 hP (HM.out.later G2.out) hF2.is HSS.out.to HSS.out.few (fun y => freshL_len (HRL.out y)))
      have hlb2 : lb < w2.heap.size := hI2.map.lt
      clear hg2 hI2 hF2 CA HG HIL HIR hlen
      go_wp2_with fail
      refine CF.out.mono ?_
      rintro _ w3 ⟨rb3, fr3, R3, rfl, hg3, hG3, hmem, hl3⟩
      have G3 := hide (Grow.trans' G2.out hg3)
      have HI3 := hide (HI2.out.later hg3)
      have HR3 := hide hG3.is
      have HE3 := hide hG3.empty
      have hrk3 : rb3 ≠ lb := by have := hG3.lo; omega
      have HMm := hide hmem
      have HL3 := hide hl3
      have hP3 : Pend S x s0 (fun b => addL (L b) (R b)) R3 := HPd.out.round H0.out fun b s => by
        rw [HMm.out]
        constructor
        · rintro ⟨a, ha, hs⟩
          obtain ⟨y, hy, e, r, hr, he, rfl⟩ := mem_conL.1 hs
          exact ⟨⟨a, y.b, y.r⟩, (HSS.out.mem _).2 ⟨ha, hy⟩, e, r, hr, he, rfl⟩
        · rintro ⟨y, hy, e, r, hr, he, rfl⟩
          obtain ⟨ha, hy'⟩ := (HSS.out.mem y).1 hy
          exact ⟨y.a, ha, mem_conL.2 ⟨_, hy', e, r, hr, he, rfl⟩⟩
      have HP3 := hide hP3
      have HM3 : Hid (todoL P f dep (fun b => addL (L b) (R b)) (cntV P fr3) < gk) := hide (by
        rw [HGK.out]
        refine todoL_lt h0 HRL.out fun h => ?_
        have h1 : ¬ ∀ b, R3 b = [] := fun k => h (HE3.out.2 k)
        obtain ⟨b, hb⟩ := Classical.not_forall.1 h1
        obtain ⟨s, hs⟩ := List.exists_mem_of_ne_nil _ hb
        obtain ⟨a, ha, hs'⟩ := (HMm.out b s).1 hs
        refine ⟨a, ha, fun k => ?_⟩
        rw [k, conL_nil] at hs'
        cases hs')
      clear hg3 hG3 hmem hl3 hP3 CF HI2 HRL
      go_wp2_with fail
      go_roundg (todoL P f dep (fun b => addL (L b) (R b)) (cntV P fr3))
      case rel => exact ⟨_, _, rb3, fr3, R3, rfl, rfl, G3.out, HI3.out, HR3.out, HE3.out, hrk3, HP3.out, HL3.out⟩
      case measure => exact HM3.out

end Go.Proofs.YtehianjfpmbfpaaGreat
end
