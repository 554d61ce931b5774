/-
  What further does to the world: of rows of summaries, and the steps from each place, what comes of one step more, in rows of its own; what was there stays as it was.
-/
import Derived.Test.YtehianjfpmbfpaaGreatQGmZ
import Derived.Test.YtehianjfpmbfpaaGreatSTh
namespace Go.Proofs.YtehianjfpmbfpaaGreat
set_option maxRecDepth 100000
open Go.RowKit Go.Maps Go.Deep
set_option linter.unusedVariables false
set_option linter.unusedSimpArgs false

/-- What comes of the summaries D by a step that does r; by the steps T, at b. -/
def thenL (r : Sm) (D : List Sm) : List Sm := (D.filter fun s => decide (thenE s r = 0)).map fun s => thenS s r
def conL (T : List Sp) (D : List Sm) (b : Lc) : List Sm := T.flatMap fun y => if y.b = b then thenL y.r D else []
theorem thenL_step (r : Sm) (D : List Sm) (k : Nat) (h : k < D.length) : thenL r (D.take (k + 1)) = thenL r (D.take k) ++ if thenE D[k] r = 0 then [thenS D[k] r] else [] := by
  unfold thenL
  rw [← List.take_append_getElem h, List.filter_append, List.map_append]
  congr 1
  by_cases hc : thenE D[k] r = 0 <;> simp [hc]
theorem conL_step (T : List Sp) (D : List Sm) (b : Lc) (j : Nat) (h : j < T.length) : conL (T.take (j + 1)) D b = conL (T.take j) D b ++ if T[j].b = b then thenL T[j].r D else [] := by
  unfold conL
  rw [← List.take_append_getElem h, List.flatMap_append]
  simp
theorem thenL_len (r : Sm) (D : List Sm) : (thenL r D).length ≤ D.length := by
  unfold thenL
  rw [List.length_map]
  exact List.length_filter_le _ _
theorem conL_len (D : List Sm) (b : Lc) : ∀ T : List Sp, (conL T D b).length ≤ T.length * D.length
  | [] => by simp [conL]
  | y :: T => by
    have h1 := conL_len D b T
    have h2 := thenL_len y.r D
    have e : conL (y :: T) D b = (if y.b = b then thenL y.r D else []) ++ conL T D b := rfl
    rw [e, List.length_append, List.length_cons, Nat.succ_mul]
    split
    · omega
    · simp; omega
theorem mem_conL {T : List Sp} {D : List Sm} {b : Lc} {s : Sm} : s ∈ conL T D b ↔ ∃ y ∈ T, y.b = b ∧ ∃ r ∈ D, thenE r y.r = 0 ∧ s = thenS r y.r := by
  unfold conL thenL
  simp only [List.mem_flatMap]
  constructor
  · rintro ⟨y, hy, h⟩
    split at h
    · rename_i e
      obtain ⟨r, hr, rfl⟩ := List.mem_map.1 h
      rw [List.mem_filter, decide_eq_true_iff] at hr
      exact ⟨y, hy, e, r, hr.1, hr.2, rfl⟩
    · cases h
  · rintro ⟨y, hy, e, r, hr, h1, rfl⟩
    refine ⟨y, hy, ?_⟩
    rw [if_pos e]
    exact List.mem_map.2 ⟨r, List.mem_filter.2 ⟨hr, by simp [h1]⟩, rfl⟩
theorem conL_nil (T : List Sp) (b : Lc) : conL T [] b = [] := by
  unfold conL
  rw [List.flatMap_eq_nil_iff]
  intro y _
  split <;> simp [thenL]

/-- Rows of steps, one for each place. -/
structure StpM (w : World) (b : Nat) (P : List Lc) (f : Lc → Option Value) (T : Lc → List Sp) : Prop where
  map : MapL w b P f
  row : ∀ x ∈ P, ∃ s n c, f x = some (.slice s n c) ∧ IsSps w s n c (T x)
theorem StpM.later {w w' : World} {b : Nat} {P : List Lc} {f : Lc → Option Value} {T : Lc → List Sp} (hg : Grow w w') (h : StpM w b P f T) : StpM w' b P f T :=
  ⟨h.map.later hg, fun x hx => by obtain ⟨s, n, c, e, hI⟩ := h.row x hx; exact ⟨s, n, c, e, hI.later hg⟩⟩
theorem zeroSteps (w : World) : (zeroValue 96).run Tryz.prog w = .ok (.slice none 0 0) w := by kernel_rfl
theorem StpM.get2 {w w2 : World} {b : Nat} {P : List Lc} {f : Lc → Option Value} {T : Lc → List Sp} (h : StpM w b P f T) (hg : Grow w w2) {x : Lc} (hx : x ∈ P) :
    ∃ s n c, (Instr.lookup 75 (.map (some b)) (.agg #[.int .i64 x.n, .int .i64 x.p]) false).run Tryz.prog w2 = .ok (.slice s n c) w2 ∧ IsSps w s n c (T x) := by
  obtain ⟨s, n, c, e, hI⟩ := h.row x hx
  have h1 := (h.map.later hg).get Tryz.underlying75 (zeroSteps w2) (x := x) (by obtain ⟨D, hD⟩ := h.map; exact hD.wf x hx)
  unfold vL at h1
  rw [e] at h1
  exact ⟨s, n, c, h1, hI⟩
theorem StpM.get {w : World} {b : Nat} {P : List Lc} {f : Lc → Option Value} {T : Lc → List Sp} (h : StpM w b P f T) {x : Lc} (hx : x ∈ P) :
    ∃ s n c, (Instr.lookup 75 (.map (some b)) (.agg #[.int .i64 x.n, .int .i64 x.p]) false).run Tryz.prog w = .ok (.slice s n c) w ∧ IsSps w s n c (T x) := by
  obtain ⟨s, n, c, e, hI⟩ := h.row x hx
  have h1 := h.map.get Tryz.underlying75 (zeroSteps w) (x := x) (by obtain ⟨D, hD⟩ := h.map; exact hD.wf x hx)
  unfold vL at h1
  rw [e] at h1
  exact ⟨s, n, c, h1, hI⟩
/-- A range over an elder map goes on beside a map and rows of the call's own. -/
structure KeepR (W w : World) (db r n : Nat) (D : DataW Value) (left : Lit → Bool) (cnt : Nat) : Prop where
  rg : RangesL w db r n D left cnt
  gr : Grow W w
theorem KeepR.later {W w w' : World} {db r n : Nat} {D : DataW Value} {left : Lit → Bool} {cnt : Nat} (h : KeepR W w db r n D left cnt) (hg : Grow w w') : KeepR W w' db r n D left cnt := ⟨rangesL_later h.rg hg, Grow.trans' h.gr hg⟩
theorem KeepR.mapTurn {W w w' : World} {db r n g : Nat} {D : DataW Value} {left : Lit → Bool} {cnt : Nat} (h : KeepR W w db r n D left cnt) (hg : w.grownBy w' (some g)) (hm : ∃ es cl, w.heap[g]? = some (.map es cl)) (hW : W.heap.size ≤ g) (hne : db ≠ g) : KeepR W w' db r n D left cnt := by
  obtain ⟨es, cl, hm⟩ := hm
  exact ⟨mapTurn_ranges hg hm h.rg hne, growL_step h.gr hg hW⟩
theorem KeepR.rowTurn {W w w' : World} {db r n base : Nat} {D : DataW Value} {left : Lit → Bool} {cnt : Nat} {s : Option Addr} (h : KeepR W w db r n D left cnt) (ht : RowTurn w w' base s) (hb : W.heap.size ≤ base) : KeepR W w' db r n D left cnt := ⟨ht.ranges h.rg, ht.grow h.gr hb⟩
/-- A step in a box. -/
def FixP (w : World) (q : Nat) (y : Sp) : Prop := BoxP w q y ∧ TyB w q 120
theorem FixP.later {w w' : World} {q : Nat} {y : Sp} (h : FixP w q y) (hg : Grow w w') : FixP w' q y := ⟨h.1.later hg, h.2.later hg⟩
theorem FixP.keep {w w' : World} {q : Nat} {y : Sp} (h : FixP w q y) (he : w'.heap[q]? = w.heap[q]?) : FixP w' q y := by
  obtain ⟨cs, r, hb⟩ := h.2
  exact ⟨boxP_keep h.1 he, cs, r, he.trans hb⟩
theorem step_ne : (120 : TypeId) ≠ 68 := by decide
theorem FixP.mapTurn {w w' : World} {q g : Nat} {y : Sp} (h : FixP w q y) (hg : w.grownBy w' (some g)) (hm : ∃ es cl, w.heap[g]? = some (.map es cl)) : FixP w' q y := by
  obtain ⟨es, cl, hm⟩ := hm
  exact h.keep (mapTurn_keepTy hg hm h.2)
theorem FixP.rowTurn {w w' : World} {q base : Nat} {y : Sp} {s : Option Addr} (h : FixP w q y) (ht : RowTurn w w' base s) : FixP w' q y := h.keep (ht.keepTy h.2 step_ne)
theorem HalfF.isMap {w : World} {base b : Nat} {P : List Lc} {f : Lc → Option Value} {R : Lc → List Sm} {No : Nat → Prop} {x : Lc} {st : Nat} {s : Option Addr} (h : HalfF w base b P f R No x st s) : ∃ es cl, w.heap[b]? = some (.map es cl) := h.map.isMap
theorem GrpF.isMap {w : World} {base b : Nat} {P : List Lc} {f : Lc → Option Value} {R : Lc → List Sm} {No : Nat → Prop} (h : GrpF w base b P f R No) : ∃ es cl, w.heap[b]? = some (.map es cl) := h.map.isMap
/-- Stored into a box of the call's own; its block's type with it. -/
theorem wpList_putP' {ops : Array Oper} {rest : List Oper} {o : Oper} {a : Act} {w : World} {Q : Exit → Act → World → Prop} (hgd : o.guard = none) (x y : Operand) (ho : o.op = .store 120 x y) (b : Nat) (t : Sp)
    (hx : a.eval x = .pointer (some ⟨b, 0, none⟩)) (hy : a.eval y = .agg #[.int .i64 t.b.n, .int .i64 t.b.p, .int .i64 t.r.f, .int .i64 t.r.t, .int .i64 t.r.k, .int .i64 t.r.ep, .int .i64 t.r.x, .int .i64 t.r.y, .int .i64 t.r.z]) (hb : BlkP w b) (W : World) (hg : Grow W w) (hW : W.heap.size ≤ b) (h : ∀ w2, Grow W w2 → FixP w2 b t → wpList Tryz.prog ops Q rest (a.put o.dst undef) w2) : wpList Tryz.prog ops Q (o :: rest) a w := by
  have hb' := hb
  obtain ⟨cs, hb1, hs⟩ := hb
  refine wpList_store_row hgd 120 x y ho b _ hx hy _ _ hb1 (by kernel_rfl) (by rw [hs]; rfl) (by simp [Value.oneCell']) (h _ (below_setRow hg hW _) ⟨hb'.box t, ?_⟩)
  exact ⟨_, (0, 0), by simp only [World.setRow, Array.getElem?_modify, if_true, hb1, Option.map_some]; rfl⟩

attribute [local go_sem ↓] run_makeMap
/-- What has come of the places that are through. -/
structure FuSpec (P : List Lc) (T : Lc → List Sp) (F : Lc → List Sm) (left : Lit → Bool) (R : Lc → List Sm) : Prop where
  mem : ∀ b s, s ∈ R b ↔ ∃ a ∈ P, left (klL a) = false ∧ s ∈ conL (T a) (F a) b
  len : ∀ b, (R b).length ≤ BIG * sumP P (fun a => if left (klL a) = true then 0 else (T a).length)
theorem FuSpec.step {P : List Lc} {T : Lc → List Sp} {F : Lc → List Sm} {left : Lit → Bool} {R : Lc → List Sm} (h : FuSpec P T F left R) (hwf : ∀ x ∈ P, LcWf x) (hF : ∀ x, (F x).length ≤ BIG) {x : Lc} (hx : x ∈ P) (hl : left (klL x) = true) :
    FuSpec P T F (fun z => left z && !z.sameKey (klL x)) fun b => R b ++ conL (T x) (F x) b := by
  have hw := hwf x hx
  refine ⟨fun b s => ?_, fun b => ?_⟩
  · rw [List.mem_append, h.mem]
    constructor
    · rintro (⟨a, ha, hla, hs⟩ | hs)
      · have hax : a ≠ x := fun e => by rw [e, hl] at hla; cases hla
        exact ⟨a, ha, (strikeL_other hw (hwf a ha) hax).trans hla, hs⟩
      · exact ⟨x, hx, strikeL_same hw, hs⟩
    · rintro ⟨a, ha, hla, hs⟩
      by_cases hax : a = x
      · subst hax; exact .inr hs
      · exact .inl ⟨a, ha, (strikeL_other hw (hwf a ha) hax).symm.trans hla, hs⟩
  · have h1 := h.len b
    have h2 := conL_len (F x) b (T x)
    have h3 : (T x).length * (F x).length ≤ BIG * (T x).length := by rw [Nat.mul_comm]; exact Nat.mul_le_mul_right _ (hF x)
    have h4 : sumP P (fun a => if left (klL a) = true then 0 else (T a).length) + (T x).length ≤ sumP P (fun a => if (left (klL a) && !(klL a).sameKey (klL x)) = true then 0 else (T a).length) := by
      refine sumP_lt (T x).length (fun a ha => ?_) ⟨x, hx, ?_⟩
      · by_cases hax : a = x
        · subst hax
          rw [strikeL_same hw, hl]; simp
        · rw [strikeL_other hw (hwf a ha) hax]
          exact Nat.le_refl _
      · rw [strikeL_same hw, hl]; simp
    rw [List.length_append]
    have h5 := Nat.mul_le_mul_left BIG h4
    rw [Nat.mul_add] at h5
    omega
theorem sumP_mono60 {P : List Lc} {T : Lc → List Sp} {left : Lit → Bool} (h : sumP P (fun x => (T x).length) ≤ 60) : sumP P (fun a => if left (klL a) = true then 0 else (T a).length) ≤ 60 :=
  Nat.le_trans (sumP_le fun x _ => by split <;> simp) h
theorem then_atQ (s r q : Sm) (e : Int) (h1 : thenS s r = q) (h2 : thenE s r = e) (w : World) :
    Calls Tryz.prog 82 #[.agg #[.int .i64 s.f, .int .i64 s.t, .int .i64 s.k, .int .i64 s.ep, .int .i64 s.x, .int .i64 s.y, .int .i64 s.z], .agg #[.int .i64 r.f, .int .i64 r.t, .int .i64 r.k, .int .i64 r.ep, .int .i64 r.x, .int .i64 r.y, .int .i64 r.z]] w fun e' w' => e' = .returned (.tuple #[.agg #[.int .i64 q.f, .int .i64 q.t, .int .i64 q.k, .int .i64 q.ep, .int .i64 q.x, .int .i64 q.y, .int .i64 q.z], .int .i64 e]) ∧ Grow w w' := by
  rw [← h1, ← h2]; exact then_any s r w
set_option maxHeartbeats 4000000 in
theorem further_any (sb db : Nat) (P : List Lc) (fs fd : Lc → Option Value) (T : Lc → List Sp) (F : Lc → List Sm) (w : World) (hP : P.length ≤ 60) (hS : StpM w sb P fs T) (hD : InF w db P fd F)
    (hT : ∀ x ∈ P, ∀ y ∈ T x, y.b ∈ P) (hTl : sumP P (fun x => (T x).length) ≤ 60) (hF : ∀ x, (F x).length ≤ BIG) :
    Calls Tryz.prog 58 #[.map (some sb), .map (some db)] w fun e w' => ∃ rb fr R, e = .returned (.map (some rb)) ∧ Grow w w' ∧ GrpF w' w.heap.size rb P fr R (fun _ => False) ∧
      (∀ b s, s ∈ R b ↔ ∃ a ∈ P, s ∈ conL (T a) (F a) b) ∧ ∀ b, (R b).length ≤ BIG * 60 := by
  obtain ⟨D, hMD⟩ := hD.map
  have hwf := hide hMD.wf
  have hPb : P.length < 1000000000 := by omega
  have G0 := hide (Grow.alloc' w (.map #[] 0))
  have HR0 := hide (GrpF.new w w.heap.size P hMD.nodup hMD.wf (Nat.le_refl _) (fun _ => False))
  have HMD := hide (hMD.keep (G0.out.block db hMD.owns.lt))
  have HMDk := hide hMD
  have HS := hide hS
  have HD := hide hD
  have hdb : db < w.heap.size := hD.map.lt
  have HT := hide hT
  have HF := hide hF
  have HTL := hide hTl
  clear hS hD hMD hT hF hTl
  obtain ⟨rb, hrb⟩ : ∃ rb, rb = w.heap.size := ⟨_, rfl⟩
  have hrbw : w.heap.size ≤ rb := by omega
  have hne : db ≠ rb := by omega
  have HRB := hide hrb
  go_enter Tryz.func58, Tryz.ntmps58
  go_wp2_with (at_range; refine wpList_range_L rfl _ 81 _ Tryz.underlying81 rfl db P fd D rfl HMD.out ?_; intro w0 hrg0 hg0 hs0)
  try go_frame
  rw [← hrb] at HR0 ⊢
  obtain ⟨r, hr⟩ : ∃ r, r = (w.alloc (.map #[] 0)).heap.size := ⟨_, rfl⟩
  rw [← hr] at hrg0 ⊢
  have HK0 : Hid (KeepR w w0 db r (cntV P fd) D (Maps.has D) (cntV P fd)) := hide ⟨hrg0, Grow.trans' G0.out hg0⟩
  have HG0 := hide (HR0.out.later hg0)
  have hrr : w.heap.size ≤ r := by rw [hr]; simp
  clear hrg0 hg0 hs0 HR0 G0 HMD hr hrb
  have HSP0 : Hid (FuSpec P T F (Maps.has D) fun _ => []) := hide ⟨fun b s => ⟨fun h => (by cases h), fun ⟨a, ha, hl, hs⟩ => by
    have h1 := HMDk.out.has a (hwf.out a ha)
    rw [hl] at h1
    rcases HD.out.row a with ⟨_, e⟩ | ⟨s', n', c', e, _⟩
    · rw [e, conL_nil] at hs; exact hs
    · rw [e] at h1; cases h1⟩, fun b => Nat.zero_le _⟩
  go_loopw [] (fun wr => ∃ (left : Lit → Bool) (cnt : Nat) (fr : Lc → Option Value) (R : Lc → List Sm), KeepR w wr db r (cntV P fd) D left cnt ∧ GrpF wr rb rb P fr R (fun _ => False) ∧ FuSpec P T F left R) (fun wr => wr.rangeLeft db r)
  case atStart => exact ⟨_, _, _, _, HK0.out, HG0.out, HSP0.out⟩
  case round =>
    obtain ⟨left, cnt, fr, R, hK, hG, hSp⟩ := hrel
    have HK := hide hK
    have HG := hide hG
    have HSp := hide hSp
    clear hK hG hSp HK0 HG0 HSP0
    go_wp2_with (at_next; refine wpList_next_L rfl _ rfl db r P fd D w HMDk.out left cnt rfl HK.out.rg ?_ ?_)
    · intro hl
      have HL := hide hl
      clear hl
      go_wp2_with fail
      go_ret
      refine ⟨rb, fr, R, rfl, HK.out.gr, by rw [← HRB.out]; exact HG.out, fun b s => ?_, fun b => ?_⟩
      · rw [HSp.out.mem]
        exact ⟨fun ⟨a, ha, _, h⟩ => ⟨a, ha, h⟩, fun ⟨a, ha, h⟩ => ⟨a, ha, HL.out _, h⟩⟩
      · exact Nat.le_trans (HSp.out.len b) (Nat.mul_le_mul_left _ (sumP_mono60 HTL.out))
    · intro x v w1 cnt1 hwx hfx hlx hrg1 hlt hg1 hs1 hen
      obtain ⟨s, n, c, hv, hI⟩ : ∃ s n c, v = .slice s n c ∧ IsSms w s n c (F x) := by
        rcases HD.out.row x with ⟨e, _⟩ | ⟨s, n, c, e, hI, _⟩
        · rw [hfx] at e; cases e
        · rw [hfx] at e; exact ⟨s, n, c, Option.some.inj e, hI⟩
      subst hv
      have hx : x ∈ P := HMDk.out.keys x (by rw [hfx]; simp)
      obtain ⟨L', hL'⟩ : ∃ L', L' = fun z : Lit => left z && !z.sameKey (klL x) := ⟨_, rfl⟩
      rw [← hL'] at hrg1
      have HK1 : Hid (KeepR w w1 db r (cntV P fd) D L' cnt1) := hide ⟨hrg1, growL_step HK.out.gr hg1 hrr⟩
      have HG1 := hide (HG.out.iterTurn hg1 (ranges_iter HK.out.rg).2)
      have HLE := hide HK.out.rg.left_eq
      have HSp1 : Hid (FuSpec P T F L' fun b => R b ++ conL (T x) (F x) b) := hide (by rw [hL']; exact HSp.out.step hwf.out HF.out hx hlx)
      have HRl := hide fun b => HSp.out.len b
      have HI := hide hI
      have hn : n ≤ 4012012004 := by rw [← hI.1, ← BIG_eq]; exact HF.out x
      have HX := hide hx
      have HLT := hide hlt
      clear hI hwx hfx hlx hrg1 hlt hg1 hs1 HK HG HSp hL' hx
      go_wp2_with (refine wpList_putL rfl _ _ rfl w1.heap.size x rfl rfl (BlkL.new w1) w1 (Grow.alloc' _ _) (Nat.le_refl _) ?_)
      intro w2 hg2 hb2
      have HK2 := hide (HK1.out.later hg2)
      have HG2 := hide (HG1.out.later hg2)
      obtain ⟨q0, q1⟩ := hb2
      obtain ⟨s5, n5, c5, hlk, hI5⟩ := HS.out.get2 HK2.out.gr HX.out
      have HI5 := hide hI5
      have hn5 : n5 ≤ 60 := by
        have h1 : (T x).length ≤ 60 := Nat.le_trans (by have := sumP_lt (P := P) (u := fun _ => 0) (v := fun x => (T x).length) (T x).length (fun _ _ => Nat.zero_le _) ⟨x, HX.out, by simp⟩; omega) HTL.out
        rw [← hI5.1]; exact h1
      clear hg2 HK1 HG1 hen hI5
      go_wp2_with fail
      obtain ⟨wo, rfl⟩ : ∃ wo : World, wo = wr := ⟨_, rfl⟩
      go_loopw [26] (fun i wq => ∃ (j : Nat) (fq : Lc → Option Value) (R' : Lc → List Sm), j ≤ n5 ∧ i = .int .i64 j ∧ KeepR w wq db r (cntV P fd) D L' cnt1 ∧ GrpF wq rb rb P fq R' (fun _ => False) ∧ ∀ b, R' b = R b ++ conL ((T x).take j) (F x) b) (fun i _ => n5 - (intOf i).toNat)
      case atStart => exact ⟨0, _, R, Nat.zero_le _, rfl, HK2.out, HG2.out, fun b => by simp [conL]⟩
      case round =>
        obtain ⟨j, fq, R', hj, rfl, hK, hG, hRe⟩ := hrel
        have HK3 := hide hK
        have HG3 := hide hG
        have HRe := hide hRe
        clear hK hG hRe HK2 HG2 hlk
        by_cases hlt1 : j < n5
        · have hjd : j < (T x).length := by rw [HI5.out.1]; exact hlt1
          have hne5 : ¬ T x = [] := fun h => by rw [h] at hjd; simp at hjd
          obtain ⟨b5, o5, rfl, hr5⟩ := HI5.out.2.2.resolve_left hne5
          obtain ⟨p0, p1, p2, p3, p4, p5, p6, p7, p8⟩ := (hr5.later HK3.out.gr).at j hjd
          have HCS := hide (fun b => conL_step (T x) (F x) b j hjd)
          have HYT := hide (HT.out x HX.out _ (List.getElem_mem hjd))
          obtain ⟨y, hy⟩ : ∃ y, y = (T x)[j] := ⟨_, rfl⟩
          rw [← hy] at p0 p1 p2 p3 p4 p5 p6 p7 p8 HCS HYT
          have hi1 : (0 : Int) ≤ (j : Int) := by omega
          have hi2 : (j : Int) < (n5 : Int) := by omega
          clear hr5 hne5 hy hjd
          obtain ⟨w3, rfl⟩ : ∃ w3 : World, w3 = wr := ⟨_, rfl⟩
          go_wp2_with (refine wpList_putP' rfl _ _ rfl w3.heap.size y rfl rfl (BlkP.new w3 _ rfl) w3 (Grow.alloc' _ _) (Nat.le_refl _) ?_)
          intro w4 hg4 hf4
          have HK4 := hide (HK3.out.later hg4)
          have HG4 := hide (HG3.out.later hg4)
          have HF4 := hide hf4
          clear hg4 hf4 p0 p1 p2 p3 p4 p5 p6 p7 p8 HK3 HG3
          go_wp2_with fail
          go_loopw [32] (fun i wq => ∃ (k : Nat) (fq : Lc → Option Value) (R2 : Lc → List Sm), k ≤ n ∧ i = .int .i64 k ∧ KeepR w wq db r (cntV P fd) D L' cnt1 ∧ GrpF wq rb rb P fq R2 (fun _ => False) ∧ FixP wq w3.heap.size y ∧ ∀ b, R2 b = R' b ++ if y.b = b then thenL y.r ((F x).take k) else []) (fun i _ => n - (intOf i).toNat)
          case atStart => exact ⟨0, _, R', Nat.zero_le _, rfl, HK4.out, HG4.out, HF4.out, fun b => by simp [thenL]⟩
          case round =>
            obtain ⟨k, f2, R2, hk, rfl, hK, hG, hFx, hR2⟩ := hrel
            have HK5 := hide hK
            have HG5 := hide hG
            have HF5 := hide hFx
            have HR2 := hide hR2
            clear hK hG hFx hR2 HK4 HG4 HF4
            by_cases hlt2 : k < n
            · have hkd : k < (F x).length := by rw [HI.out.1]; exact hlt2
              have hne : ¬ F x = [] := fun h => by rw [h] at hkd; simp at hkd
              obtain ⟨bs, os, rfl, hrs⟩ := HI.out.2.2.resolve_left hne
              obtain ⟨z0, z1, z2, z3, z4, z5, z6⟩ := (hrs.later HK5.out.gr).at k hkd
              have HTS := hide (thenL_step y.r (F x) k hkd)
              obtain ⟨z, hz⟩ : ∃ z, z = (F x)[k] := ⟨_, rfl⟩
              rw [← hz] at z0 z1 z2 z3 z4 z5 z6 HTS
              have hk1 : (0 : Int) ≤ (k : Int) := by omega
              have hk2 : (k : Int) < (n : Int) := by omega
              clear hrs hne hz hkd
              obtain ⟨w5, rfl⟩ : ∃ w5 : World, w5 = wr := ⟨_, rfl⟩
              go_wp2_with (refine wpList_putS rfl _ _ rfl w5.heap.size z rfl rfl (BlkS.new w5) w5 (Grow.alloc' _ _) (Nat.le_refl _) ?_)
              intro w6 hg6 hb6
              have HK6 := hide (HK5.out.later hg6)
              have HG6 := hide (HG5.out.later hg6)
              have HF6 := hide (HF5.out.later hg6)
              obtain ⟨c0, c1, c2, c3, c4, c5, c6⟩ := hb6
              obtain ⟨f0, f1, f2', f3, f4, f5, f6, f7, f8⟩ := HF6.out.1
              obtain ⟨q, hq⟩ : ∃ q, thenS z y.r = q := ⟨_, rfl⟩
              obtain ⟨e, he⟩ : ∃ e, thenE z y.r = e := ⟨_, rfl⟩
              rw [hq, he] at HTS
              have CT := hide (then_atQ z y.r q e hq he)
              clear hg6 z0 z1 z2 z3 z4 z5 z6 HK5 HG5 HF5 hq he
              go_wp2_with fail
              refine (CT.out _).mono ?_
              rintro _ w7 ⟨rfl, hb7⟩
              have HK7 := hide (HK6.out.later hb7)
              have HG7 := hide (HG6.out.later hb7)
              have HF7 := hide (HF6.out.later hb7)
              clear hb7 c0 c1 c2 c3 c4 c5 c6 f0 f1 f2' f3 f4 f5 f6 f7 f8 HK6 HG6 HF6 CT
              go_wp2_with (refine wpList_putS rfl _ _ rfl w7.heap.size q rfl rfl (BlkS.new w7) w7 (Grow.alloc' _ _) (Nat.le_refl _) ?_)
              intro w8 hg8 hb8
              have HK8 := hide (HK7.out.later hg8)
              have HG8 := hide (HG7.out.later hg8)
              have HF8 := hide (HF7.out.later hg8)
              obtain ⟨c0, c1, c2, c3, c4, c5, c6⟩ := hb8
              clear hg8 HK7 HG7 HF7
              by_cases he : e = 0
              · subst he
                obtain ⟨f0, f1, _, _, _, _, _, _, _⟩ := HF8.out.1
                have hrow := hide (RowM_one w8 q)
                have HK9 := hide (HK8.out.later (Grow.alloc' w8 (.cells #[.int .i64 q.f, .int .i64 q.t, .int .i64 q.k, .int .i64 q.ep, .int .i64 q.x, .int .i64 q.y, .int .i64 q.z] 68)))
                have HF9 := hide (HF8.out.later (Grow.alloc' w8 (.cells #[.int .i64 q.f, .int .i64 q.t, .int .i64 q.k, .int .i64 q.ep, .int .i64 q.x, .int .i64 q.y, .int .i64 q.z] 68)))
                have HG9 := hide (HG8.out.later (Grow.alloc' w8 (.cells #[.int .i64 q.f, .int .i64 q.t, .int .i64 q.k, .int .i64 q.ep, .int .i64 q.x, .int .i64 q.y, .int .i64 q.z] 68)))
                have hBl : Hid ((R2 y.b).length + 1 ≤ 1000000000000) := hide (by
                  have h1 := HRl.out y.b
                  have h2 := Nat.mul_le_mul_left BIG (sumP_mono60 (left := left) HTL.out)
                  have h3 := conL_len (F x) y.b ((T x).take j)
                  have h4 := thenL_len y.r ((F x).take k)
                  have h5 : ((T x).take j).length * (F x).length ≤ 60 * BIG := Nat.mul_le_mul (by rw [List.length_take]; omega) (HF.out x)
                  have h6 : ((F x).take k).length ≤ BIG := Nat.le_trans (by rw [List.length_take]; exact Nat.min_le_right _ _) (HF.out x)
                  rw [HR2.out, HRe.out, if_pos rfl, List.length_append, List.length_append]
                  rw [BIG_eq] at h1 h2 h5 h6
                  omega)
                clear HK8 HG8 HF8
                go_wp2_with (refine wpList_entry_G rfl _ _ rfl (x := y.b) rfl rfl HG9.out hPb HYT.out ?_)
                intro s9 n9 c9 st f9 w9 hH9 hO9 hg9
                have HK10 := hide (HK9.out.mapTurn hg9 HG9.out.isMap hrbw hne)
                have HF10 := hide (HF9.out.mapTurn hg9 HG9.out.isMap)
                have hrow9 := hide (hrow.out.mapTurn hg9 HG9.out.isMap.choose_spec.choose_spec)
                have hO9' := hide hO9
                have hH9' := hide hH9
                have hn9 : n9 + 1 ≤ 1000000000000 := by rw [← hO9.1]; exact hBl.out
                clear hg9 HK9 HF9 HG9 hrow c0 c1 c2 c3 c4 c5 c6 f0 f1 hO9 hH9
                go_wp2_with (at_builtin; refine wpList_append_G rfl _ _ rfl hH9'.out hO9'.out rfl w8.heap.size 0 1 rfl hrow9.out hn9 (Nat.le_of_lt hH9'.out.map.lt) (fun _ h => h.elim) ?_)
                intro s10 c10 w10 hH10 hO10 ht10
                have HK11 := hide (HK10.out.rowTurn ht10 hrbw)
                have HF11 := hide (HF10.out.rowTurn ht10)
                have hH11 := hide hH10
                have hO11 := hide hO10
                clear ht10 hH10 hO10 HK10 HF10 hrow9 hO9' hH9' hn9
                go_wp2_with (refine wpList_estore_G rfl _ _ _ rfl rfl rfl rfl hH11.out hPb HYT.out hO11.out (by simp) ?_)
                intro f12 w12 hG12 hg12
                have HK12 := hide (HK11.out.mapTurn hg12 hH11.out.isMap hrbw hne)
                have HF12 := hide (HF11.out.mapTurn hg12 hH11.out.isMap)
                have HG12 := hide hG12
                have HR3 : Hid (∀ b, updL R2 y.b (R2 y.b ++ [q]) b = R' b ++ if y.b = b then thenL y.r ((F x).take (k + 1)) else []) := hide (fun b => by
                  by_cases hb : y.b = b
                  · subst hb
                    rw [updL_same, HR2.out, if_pos rfl, if_pos rfl, HTS.out, if_pos trivial, List.append_assoc]
                  · rw [updL_other R2 _ (fun h => hb h.symm), HR2.out, if_neg hb, if_neg hb])
                clear hG12 hg12 HK11 HF11 hH11 hO11
                go_wp2_with fail
                go_roundw
                case rel => exact ⟨k + 1, f12, _, by omega, by go_num, HK12.out, HG12.out, HF12.out, HR3.out⟩
                case measure => simp [intOf]; omega
              · have HR3 : Hid (∀ b, R2 b = R' b ++ if y.b = b then thenL y.r ((F x).take (k + 1)) else []) := hide (fun b => by rw [HR2.out, HTS.out, if_neg he, List.append_nil])
                go_wp2_with fail
                go_roundw
                case rel => exact ⟨k + 1, f2, R2, Nat.succ_le_of_lt hlt2, by go_num, HK8.out, HG8.out, HF8.out, HR3.out⟩
                case measure => simp [intOf]; omega
            · have hi3 : ¬ (k : Int) < (n : Int) := by omega
              have HT6 : Hid ((F x).take k = F x) := hide (List.take_of_length_le (by rw [HI.out.1]; omega))
              go_wp2_with fail
              go_roundw
              case rel => exact ⟨j + 1, f2, R2, by omega, by go_num, HK5.out, HG5.out, fun b => by rw [HR2.out, HRe.out, HT6.out, HCS.out, List.append_assoc]⟩
              case measure => simp [intOf]; omega
        · have hi2 : ¬ (j : Int) < (n5 : Int) := by omega
          have HT5 : Hid ((T x).take j = T x) := hide (List.take_of_length_le (by rw [HI5.out.1]; omega))
          go_wp2_with fail
          go_roundw
          case rel => exact ⟨L', cnt1, fq, _, HK3.out, HG3.out.ext (fun b => by rw [HRe.out, HT5.out]), HSp1.out⟩
          case measure => rw [HK3.out.rg.left_eq, HLE.out]; exact HLT.out

end Go.Proofs.YtehianjfpmbfpaaGreat
