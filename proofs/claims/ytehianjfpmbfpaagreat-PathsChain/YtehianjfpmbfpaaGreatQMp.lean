/-
  Maps with places as keys: what a block of the world that is one holds, said by a plain function to values; look-up, entry, store, length, ranging over it.
-/
import Derived.Test.YtehianjfpmbfpaaGreatHRow
import Derived.Maps.RangeWalk
import Derived.Maps.OwnOps
import Derived.Maps.Ext
import Derived.DeepKeys4
import Derived.WideKeyEntry
namespace Go.Proofs.YtehianjfpmbfpaaGreat
set_option maxRecDepth 100000
open Go.RowKit Go.Maps Go.Deep Go.ChangeMaps Go.WideElems Go.WideShapes
set_option linter.unusedVariables false
set_option linter.unusedSimpArgs false

def vL (t : Lc) : Value := .agg #[.int .i64 t.n, .int .i64 t.p]
def LcWf (t : Lc) : Prop := (Lit.int .i64 t.n).wf = true ∧ (Lit.int .i64 t.p).wf = true
theorem rowKL : (27 : TypeId) < Tryz.prog.types.size := of_decide_eq_true (by kernel_rfl)
theorem wideKL : (match Tryz.prog.underlying 27 with | some (.array _ _) | some (.struct _) => true | _ => false) = true := by kernel_rfl
theorem lawL : WideMaps.KeyLaw Tryz.prog 27 := deep_law_laid laidOut (m := 3) (by omega) rowKL (by kernel_rfl) wideKL
theorem lawK : Keyed Tryz.prog 27 := Keyed.of_law lawL
theorem keyTypeKL : Tryz.prog.keyType 27 = true := by kernel_rfl
theorem cellsKL : Tryz.prog.cellsOf 27 = 2 := by kernel_rfl
theorem cellsKI : Tryz.prog.cellsOf 3 = 1 := by kernel_rfl
theorem sizeKL : ∃ m, Tryz.prog.types.size + 1 = m + 4 := ⟨Tryz.prog.types.size - 3, by have : 4 ≤ Tryz.prog.types.size := of_decide_eq_true (by kernel_rfl); omega⟩
theorem keyOf_vL (t : Lc) (h : LcWf t) : ∃ l, keyOf Tryz.prog 27 (vL t) = some l := by
  obtain ⟨m, hm⟩ := sizeKL
  obtain ⟨h1, h2⟩ := h
  have hk := keyTypeKL
  have hf : (vL t).formed Tryz.prog 27 = true := by simp [vL, Value.formed, Tryz.underlying27, cellsKL]
  unfold keyOf
  simp only [Tryz.underlying27, hk, hf, hm]
  simp [Program.keyLits, Tryz.underlying27, Tryz.underlying3, cellsKL, cellsKI, vL, Value.cells, h1, h2, List.range_succ]
theorem kl_int {m : Nat} {c : Value} {ls : List Lit} (h : Tryz.prog.keyLits (m + 1) 3 [c] = some ls) : ∃ n, c = .int .i64 n ∧ (Lit.int .i64 n).wf = true := by
  unfold Program.keyLits at h
  simp only [Tryz.underlying3] at h
  cases c <;> simp at h
  obtain ⟨⟨rfl, hw⟩, _⟩ := h
  exact ⟨_, rfl, hw⟩
theorem keyOf_invL {key : Value} {l : Lit} (h : keyOf Tryz.prog 27 key = some l) : ∃ t, key = vL t ∧ LcWf t := by
  obtain ⟨m, hm⟩ := sizeKL
  unfold keyOf at h
  simp only [Tryz.underlying27, hm] at h
  split at h
  · rename_i hc
    simp only [Bool.and_eq_true] at hc
    obtain ⟨_, hf⟩ := hc
    simp only [Value.formed, Tryz.underlying27, cellsKL] at hf
    cases key <;> simp at hf
    rename_i xs
    obtain ⟨c0, c1, rfl⟩ : ∃ c0 c1, xs = #[c0, c1] := by
      obtain ⟨ys⟩ := xs
      match ys, hf with
      | [c0, c1], _ => exact ⟨c0, c1, rfl⟩
    unfold Program.keyLits at h
    simp only [Tryz.underlying27] at h
    simp [cellsKL, cellsKI, Value.cells, Option.bind_eq_some_iff] at h
    obtain ⟨_, h0, _, ⟨_, h1, _⟩, _⟩ := h
    obtain ⟨e, rfl, w0⟩ := kl_int h0
    obtain ⟨d, rfl, w1⟩ := kl_int h1
    exact ⟨⟨e, d⟩, rfl, w0, w1⟩
  · cases h
/-- What a place reads as, as a key. -/
noncomputable def klL (t : Lc) : Lit := (keyOf Tryz.prog 27 (vL t)).getD (.bool false)
theorem keyL {t : Lc} (h : LcWf t) : keyOf Tryz.prog 27 (vL t) = some (klL t) := by
  obtain ⟨l, hl⟩ := keyOf_vL t h
  simp [klL, hl]
theorem vL_inj {a b : Lc} (h : vL a = vL b) : a = b := by
  simp only [vL, Value.agg.injEq, Array.mk.injEq, List.cons.injEq, Value.int.injEq, true_and, and_true] at h
  exact Lc.ext' h.1 h.2
theorem klL_inj {a b : Lc} (ha : LcWf a) (hb : LcWf b) (h : klL a = klL b) : a = b := by
  have h1 := keyL ha
  rw [h] at h1
  exact vL_inj (lawK.inj h1 (keyL hb))
theorem klL_key {t : Lc} (h : LcWf t) : WideAt.IsKeyLit (klL t) := lawK.key (keyL h)
theorem strikeL_other {left : Lit → Bool} {x y : Lc} (hx : LcWf x) (hy : LcWf y) (h : y ≠ x) : (left (klL y) && !(klL y).sameKey (klL x)) = left (klL y) := by
  rw [Maps.sameKey_ne (fun e => h (klL_inj hy hx e))]; simp
theorem strikeL_same {left : Lit → Bool} {x : Lc} (hx : LcWf x) : (left (klL x) && !(klL x).sameKey (klL x)) = false := by
  rw [WideAt.sameKey_self (klL_key hx)]; simp

/-- What a value reads as: itself. -/
abbrev PV : Value → Option (DataW Value × List MemPlace) := fun v => some (.held v, [])
def cntV (P : List Lc) (f : Lc → Option Value) : Nat := P.countP fun x => (f x).isSome
def putV (f : Lc → Option Value) (t : Lc) (v : Value) (x : Lc) : Option Value := if x = t then some v else f x
theorem putV_same (f : Lc → Option Value) (t : Lc) (v : Value) : putV f t v t = some v := by simp [putV]
theorem putV_other (f : Lc → Option Value) {t x : Lc} (v : Value) (h : x ≠ t) : putV f t v x = f x := by simp [putV, h]
theorem cntV_other {f : Lc → Option Value} {t : Lc} {v : Value} : ∀ {P : List Lc}, t ∉ P → cntV P (putV f t v) = cntV P f
  | [], _ => rfl
  | x :: P, h => by
    have h1 : x ≠ t := fun e => h (by simp [e])
    have h2 : t ∉ P := fun e => h (by simp [e])
    have ih := cntV_other (f := f) (v := v) h2
    unfold cntV at ih ⊢
    rw [List.countP_cons, List.countP_cons, ih, putV_other f v h1]
theorem cntV_put {f : Lc → Option Value} {t : Lc} {v : Value} : ∀ {P : List Lc}, P.Nodup → t ∈ P → cntV P (putV f t v) = if (f t).isSome = true then cntV P f else cntV P f + 1
  | x :: P, hn, h => by
    obtain ⟨n1, n2⟩ := List.nodup_cons.1 hn
    by_cases e : x = t
    · subst e
      have ih := cntV_other (f := f) (v := v) n1
      unfold cntV at ih ⊢
      rw [List.countP_cons, List.countP_cons, ih, putV_same]
      cases hf : (f x).isSome <;> simp
    · have h2 : t ∈ P := by
        rcases List.mem_cons.1 h with h | h
        · exact absurd h.symm e
        · exact h
      have ih := cntV_put (f := f) (v := v) n2 h2
      unfold cntV at ih ⊢
      rw [List.countP_cons, List.countP_cons, ih, putV_other f v e]
      cases hf : (f t).isSome <;> cases hx : (f x).isSome <;> simp <;> omega
/-- Block b is a map whose keys are among P, that holds these values. -/
structure MapD (w : World) (b : Nat) (P : List Lc) (f : Lc → Option Value) (D : DataW Value) : Prop where
  owns : w.ownsMap Tryz.prog 27 PV b (cntV P f) D
  size : Maps.size D = cntV P f
  nodup : P.Nodup
  wf : ∀ x ∈ P, LcWf x
  keys : ∀ x, f x ≠ none → x ∈ P
  at_ : ∀ x, LcWf x → ∀ z, D.atKey (klL x) z = match f x with | some v => .held v | none => z
  has : ∀ x, LcWf x → Maps.has D (klL x) = (f x).isSome
def MapL (w : World) (b : Nat) (P : List Lc) (f : Lc → Option Value) : Prop := ∃ D, MapD w b P f D
theorem ownsL_tight {w : World} {k : TypeId} {R : Value → Option (DataW Value × List MemPlace)} {b n : Nat} {D : DataW Value} (h : w.ownsMap Tryz.prog k R b n D) : w.ownsMap Tryz.prog k R b (Maps.size D) D := by
  obtain ⟨es, clock, hb, F, _, rfl⟩ := h
  refine ⟨es, clock, hb, F, ?_, rfl⟩
  rw [Maps.size_eq, length_sorted]; simp
theorem ownsL_tidy {w : World} {R : Value → Option (DataW Value × List MemPlace)} {b n : Nat} {D : DataW Value} (h : w.ownsMap Tryz.prog 27 R b n D) : Maps.Tidy D := by
  obtain ⟨es, e, hp, _⟩ := h.entries lawK
  exact ⟨es, e, hp⟩
theorem MapD.may {w : World} {b : Nat} {P : List Lc} {f : Lc → Option Value} {D : DataW Value} (h : MapD w b P f D) {x : Lc} (hx : f x ≠ none) : LcWf x := h.wf x (h.keys x hx)
theorem MapL.new (w : World) (P : List Lc) (hn : P.Nodup) (hw : ∀ x ∈ P, LcWf x) : MapL (w.alloc (.map #[] 0)) w.heap.size P fun _ => none := by
  have h0 : cntV P (fun _ => none) = 0 := by simp [cntV]
  exact ⟨.map [], ⟨by rw [h0]; exact World.ownsMap_made w Tryz.prog 27 PV, by rw [h0]; rfl, hn, hw, fun x h => absurd rfl h, fun x _ z => Maps.atKey_of_not_has rfl _, fun x _ => rfl⟩⟩
theorem MapL.lt {w : World} {b : Nat} {P : List Lc} {f : Lc → Option Value} (h : MapL w b P f) : b < w.heap.size := by obtain ⟨D, h⟩ := h; exact h.owns.lt
theorem MapD.keep {w w' : World} {b : Nat} {P : List Lc} {f : Lc → Option Value} {D : DataW Value} (h : MapD w b P f D) (he : w'.heap[b]? = w.heap[b]?) : MapD w' b P f D := by
  obtain ⟨⟨es, clock, hb, r⟩, h1, h2, h3, h4, h5, h6⟩ := h
  exact ⟨⟨es, clock, he.trans hb, r⟩, h1, h2, h3, h4, h5, h6⟩
theorem MapL.keep {w w' : World} {b : Nat} {P : List Lc} {f : Lc → Option Value} (h : MapL w b P f) (he : w'.heap[b]? = w.heap[b]?) : MapL w' b P f := by
  obtain ⟨D, h⟩ := h
  exact ⟨D, h.keep he⟩
theorem MapL.later {w w' : World} {b : Nat} {P : List Lc} {f : Lc → Option Value} (hg : Grow w w') (h : MapL w b P f) : MapL w' b P f := h.keep (hg.block b h.lt)
theorem MapL.isMap {w : World} {b : Nat} {P : List Lc} {f : Lc → Option Value} (h : MapL w b P f) : ∃ es c, w.heap[b]? = some (.map es c) := by
  obtain ⟨D, ⟨es, c, hb, _⟩, _⟩ := h
  exact ⟨es, c, hb⟩
theorem MapL.ext {w : World} {b : Nat} {P : List Lc} {f g : Lc → Option Value} (h : MapL w b P f) (e : ∀ x, f x = g x) : MapL w b P g := by
  have : f = g := funext e
  rwa [← this]
theorem MapL.get {w : World} {b : Nat} {P : List Lc} {f : Lc → Option Value} {t e : TypeId} {z : Value} (h : MapL w b P f) (ht : Tryz.prog.underlying t = some (.map 27 e)) (hz : (zeroValue e).run Tryz.prog w = .ok z w) {x : Lc} (hx : LcWf x) :
    (Instr.lookup t (.map (some b)) (vL x) false).run Tryz.prog w = .ok ((f x).getD z) w := by
  obtain ⟨D, h⟩ := h
  obtain ⟨v, ps, hrun, hv⟩ := h.owns.lookup lawK ht hz (zd := .held z) (zp := []) rfl (keyL hx)
  rw [h.at_ x hx] at hv
  have : v = (f x).getD z := by
    cases hf : f x <;> simp [PV, hf] at hv ⊢ <;> exact hv.1
  rw [← this]; exact hrun
theorem MapL.len {w : World} {b : Nat} {P : List Lc} {f : Lc → Option Value} {t e : TypeId} (h : MapL w b P f) (ht : Tryz.prog.underlying t = some (.map 27 e)) (ty : TypeId) :
    (Builtin.len_ #[t] ty #[.map (some b)]).run Tryz.prog w = .ok (.int .i64 (cntV P f)) w := by
  obtain ⟨D, h⟩ := h
  rw [← h.size]; exact h.owns.len ht ty
theorem cntV_zero {P : List Lc} {f : Lc → Option Value} (hk : ∀ x, f x ≠ none → x ∈ P) : cntV P f = 0 ↔ ∀ x, f x = none := by
  unfold cntV
  rw [List.countP_eq_zero]
  constructor
  · intro h x
    cases hf : f x with
    | none => rfl
    | some v => exact absurd (by rw [hf]; rfl) (h x (hk x (by rw [hf]; simp)))
  · intro h x _
    rw [h x]; simp
theorem MapL.empty {w : World} {b : Nat} {P : List Lc} {f : Lc → Option Value} (h : MapL w b P f) : cntV P f = 0 ↔ ∀ x, f x = none := by
  obtain ⟨D, h⟩ := h
  exact cntV_zero h.keys
theorem MapL.keys {w : World} {b : Nat} {P : List Lc} {f : Lc → Option Value} (h : MapL w b P f) {x : Lc} (hx : f x ≠ none) : x ∈ P := by
  obtain ⟨D, h⟩ := h
  exact h.keys x hx
theorem MapL.set {w : World} {b : Nat} {P : List Lc} {f : Lc → Option Value} {t e : TypeId} (h : MapL w b P f) (ht : Tryz.prog.underlying t = some (.map 27 e)) (hP : P.length < 1000000000) {x : Lc} (hx : x ∈ P) (v : Value) :
    ∃ w', (Instr.mapUpdate t (.map (some b)) (vL x) v).run Tryz.prog w = .ok () w' ∧ MapL w' b P (putV f x v) ∧ w.grownBy w' (some b) := by
  obtain ⟨D, h⟩ := h
  have hw := h.wf x hx
  have hle : cntV P f ≤ P.length := List.countP_le_length
  obtain ⟨w', hrun, ho, hg⟩ := h.owns.update lawK ht (by simp [maxLen]; omega) (keyL hw) (d := .held v) (ps := []) rfl
  have hsz : Maps.size (D.put (klL x) (.held v)) = cntV P (putV f x v) := by
    rw [Maps.size_put (ownsL_tidy h.owns), h.has x hw, h.size, cntV_put h.nodup hx]
  refine ⟨w', hrun, ⟨_, ⟨hsz ▸ ownsL_tight ho, hsz, h.nodup, h.wf, fun y hy => ?_, fun y hy z => ?_, fun y hy => ?_⟩⟩, hg⟩
  · by_cases e : y = x
    · rw [e]; exact hx
    · rw [putV_other f v e] at hy; exact h.keys y hy
  · by_cases e : y = x
    · subst e
      rw [Maps.atKey_put_same (ownsL_tidy h.owns).isMap (klL_key hy), putV_same]
    · rw [Maps.atKey_put_other (fun k => e (klL_inj hy hw k)), h.at_ y hy, putV_other f v e]
  · by_cases e : y = x
    · subst e
      rw [Maps.has_put_same (ownsL_tidy h.owns).isMap (klL_key hy), putV_same]
      rfl
    · rw [Maps.has_put_other (fun k => e (klL_inj hy hw k)), h.has y hy, putV_other f v e]
/-- Block b is a map that has an entry of t, with this stamp. -/
def EntL (w : World) (b : Nat) (t : Lc) (st : Nat) : Prop := ∃ es clock e0, w.heap[b]? = some (.map es clock) ∧ e0 ∈ es.toList ∧ e0.key = vL t ∧ e0.born = st
theorem EntL.keep {w w' : World} {b : Nat} {t : Lc} {st : Nat} (h : EntL w b t st) (he : w'.heap[b]? = w.heap[b]?) : EntL w' b t st := by
  obtain ⟨es, clock, e0, hb, r⟩ := h
  exact ⟨es, clock, e0, he.trans hb, r⟩
theorem EntL.lt {w : World} {b : Nat} {t : Lc} {st : Nat} (h : EntL w b t st) : b < w.heap.size := by
  obtain ⟨es, clock, e0, hb, r⟩ := h
  exact (Array.getElem?_eq_some_iff.1 hb).1
theorem setBlockL_self {w : World} {b : Nat} {o : Obj} (h : w.heap[b]? = some o) : setBlock w b o = w := by
  unfold setBlock
  have : w.heap.setIfInBounds b o = w.heap := by
    apply Array.ext_getElem?
    intro i
    by_cases e : i = b
    · subst e
      have := (Array.getElem?_eq_some_iff.1 h).1
      rw [Array.getElem?_setIfInBounds_self_of_lt this, h]
    · rw [Array.getElem?_setIfInBounds_ne (Ne.symm e)]
  rw [this]
/-- The entry of a key, as 'm[k] = append(m[k], ..)' asks for it: what stands there, or a new one with the zero value. -/
theorem MapL.entry {w : World} {b : Nat} {P : List Lc} {f : Lc → Option Value} {t e : TypeId} {z : Value} (h : MapL w b P f) (ht : Tryz.prog.underlying t = some (.map 27 e)) (hz : ∀ w, (zeroValue e).run Tryz.prog w = .ok z w) (hP : P.length < 1000000000) {x : Lc} (hx : x ∈ P) :
    ∃ (st : Nat) (w' : World), (Instr.mapEntry t (.map (some b)) (vL x)).run Tryz.prog w = .ok (.tuple #[(f x).getD z, goInt st]) w' ∧ MapL w' b P (putV f x ((f x).getD z)) ∧ EntL w' b x st ∧ w.grownBy w' (some b) := by
  obtain ⟨w1, hup, hM, hG⟩ := h.set ht hP hx ((f x).getD z)
  have hget := MapL.get h ht (hz w) (x := x) (by obtain ⟨D, h⟩ := h; exact h.wf x hx)
  obtain ⟨D, h⟩ := h
  have hkey := keyL (h.wf x hx)
  have hfx := h.at_ x (h.wf x hx)
  obtain ⟨es, clock, hb, F, hs, hD⟩ := h.owns
  unfold vL at hkey hup hget ⊢
  rcases lawL.find w hkey es.toList F.keys with ⟨h1, h2⟩ | ⟨j, e0, h1, h2, h4⟩
  · have hf0 : (f x).getD z = z := by
      simp [Instr.lookup, run_underlying ht, MapKept.run_getObj_map hb, lawL.check w _ hkey, h1, hz, Result.andThen] at hget
      exact hget.symm
    rw [hf0] at hup hM ⊢
    simp [Instr.mapUpdate, run_underlying ht, MapKept.run_getObj_map hb, lawL.check w false hkey, h1, MapKept.run_setObj_map _ hb, Result.andThen] at hup
    refine ⟨clock, w1, ?_, hM, ⟨es.push ⟨.agg #[.int .i64 x.n, .int .i64 x.p], z, clock⟩, clock + 1, ⟨.agg #[.int .i64 x.n, .int .i64 x.p], z, clock⟩, ?_, by simp, rfl, rfl⟩, hG⟩
    · rw [← hup]
      simp [Instr.mapEntry, run_underlying ht, MapKept.run_getObj_map hb, lawL.check w false hkey, h1, hz, MapKept.run_setObj_map _ hb, Result.andThen]
    · rw [← hup]
      simp [(Array.getElem?_eq_some_iff.1 hb).1]
  · have hj : es[j]? = some e0 := by simpa using h2
    have hsame : es.modify j (fun e => { e with key := .agg #[.int .i64 x.n, .int .i64 x.p] }) = es := by
      apply Array.ext'
      rw [Array.toList_modify, modify_eq_set _ _ _ _ h2]
      have : ({ e0 with key := .agg #[.int .i64 x.n, .int .i64 x.p] } : MapEntry) = e0 := by rw [← h4]
      rw [this]
      exact set_self _ _ _ h2
    have hsb : ({ w with heap := w.heap.setIfInBounds b (.map es clock) } : World) = w := setBlockL_self hb
    have hv : e0.val = (f x).getD z := by
      simp [Instr.lookup, run_underlying ht, MapKept.run_getObj_map hb, lawL.check w _ hkey, h1, hj, Result.andThen] at hget
      exact hget
    have hfs : ∃ v, f x = some v := by
      cases hfx' : f x with
      | some v => exact ⟨v, rfl⟩
      | none =>
        have hh := h.has x (h.wf x hx)
        rw [hfx', hD] at hh
        exfalso
        have hmem := List.mem_of_getElem? h2
        obtain ⟨y, hy⟩ := F.reads e0 hmem
        have hk0 : (WideElems.rg Tryz.prog 27 PV e0).1 = klL x := by
          have : keyOf Tryz.prog 27 e0.key = some (klL x) := by rw [h4]; exact hkey
          simp [WideElems.rg, WideElems.rd, this, PV]
        have : Maps.has (.map ((es.toList.map (WideElems.rg Tryz.prog 27 PV)).foldr DataW.insert []) : DataW Value) (klL x) = true := by
          rw [Maps.has_eq, List.any_eq_true]
          refine ⟨WideElems.rg Tryz.prog 27 PV e0, ?_, by rw [hk0]; exact WideAt.sameKey_self (klL_key (h.wf x hx))⟩
          exact ((sorted_perm _).mem_iff).2 (List.mem_map.2 ⟨e0, hmem, rfl⟩)
        rw [this] at hh
        cases hh
    obtain ⟨v, hfv⟩ := hfs
    have hsp : ∀ y, putV f x ((f x).getD z) y = f y := fun y => by
      by_cases e : y = x
      · subst e; rw [putV_same, hfv]; rfl
      · rw [putV_other f _ e]
    refine ⟨e0.born, w, ?_, MapL.ext ⟨D, h⟩ fun y => (hsp y).symm, ⟨es, clock, e0, hb, List.mem_of_getElem? h2, h4, rfl⟩, ⟨rfl, rfl, rfl, Nat.le_refl _, fun _ _ _ => rfl⟩⟩
    rw [← hv]
    simp [Instr.mapEntry, run_underlying ht, MapKept.run_getObj_map hb, lawL.check w false hkey, h1, hj, h4, lawL.stays w hkey, hsame, MapKept.run_setObj_map _ hb, Result.andThen, hsb]
theorem nodupL_key_eq {l : List MapEntry} (hn : (l.map (·.key)).Nodup) {a c : MapEntry} (ha : a ∈ l) (hc : c ∈ l) (h : a.key = c.key) : a = c := by
  induction l with
  | nil => simp at ha
  | cons x r ih =>
    simp only [List.map_cons, List.nodup_cons] at hn
    rcases List.mem_cons.1 ha with e1 | e1 <;> rcases List.mem_cons.1 hc with e2 | e2
    · rw [e1, e2]
    · subst e1; exact absurd (List.mem_map.2 ⟨c, e2, h.symm⟩) hn.1
    · subst e2; exact absurd (List.mem_map.2 ⟨a, e1, h⟩) hn.1
    · exact ih hn.2 e1 e2
/-- A store into it. -/
theorem MapL.store {w : World} {b st : Nat} {P : List Lc} {f : Lc → Option Value} {t e : TypeId} (h : MapL w b P f) (ht : Tryz.prog.underlying t = some (.map 27 e)) (hP : P.length < 1000000000) {x : Lc} (hE : EntL w b x st) (hx : x ∈ P) (v : Value) :
    ∃ w', (Instr.entryStore t (.map (some b)) (goInt st) v).run Tryz.prog w = .ok () w' ∧ MapL w' b P (putV f x v) ∧ w.grownBy w' (some b) := by
  obtain ⟨w1, hup, hM, hG⟩ := h.set ht hP hx v
  obtain ⟨D, h⟩ := h
  have hkey := keyL (h.wf x hx)
  obtain ⟨es, clock, hb, F, hs, hD⟩ := h.owns
  obtain ⟨es', clock', e1, hb', hm, hk, rfl⟩ := hE
  rw [hb] at hb'
  obtain ⟨rfl, rfl⟩ : es = es' ∧ clock = clock' := by cases hb'; exact ⟨rfl, rfl⟩
  unfold vL at hkey hup hk
  rcases lawL.find w hkey es.toList F.keys with ⟨h1, h2⟩ | ⟨j, e0, h1, h2, h4⟩
  · exact absurd hk (h2 e1 hm)
  · have hj : es[j]? = some e0 := by simpa using h2
    obtain rfl : e1 = e0 := nodupL_key_eq F.stamped.2.2 hm (List.mem_of_getElem? h2) (hk.trans h4.symm)
    have hidx : es.findIdx? (fun e => ((e.born : Nat) : Int) == ((e1.born : Nat) : Int)) = some j := by
      rw [findIdx_arr]
      exact findIdx_born F.stamped.2.1 h2
    have hmod : es.modify j (fun e => { e with val := v }) = es.modify j (fun e' => { e' with key := .agg #[.int .i64 x.n, .int .i64 x.p], val := v }) := by
      apply Array.ext'
      rw [Array.toList_modify, Array.toList_modify, modify_eq_set _ _ _ _ h2, modify_eq_set _ _ _ _ h2, ← h4]
    refine ⟨w1, ?_, hM, hG⟩
    simp [Instr.mapUpdate, run_underlying ht, MapKept.run_getObj_map hb, lawL.check w false hkey, h1, hj, h4, lawL.stays w hkey, MapKept.run_setObj_map _ hb, Result.andThen] at hup
    rw [← hup]
    simp [Instr.entryStore, MapKept.run_getObj_map hb, asInt, asIntOf, goInt, hidx, hmod, MapKept.run_setObj_map _ hb, Result.andThen]

abbrev RangesL (w : World) (b r n : Nat) (D : DataW Value) (left : Lit → Bool) (cnt : Nat) : Prop := w.ranges Tryz.prog 27 PV b r n D left cnt
section
variable {w : World} {ops : Array Oper} {rest : List Oper} {o : Oper} {a : Act} {Q : Exit → Act → World → Prop}
/-- 'range m'. -/
theorem wpList_range_L (hg : o.guard = none) (m : Operand) (t e : TypeId) (ht : Tryz.prog.underlying t = some (.map 27 e)) (hop : o.op = Op.range t m) (b : Nat) (P : List Lc) (f : Lc → Option Value) (D : DataW Value) (hm : a.eval m = .map (some b)) (h : MapD w b P f D)
    (hK : ∀ w', RangesL w' b w.heap.size (cntV P f) D (Maps.has D) (cntV P f) → Grow w w' → w'.heap.size = w.heap.size + 1 → wpList Tryz.prog ops Q rest (a.put o.dst (.pointer (some ⟨w.heap.size, 0, none⟩))) w') :
    wpList Tryz.prog ops Q (o :: rest) a w :=
  wpList_range_own w hg m t hop 27 e lawK ht PV b (cntV P f) D hm h.owns fun w' h1 h2 h3 => hK w' (h.size ▸ h1) ⟨h2.os, h2.tape, h2.output, h2.size, fun k hk => h2.block k hk (by simp)⟩ h3
/-- The step. -/
theorem wpList_next_L (hg : o.guard = none) (it : Operand) (hop : o.op = Op.next it false) (b r : Nat) (P : List Lc) (f : Lc → Option Value) (D : DataW Value) (w0 : World) (hD : MapD w0 b P f D) (left : Lit → Bool) (cnt : Nat)
    (hit : a.eval it = .pointer (some ⟨r, 0, none⟩)) (h : RangesL w b r (cntV P f) D left cnt)
    (hDone : (∀ kl, left kl = false) → wpList Tryz.prog ops Q rest (a.put o.dst (.tuple #[.bool false])) w)
    (hMore : ∀ (x : Lc) (v : Value) (w' : World) (cnt' : Nat), LcWf x → f x = some v → left (klL x) = true → RangesL w' b r (cntV P f) D (fun z => left z && !z.sameKey (klL x)) cnt' → cnt' < cnt →
      w.grownBy w' (some r) → w'.heap.size = w.heap.size → (Instr.entry (.pointer (some ⟨r, 0, none⟩))).run Tryz.prog w' = .ok (.tuple #[.agg #[.int .i64 x.n, .int .i64 x.p], v]) w' → wpList Tryz.prog ops Q rest (a.put o.dst (.tuple #[.bool true, .agg #[.int .i64 x.n, .int .i64 x.p], v])) w') :
    wpList Tryz.prog ops Q (o :: rest) a w := by
  refine wpList_next_ranges w hg it hop 27 lawK PV vL (fun v : Value => v) (fun key kl hk => ?_) (fun v y hv => ⟨v, rfl⟩) b r (cntV P f) D left cnt hit h (fun _ hl => hDone hl) ?_
  · obtain ⟨t, e, _⟩ := keyOf_invL hk
    exact ⟨t, e⟩
  · intro x c kl y w' cnt' hkey hl hR hat hrg hlt hgr hsz hen
    obtain ⟨t, e, hwf⟩ := keyOf_invL hkey
    have e' := vL_inj e
    subst e'
    have hkl : kl = klL x := by
      have := keyL hwf
      rw [hkey] at this
      exact Option.some.inj this
    subst hkl
    have hy : y = (.held c, []) := by
      have : some (DataW.held c, ([] : List MemPlace)) = some y := hR
      exact (Option.some.inj this).symm
    have h3 := hD.at_ x hwf
    have hf : f x = some c := by
      cases hfx : f x with
      | some v =>
        have h4 := h3 .nil
        rw [hfx, hat, hy] at h4
        simp at h4
        rw [h4]
      | none =>
        have h4 := h3 (.lit (.bool true))
        rw [hfx, hat, hy] at h4
        cases h4
    exact hMore x c w' cnt' hwf hf hl hrg hlt hgr hsz hen
end
theorem rangesL_kept {w w' : World} {b r n : Nat} {D : DataW Value} {left : Lit → Bool} {cnt : Nat} {row : Option Nat} (h : RangesL w b r n D left cnt) (hg : w.grownBy w' row) (h1 : some b ≠ row) (h2 : some r ≠ row) : RangesL w' b r n D left cnt := World.ranges.kept h hg h1 h2
theorem rangesL_later {w w' : World} {b r n : Nat} {D : DataW Value} {left : Lit → Bool} {cnt : Nat} (h : RangesL w b r n D left cnt) (hg : Grow w w') : RangesL w' b r n D left cnt :=
  World.ranges.kept (row := none) h ⟨hg.os, hg.tape, hg.output, hg.size, fun k hk _ => hg.block k hk⟩ (by simp) (by simp)
theorem growL_step {W w w' : World} {r : Nat} (h : Grow W w) (hg : w.grownBy w' (some r)) (hr : W.heap.size ≤ r) : Grow W w' := Below.grown h hg h.size (fun k e => by cases e; exact hr)
/-- A look-up in no map. -/
theorem get_none (w : World) {t e : TypeId} {z : Value} (ht : Tryz.prog.underlying t = some (.map 27 e)) (hz : (zeroValue e).run Tryz.prog w = .ok z w) {x : Lc} (hx : LcWf x) :
    (Instr.lookup t (.map none) (vL x) false).run Tryz.prog w = .ok z w := by
  have hkey := keyL hx
  unfold vL at hkey ⊢
  rcases lawL.find w hkey [] (by simp) with ⟨h1, _⟩ | ⟨j, e0, _, h2, _⟩
  · simp [Instr.lookup, run_underlying ht, lawL.check w _ hkey, h1, hz, Result.andThen]
  · simp at h2

end Go.Proofs.YtehianjfpmbfpaaGreat
