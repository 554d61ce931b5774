/-
  A map with records as keys and numbers as elements: what a block of the world that is one holds, said by a plain function; what a look-up, an entry and a store into it come to.
-/
import Derived.Test.YtkmgbhehhdjmlaaGRow
import Derived.Test.YtkmgbhehhdjmlaaEndG
import Derived.Maps.RangeWalk
import Derived.Maps.OwnOps
import Derived.Maps.Ext
import Derived.DeepKeys4
import Derived.WideKeyEntry
namespace Go.Proofs.Ytkmgbhehhdjmlaa
set_option maxRecDepth 100000
open Go.RowKit Go.Maps Go.Deep Go.ChangeMaps Go.WideElems
set_option linter.unusedVariables false
set_option linter.unusedSimpArgs false

def vR (t : Rc) : Value := .agg #[.int .i64 t.k, .int .i64 t.v]
theorem rowK : (24 : TypeId) < Try.prog.types.size := of_decide_eq_true (by kernel_rfl)
theorem wideK : (match Try.prog.underlying 24 with | some (.array _ _) | some (.struct _) => true | _ => false) = true := by kernel_rfl
theorem lawL : WideMaps.KeyLaw Try.prog 24 := deep_law_laid laidOut (m := 3) (by omega) rowK (by kernel_rfl) wideK
theorem lawK : Keyed Try.prog 24 := Keyed.of_law lawL
theorem keyTypeK : Try.prog.keyType 24 = true := by kernel_rfl
theorem cellsK : Try.prog.cellsOf 24 = 2 := by kernel_rfl
theorem cellsI : Try.prog.cellsOf 3 = 1 := by kernel_rfl
theorem sizeK : ∃ m, Try.prog.types.size + 1 = m + 4 := ⟨Try.prog.types.size - 3, by have : 4 ≤ Try.prog.types.size := of_decide_eq_true (by kernel_rfl); omega⟩
theorem zeroI (w : World) : (zeroValue 3).run Try.prog w = .ok (.int .i64 0) w := by kernel_rfl
theorem keyOf_vR (t : Rc) (h : RcWf t) : ∃ l, keyOf Try.prog 24 (vR t) = some l := by
  obtain ⟨m, hm⟩ := sizeK
  obtain ⟨h1, h2⟩ := h
  have hk := keyTypeK
  have hf : (vR t).formed Try.prog 24 = true := by simp [vR, Value.formed, Try.underlying24, cellsK]
  unfold keyOf
  simp only [Try.underlying24, hk, hf, hm]
  simp [Program.keyLits, Try.underlying24, Try.underlying3, cellsK, cellsI, vR, Value.cells, h1, h2, List.range_succ]
/-- What a record reads as, as a key. -/
noncomputable def klR (t : Rc) : Lit := (keyOf Try.prog 24 (vR t)).getD (.bool false)
theorem keyR {t : Rc} (h : RcWf t) : keyOf Try.prog 24 (vR t) = some (klR t) := by
  obtain ⟨l, hl⟩ := keyOf_vR t h
  simp [klR, hl]
theorem vR_inj {a b : Rc} (h : vR a = vR b) : a = b := by
  simp only [vR, Value.agg.injEq, Array.mk.injEq, List.cons.injEq, Value.int.injEq, true_and, and_true] at h
  exact Rc.ext' h.1 h.2
theorem klR_inj {a b : Rc} (ha : RcWf a) (hb : RcWf b) (h : klR a = klR b) : a = b := by
  have h1 := keyR ha
  rw [h] at h1
  exact vR_inj (lawK.inj h1 (keyR hb))
theorem klR_key {t : Rc} (h : RcWf t) : WideAt.IsKeyLit (klR t) := lawK.key (keyR h)

noncomputable abbrev PE : Value → Option (DataW Unit × List MemPlace) := plainElem Try.prog 3
/-- Block b is a map of at most N entries that holds the numbers f. -/
def MapF (w : World) (b N : Nat) (f : Rc → Int) : Prop :=
  ∃ D, w.ownsMap Try.prog 24 PE b N D ∧ ∀ t, RcWf t → D.atKey (klR t) (.lit (.int .i64 0)) = .lit (.int .i64 (f t))
def putN (f : Rc → Int) (t : Rc) (n : Int) (x : Rc) : Int := if x = t then n else f x
theorem MapF.new (w : World) : MapF (w.alloc (.map #[] 0)) w.heap.size 0 fun _ => 0 :=
  ⟨.map [], World.ownsMap_made w Try.prog 24 PE, fun t _ => Maps.atKey_of_not_has rfl _⟩
theorem MapF.lt {w : World} {b N : Nat} {f : Rc → Int} (h : MapF w b N f) : b < w.heap.size := by obtain ⟨D, h, _⟩ := h; exact h.lt
theorem MapF.keep {w w' : World} {b N : Nat} {f : Rc → Int} (h : MapF w b N f) (he : w'.heap[b]? = w.heap[b]?) : MapF w' b N f := by
  obtain ⟨D, ⟨es, clock, hb, r⟩, h2⟩ := h
  exact ⟨D, ⟨es, clock, he.trans hb, r⟩, h2⟩
theorem MapF.later {w w' : World} {b N : Nat} {f : Rc → Int} (hg : Grow w w') (h : MapF w b N f) : MapF w' b N f := h.keep (hg.block b h.lt)
theorem MapF.mono {w : World} {b N N' : Nat} {f : Rc → Int} (h : MapF w b N f) (hn : N ≤ N') : MapF w b N' f := by
  obtain ⟨D, h1, h2⟩ := h
  exact ⟨D, h1.mono hn, h2⟩
theorem MapF.ext {w : World} {b N : Nat} {f g : Rc → Int} (h : MapF w b N f) (e : ∀ t, f t = g t) : MapF w b N g := by
  have : f = g := funext e
  rwa [← this]
theorem MapF.get {w : World} {b N : Nat} {f : Rc → Int} {t : Rc} (h : MapF w b N f) (ht : RcWf t) : (Instr.lookup 44 (.map (some b)) (.agg #[.int .i64 t.k, .int .i64 t.v]) false).run Try.prog w = .ok (.int .i64 (f t)) w := by
  obtain ⟨D, h1, h3⟩ := h
  obtain ⟨c, hrun, hat, _⟩ := h1.lookup_int lawK Try.underlying44 Try.underlying3 (zeroI w) (keyR ht)
  rw [h3 t ht] at hat
  have : f t = c := by injection hat with e; injection e
  rw [this]; exact hrun
theorem owns_tidy {w : World} {R : Value → Option (DataW Unit × List MemPlace)} {b n : Nat} {D : DataW Unit} (h : w.ownsMap Try.prog 24 R b n D) : Maps.Tidy D := by
  obtain ⟨es, e, hp, _⟩ := h.entries lawK
  exact ⟨es, e, hp⟩
theorem MapF.set {w : World} {b N : Nat} {f : Rc → Int} {t : Rc} {n : Int} (h : MapF w b N f) (hN : N < 1000000000) (ht : RcWf t) (hn : (Lit.int .i64 n).wf = true) :
    ∃ w', (Instr.mapUpdate 44 (.map (some b)) (.agg #[.int .i64 t.k, .int .i64 t.v]) (.int .i64 n)).run Try.prog w = .ok () w' ∧ MapF w' b (N + 1) (putN f t n) ∧ w.grownBy w' (some b) := by
  obtain ⟨D, h1, h3⟩ := h
  obtain ⟨w', hrun, ho, hg⟩ := h1.update lawK Try.underlying44 (by simp [maxLen]; omega) (keyR ht) (plainElem_int Try.underlying3 hn)
  refine ⟨w', hrun, ⟨_, ho, fun x hx => ?_⟩, hg⟩
  unfold putN
  by_cases e : x = t
  · subst e
    rw [Maps.atKey_put_same (owns_tidy h1).isMap (klR_key ht), if_pos rfl]
  · rw [Maps.atKey_put_other (fun k => e (klR_inj hx ht k)), h3 x hx, if_neg e]
/-- Block b is a map that has an entry of t, with this stamp. -/
def Ent (w : World) (b : Nat) (t : Rc) (st : Nat) : Prop := ∃ es clock e0, w.heap[b]? = some (.map es clock) ∧ e0 ∈ es.toList ∧ e0.key = vR t ∧ e0.born = st
theorem Ent.later {w w' : World} {b : Nat} {t : Rc} {st : Nat} (hg : Grow w w') (h : Ent w b t st) : Ent w' b t st := by
  obtain ⟨es, clock, e0, hb, r⟩ := h
  exact ⟨es, clock, e0, (hg.block b (Array.getElem?_eq_some_iff.1 hb).1).trans hb, r⟩
theorem setBlock_self {w : World} {b : Nat} {o : Obj} (h : w.heap[b]? = some o) : setBlock w b o = w := by
  unfold setBlock
  have : w.heap.setIfInBounds b o = w.heap := by
    apply Array.ext_getElem?
    intro i
    by_cases e : i = b
    · subst e
      have := (Array.getElem?_eq_some_iff.1 h).1
      rw [Array.getElem?_setIfInBounds_self_of_lt this, h]
    · rw [Array.getElem?_setIfInBounds_ne (Ne.symm e)]
  rw [this]
theorem MapF.entry {w : World} {b N : Nat} {f : Rc → Int} {t : Rc} (h : MapF w b N f) (hN : N < 1000000000) (ht : RcWf t) :
    ∃ (v0 : Value) (st : Nat) (w' : World), (Instr.mapEntry 44 (.map (some b)) (.agg #[.int .i64 t.k, .int .i64 t.v])).run Try.prog w = .ok (.tuple #[v0, goInt st]) w' ∧ MapF w' b (N + 1) f ∧ Ent w' b t st ∧ w.grownBy w' (some b) := by
  have hget := h.get ht
  obtain ⟨w1, hup, hM, hG⟩ := h.set (n := 0) hN ht (by decide)
  obtain ⟨D, ⟨es, clock, hb, F, hs, hD⟩, h3⟩ := h
  have ht' := Try.underlying44
  have hz := zeroI
  have hkey := keyR ht
  unfold vR at hkey
  rcases lawL.find w hkey es.toList F.keys with ⟨h1, h2⟩ | ⟨j, e0, h1, h2, h4⟩
  · have hf0 : f t = 0 := by
      simp [Instr.lookup, run_underlying ht', MapKept.run_getObj_map hb, lawL.check w _ hkey, h1, hz, Result.andThen] at hget
      exact hget.symm
    simp [Instr.mapUpdate, run_underlying ht', MapKept.run_getObj_map hb, lawL.check w false hkey, h1, MapKept.run_setObj_map _ hb, Result.andThen] at hup
    refine ⟨.int .i64 0, clock, w1, ?_, hM.ext fun x => by unfold putN; split <;> simp_all, ⟨es.push ⟨.agg #[.int .i64 t.k, .int .i64 t.v], .int .i64 0, clock⟩, clock + 1, ⟨.agg #[.int .i64 t.k, .int .i64 t.v], .int .i64 0, clock⟩, ?_, by simp, rfl, rfl⟩, hG⟩
    · rw [← hup]
      simp [Instr.mapEntry, run_underlying ht', MapKept.run_getObj_map hb, lawL.check w false hkey, h1, hz, MapKept.run_setObj_map _ hb, Result.andThen]
    · rw [← hup]
      simp [(Array.getElem?_eq_some_iff.1 hb).1]
  · have hj : es[j]? = some e0 := by simpa using h2
    have hsame : es.modify j (fun e => { e with key := .agg #[.int .i64 t.k, .int .i64 t.v] }) = es := by
      apply Array.ext'
      rw [Array.toList_modify, modify_eq_set _ _ _ _ h2]
      have : ({ e0 with key := .agg #[.int .i64 t.k, .int .i64 t.v] } : MapEntry) = e0 := by rw [← h4]
      rw [this]
      exact set_self _ _ _ h2
    have hsb : ({ w with heap := w.heap.setIfInBounds b (.map es clock) } : World) = w := setBlock_self hb
    refine ⟨e0.val, e0.born, w, ?_, MapF.mono ⟨D, ⟨es, clock, hb, F, hs, hD⟩, h3⟩ (Nat.le_succ _), ⟨es, clock, e0, hb, List.mem_of_getElem? h2, h4, rfl⟩, ⟨rfl, rfl, rfl, Nat.le_refl _, fun _ _ _ => rfl⟩⟩
    simp [Instr.mapEntry, run_underlying ht', MapKept.run_getObj_map hb, lawL.check w false hkey, h1, hj, h4, lawL.stays w hkey, hsame, MapKept.run_setObj_map _ hb, Result.andThen, hsb]
theorem nodup_key_eq {l : List MapEntry} (hn : (l.map (·.key)).Nodup) {a c : MapEntry} (ha : a ∈ l) (hc : c ∈ l) (h : a.key = c.key) : a = c := by
  induction l with
  | nil => simp at ha
  | cons x r ih =>
    simp only [List.map_cons, List.nodup_cons] at hn
    rcases List.mem_cons.1 ha with e1 | e1 <;> rcases List.mem_cons.1 hc with e2 | e2
    · rw [e1, e2]
    · subst e1; exact absurd (List.mem_map.2 ⟨c, e2, h.symm⟩) hn.1
    · subst e2; exact absurd (List.mem_map.2 ⟨a, e1, h⟩) hn.1
    · exact ih hn.2 e1 e2
theorem MapF.store {w : World} {b N st : Nat} {f : Rc → Int} {t : Rc} {n : Int} (h : MapF w b N f) (hE : Ent w b t st) (hN : N < 1000000000) (ht : RcWf t) (hn : (Lit.int .i64 n).wf = true) :
    ∃ w', (Instr.entryStore 44 (.map (some b)) (goInt st) (.int .i64 n)).run Try.prog w = .ok () w' ∧ MapF w' b (N + 1) (putN f t n) ∧ w.grownBy w' (some b) := by
  obtain ⟨w1, hup, hM, hG⟩ := h.set (n := n) hN ht hn
  obtain ⟨D, ⟨es, clock, hb, F, hs, hD⟩, h3⟩ := h
  obtain ⟨es', clock', e1, hb', hm, hk, rfl⟩ := hE
  rw [hb] at hb'
  obtain ⟨rfl, rfl⟩ : es = es' ∧ clock = clock' := by cases hb'; exact ⟨rfl, rfl⟩
  have ht' := Try.underlying44
  have hkey := keyR ht
  unfold vR at hkey hk
  rcases lawL.find w hkey es.toList F.keys with ⟨h1, h2⟩ | ⟨j, e0, h1, h2, h4⟩
  · exact absurd hk (h2 e1 hm)
  · have hj : es[j]? = some e0 := by simpa using h2
    obtain rfl : e1 = e0 := nodup_key_eq F.stamped.2.2 hm (List.mem_of_getElem? h2) (hk.trans h4.symm)
    have hidx : es.findIdx? (fun e => ((e.born : Nat) : Int) == ((e1.born : Nat) : Int)) = some j := by
      rw [findIdx_arr]
      exact findIdx_born F.stamped.2.1 h2
    have hmod : es.modify j (fun e => { e with val := Value.int .i64 n }) = es.modify j (fun e' => { e' with key := .agg #[.int .i64 t.k, .int .i64 t.v], val := Value.int .i64 n }) := by
      apply Array.ext'
      rw [Array.toList_modify, Array.toList_modify, modify_eq_set _ _ _ _ h2, modify_eq_set _ _ _ _ h2, ← h4]
    refine ⟨w1, ?_, hM, hG⟩
    simp [Instr.mapUpdate, run_underlying ht', MapKept.run_getObj_map hb, lawL.check w false hkey, h1, hj, h4, lawL.stays w hkey, MapKept.run_setObj_map _ hb, Result.andThen] at hup
    rw [← hup]
    simp [Instr.entryStore, MapKept.run_getObj_map hb, asInt, asIntOf, goInt, hidx, hmod, MapKept.run_setObj_map _ hb, Result.andThen]

end Go.Proofs.Ytkmgbhehhdjmlaa
