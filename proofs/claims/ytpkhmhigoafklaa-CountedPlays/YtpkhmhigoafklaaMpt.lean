/-
  A map with times as keys and numbers as elements: what a block of the world that is one holds, said by numbers of times; what a look-up, a store, a deletion and its length come to.
-/
import Derived.Test.YtpkhmhigoafklaaCnt
import Derived.Test.YtpkhmhigoafklaaRowV
import Derived.Maps.RangeWalk
import Derived.Maps.OwnOps
import Derived.Maps.Ext
import Derived.DeepKeys4
namespace Go.Proofs.Ytpkhmhigoafklaa
set_option maxRecDepth 100000
open Go.RowKit Go.Maps Go.Deep
set_option linter.unusedVariables false

def vT (t : Tm) : Value := .agg #[.int .i64 t.e, .int .i64 t.d, .int .i64 t.x, .int .i64 t.y, .int .i64 t.z]
def wfT (t : Tm) : Prop := (Lit.int .i64 t.e).wf = true ∧ (Lit.int .i64 t.d).wf = true ∧ (Lit.int .i64 t.x).wf = true ∧ (Lit.int .i64 t.y).wf = true ∧ (Lit.int .i64 t.z).wf = true
theorem wf_i {n : Int} (h1 : -9223372036854775808 ≤ n) (h2 : n ≤ 9223372036854775807) : (Lit.int .i64 n).wf = true := WalkArith.wf_i64 ⟨h1, h2⟩
theorem wf_fits {n : Int} (h : fitsB n = true) : (Lit.int .i64 n).wf = true := by
  rw [fitsB_iff] at h
  exact wf_i (by omega) (by omega)
theorem wfT_may {t : Tm} (h : mayB t = true) : wfT t := by
  simp only [mayB, depthB, Bool.and_eq_true, decide_eq_true_eq] at h
  obtain ⟨⟨⟨⟨⟨⟨⟨⟨h1, h2⟩, h3, h4⟩, h5⟩, h6⟩, h7⟩, h8⟩, h9⟩, h10⟩ := h
  refine ⟨wf_i (by omega) (by omega), wf_i (by omega) (by omega), wf_i (by omega) ?_, wf_i (by omega) ?_, wf_i (by omega) ?_⟩
  · split at h8 <;> omega
  · split at h9 <;> omega
  · split at h10 <;> omega

theorem rowK : (25 : TypeId) < Try.prog.types.size := of_decide_eq_true (by kernel_rfl)
theorem wideK : (match Try.prog.underlying 25 with | some (.array _ _) | some (.struct _) => true | _ => false) = true := by kernel_rfl
theorem lawK : Keyed Try.prog 25 := Keyed.of_law (deep_law_laid laidOut (m := 3) (by omega) rowK (by kernel_rfl) wideK)
theorem keyTypeK : Try.prog.keyType 25 = true := by kernel_rfl
theorem cellsK : Try.prog.cellsOf 25 = 5 := by kernel_rfl
theorem cellsA : Try.prog.cellsOf 23 = 3 := by kernel_rfl
theorem cellsI : Try.prog.cellsOf 3 = 1 := by kernel_rfl
theorem sizeK : ∃ m, Try.prog.types.size + 1 = m + 4 := ⟨Try.prog.types.size - 3, by have : 4 ≤ Try.prog.types.size := of_decide_eq_true (by kernel_rfl); omega⟩
theorem zeroI (w : World) : (zeroValue 3).run Try.prog w = .ok (.int .i64 0) w := by kernel_rfl

theorem keyOf_vT (t : Tm) (h : wfT t) : ∃ l, keyOf Try.prog 25 (vT t) = some l := by
  obtain ⟨m, hm⟩ := sizeK
  obtain ⟨h1, h2, h3, h4, h5⟩ := h
  have hk := keyTypeK
  have hf : (vT t).formed Try.prog 25 = true := by simp [vT, Value.formed, Try.underlying25, cellsK]
  unfold keyOf
  simp only [Try.underlying25, hk, hf, hm]
  simp [Program.keyLits, Try.underlying25, Try.underlying23, Try.underlying3, cellsK, cellsA, cellsI, vT, Value.cells, h1, h2, h3, h4, h5, List.range_succ]

theorem kl_int {m : Nat} {c : Value} {ls : List Lit} (h : Try.prog.keyLits (m + 1) 3 [c] = some ls) : ∃ n, c = .int .i64 n ∧ (Lit.int .i64 n).wf = true := by
  unfold Program.keyLits at h
  simp only [Try.underlying3] at h
  cases c <;> simp at h
  obtain ⟨⟨rfl, hw⟩, _⟩ := h
  exact ⟨_, rfl, hw⟩
theorem kl_arr {m : Nat} {c0 c1 c2 : Value} {ls : List Lit} (h : Try.prog.keyLits (m + 2) 23 [c0, c1, c2] = some ls) : (∃ n, c0 = .int .i64 n ∧ (Lit.int .i64 n).wf = true) ∧ (∃ n, c1 = .int .i64 n ∧ (Lit.int .i64 n).wf = true) ∧ ∃ n, c2 = .int .i64 n ∧ (Lit.int .i64 n).wf = true := by
  unfold Program.keyLits at h
  simp only [Try.underlying23] at h
  simp [cellsA, cellsI, List.range_succ, Option.bind_eq_some_iff] at h
  obtain ⟨_, h0, _, ⟨_, h1, _, ⟨_, h2, _⟩, _⟩, _⟩ := h
  exact ⟨kl_int h0, kl_int h1, kl_int h2⟩
theorem keyOf_inv {key : Value} {l : Lit} (h : keyOf Try.prog 25 key = some l) : ∃ t, key = vT t ∧ wfT t := by
  obtain ⟨m, hm⟩ := sizeK
  unfold keyOf at h
  simp only [Try.underlying25, hm] at h
  split at h
  · rename_i hc
    simp only [Bool.and_eq_true] at hc
    obtain ⟨_, hf⟩ := hc
    simp only [Value.formed, Try.underlying25, cellsK] at hf
    cases key <;> simp at hf
    rename_i xs
    obtain ⟨c0, c1, c2, c3, c4, rfl⟩ : ∃ c0 c1 c2 c3 c4, xs = #[c0, c1, c2, c3, c4] := by
      obtain ⟨ys⟩ := xs
      match ys, hf with
      | [c0, c1, c2, c3, c4], _ => exact ⟨c0, c1, c2, c3, c4, rfl⟩
    unfold Program.keyLits at h
    simp only [Try.underlying25] at h
    simp [cellsK, cellsA, cellsI, Value.cells, Option.bind_eq_some_iff] at h
    obtain ⟨_, h0, _, ⟨_, h1, _, ⟨_, h2, _⟩, _⟩, _⟩ := h
    obtain ⟨e, rfl, w0⟩ := kl_int h0
    obtain ⟨d, rfl, w1⟩ := kl_int h1
    obtain ⟨⟨x, rfl, w2⟩, ⟨y, rfl, w3⟩, z, rfl, w4⟩ := kl_arr h2
    exact ⟨⟨e, d, x, y, z⟩, rfl, w0, w1, w2, w3, w4⟩
  · cases h

/-- What a time reads as, as a key. -/
noncomputable def klT (t : Tm) : Lit := (keyOf Try.prog 25 (vT t)).getD (.bool false)
theorem keyT {t : Tm} (h : wfT t) : keyOf Try.prog 25 (vT t) = some (klT t) := by
  obtain ⟨l, hl⟩ := keyOf_vT t h
  simp [klT, hl]
theorem vT_inj {a b : Tm} (h : vT a = vT b) : a = b := by
  simp only [vT, Value.agg.injEq, Array.mk.injEq, List.cons.injEq, Value.int.injEq, true_and, and_true] at h
  obtain ⟨h1, h2, h3, h4, h5⟩ := h
  cases a; cases b; simp_all
theorem klT_inj {a b : Tm} (ha : wfT a) (hb : wfT b) (h : klT a = klT b) : a = b := by
  have h1 := keyT ha
  rw [h] at h1
  exact vT_inj (lawK.inj h1 (keyT hb))
theorem klT_key {t : Tm} (h : wfT t) : WideAt.IsKeyLit (klT t) := lawK.key (keyT h)

noncomputable abbrev PE : Value → Option (DataW Unit × List MemPlace) := plainElem Try.prog 3
/-- Block b is a map that holds the numbers s. -/
def MapD (w : World) (b : Nat) (s : Cs) (D : DataW Unit) : Prop :=
  w.ownsMap Try.prog 25 PE b s.T.length D ∧ Maps.size D = s.T.length ∧
    (∀ t, wfT t → D.atKey (klT t) (.lit (.int .i64 0)) = .lit (.int .i64 (s.f t))) ∧ ∀ t, wfT t → Maps.has D (klT t) = decide (s.f t ≠ 0)
def MapR (w : World) (b : Nat) (s : Cs) : Prop := ∃ D, MapD w b s D

theorem owns_tight {w : World} {k : TypeId} {R : Value → Option (DataW Unit × List MemPlace)} {b n : Nat} {D : DataW Unit} (h : w.ownsMap Try.prog k R b n D) : w.ownsMap Try.prog k R b (Maps.size D) D := by
  obtain ⟨es, clock, hb, F, _, rfl⟩ := h
  refine ⟨es, clock, hb, F, ?_, rfl⟩
  rw [Maps.size_eq, length_sorted]; simp
theorem owns_tidy {w : World} {R : Value → Option (DataW Unit × List MemPlace)} {b n : Nat} {D : DataW Unit} (h : w.ownsMap Try.prog 25 R b n D) : Maps.Tidy D := by
  obtain ⟨es, e, hp, _⟩ := h.entries lawK
  exact ⟨es, e, hp⟩

theorem MapR.new (w : World) : MapR (w.alloc (.map #[] 0)) w.heap.size Cs.none :=
  ⟨.map [], World.ownsMap_made w Try.prog 25 PE, rfl, fun t _ => Maps.atKey_of_not_has rfl _, fun t _ => by simp [Maps.has, Cs.none]⟩
theorem MapR.lt {w : World} {b : Nat} {s : Cs} (h : MapR w b s) : b < w.heap.size := by obtain ⟨D, h, _⟩ := h; exact h.lt
theorem MapD.keep {w w' : World} {b : Nat} {s : Cs} {D : DataW Unit} (h : MapD w b s D) (he : w'.heap[b]? = w.heap[b]?) : MapD w' b s D := by
  obtain ⟨⟨es, clock, hb, r⟩, h2⟩ := h
  exact ⟨⟨es, clock, he.trans hb, r⟩, h2⟩
theorem MapR.keep {w w' : World} {b : Nat} {s : Cs} (h : MapR w b s) (he : w'.heap[b]? = w.heap[b]?) : MapR w' b s := by
  obtain ⟨D, h⟩ := h
  exact ⟨D, h.keep he⟩
theorem MapR.later {w w' : World} {b : Nat} {s : Cs} (hg : Grow w w') (h : MapR w b s) : MapR w' b s := h.keep (hg.block b h.lt)

theorem MapR.get {w : World} {b : Nat} {s : Cs} {t : Tm} (h : MapR w b s) (ht : wfT t) : (Instr.lookup 49 (.map (some b)) (.agg #[.int .i64 t.e, .int .i64 t.d, .int .i64 t.x, .int .i64 t.y, .int .i64 t.z]) false).run Try.prog w = .ok (.int .i64 (s.f t)) w := by
  obtain ⟨D, h1, _, h3, _⟩ := h
  obtain ⟨c, hrun, hat, _⟩ := h1.lookup_int lawK Try.underlying49 Try.underlying3 (zeroI w) (keyT ht)
  rw [h3 t ht] at hat
  have : s.f t = c := by injection hat with e; injection e
  rw [this]; exact hrun
theorem MapR.len {w : World} {b : Nat} {s : Cs} (h : MapR w b s) (ty : TypeId) : (Builtin.len_ #[49] ty #[.map (some b)]).run Try.prog w = .ok (.int .i64 s.T.length) w := by
  obtain ⟨D, h1, h2, _⟩ := h
  rw [← h2]; exact h1.len Try.underlying49 ty
theorem next_other {s : Cs} {t x : Tm} {n : Int} (h : x ≠ t) : (s.next t n).f x = s.f x := putF_other _ _ h
theorem next_same (s : Cs) (t : Tm) (n : Int) : (s.next t n).f t = n := putF_same _ _ _
theorem MapR.set {w : World} {b : Nat} {s : Cs} {t : Tm} {n : Int} (h : MapR w b s) (hs : s.ok) (ht : wfT t) (hn : fitsB n = true) (h0 : n ≠ 0) :
    ∃ w', (Instr.mapUpdate 49 (.map (some b)) (.agg #[.int .i64 t.e, .int .i64 t.d, .int .i64 t.x, .int .i64 t.y, .int .i64 t.z]) (.int .i64 n)).run Try.prog w = .ok () w' ∧ MapR w' b (s.next t n) ∧ w.grownBy w' (some b) := by
  obtain ⟨D, h1, h2, h3, h4⟩ := h
  have few := hs.few
  obtain ⟨w', hrun, ho, hg⟩ := h1.update lawK Try.underlying49 (by simp [maxLen]; omega) (keyT ht) (plainElem_int Try.underlying3 (wf_fits hn))
  have hsz : Maps.size (D.put (klT t) (.lit (.int .i64 n))) = (s.next t n).T.length := by
    show _ = (nextT s.T t n).length
    rw [Maps.size_put (owns_tidy h1), h4 t ht, h2, Cs.next_len hs]
    by_cases e : s.f t = 0 <;> simp [e, h0]
  refine ⟨w', hrun, ⟨_, hsz ▸ owns_tight ho, hsz, fun x hx => ?_, fun x hx => ?_⟩, hg⟩
  · by_cases e : x = t
    · subst e
      rw [Maps.atKey_put_same (owns_tidy h1).isMap (klT_key ht), next_same]
    · rw [Maps.atKey_put_other (fun k => e (klT_inj hx ht k)), h3 x hx, next_other e]
  · by_cases e : x = t
    · subst e
      rw [Maps.has_put_same (owns_tidy h1).isMap (klT_key ht), next_same]
      simp [h0]
    · rw [Maps.has_put_other (fun k => e (klT_inj hx ht k)), h4 x hx, next_other e]
theorem MapR.del {w : World} {b : Nat} {s : Cs} {t : Tm} (h : MapR w b s) (hs : s.ok) (ht : wfT t) (ty : TypeId) :
    ∃ w', (Builtin.delete_ #[49, 25] ty #[.map (some b), .agg #[.int .i64 t.e, .int .i64 t.d, .int .i64 t.x, .int .i64 t.y, .int .i64 t.z]]).run Try.prog w = .ok (.tuple #[]) w' ∧ MapR w' b (s.next t 0) ∧ w.grownBy w' (some b) := by
  obtain ⟨D, h1, h2, h3, h4⟩ := h
  obtain ⟨w', hrun, ho, hg⟩ := h1.drop lawK Try.underlying49 (keyT ht) ty
  have hsz : Maps.size (D.del (klT t)) = (s.next t 0).T.length := by
    show _ = (nextT s.T t 0).length
    have := Maps.size_del (k := klT t) (owns_tidy h1)
    rw [h4 t ht, h2] at this
    rw [Cs.next_len hs]
    by_cases e : s.f t = 0 <;> simp [e] at this ⊢ <;> omega
  refine ⟨w', hrun, ⟨_, hsz ▸ owns_tight ho, hsz, fun x hx => ?_, fun x hx => ?_⟩, hg.grown⟩
  · by_cases e : x = t
    · subst e
      rw [Maps.atKey_del_same, next_same]
    · rw [Maps.atKey_del_other (fun k => e (klT_inj hx ht k)), h3 x hx, next_other e]
  · by_cases e : x = t
    · subst e
      rw [Maps.has_del_same, next_same]
      simp
    · rw [Maps.has_del_other (fun k => e (klT_inj hx ht k)), h4 x hx, next_other e]

end Go.Proofs.Ytpkhmhigoafklaa
