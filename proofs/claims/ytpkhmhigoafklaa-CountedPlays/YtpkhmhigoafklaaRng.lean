/-
  Ranging over a map with times as keys: what has been collected, whatever the order in which the entries come.
-/
import Derived.Test.YtpkhmhigoafklaaMpt
namespace Go.Proofs.Ytpkhmhigoafklaa
set_option maxRecDepth 100000
open Go.RowKit Go.Maps Go.Deep
set_option linter.unusedVariables false

/-- acc are those of which p holds that have come. -/
structure Coll (p : Tm → Prop) (left : Lit → Bool) (acc : List Tm) : Prop where
  wf : ∀ x ∈ acc, wfT x
  nodup : acc.Nodup
  mem : ∀ x, wfT x → (x ∈ acc ↔ left (klT x) = false ∧ p x)
theorem strike_other {left : Lit → Bool} {x y : Tm} (hx : wfT x) (hy : wfT y) (h : y ≠ x) : (left (klT y) && !(klT y).sameKey (klT x)) = left (klT y) := by
  rw [Maps.sameKey_ne (fun e => h (klT_inj hy hx e))]; simp
theorem strike_same {left : Lit → Bool} {x : Tm} (hx : wfT x) : (left (klT x) && !(klT x).sameKey (klT x)) = false := by
  rw [WideAt.sameKey_self (klT_key hx)]; simp
theorem Coll.take {p : Tm → Prop} {left : Lit → Bool} {acc : List Tm} {x : Tm} (h : Coll p left acc) (hx : wfT x) (hl : left (klT x) = true) (hp : p x) : Coll p (fun z => left z && !z.sameKey (klT x)) (acc ++ [x]) where
  wf y hy := by
    rcases List.mem_append.1 hy with k | k
    · exact h.wf y k
    · rw [List.mem_singleton.1 k]; exact hx
  nodup := by
    refine List.nodup_append.2 ⟨h.nodup, by simp, fun a ha b hb => ?_⟩
    rw [List.mem_singleton.1 hb]
    intro e
    subst e
    have := ((h.mem a hx).1 ha).1
    rw [hl] at this; cases this
  mem y hy := by
    show _ ↔ (left (klT y) && !(klT y).sameKey (klT x)) = false ∧ _
    by_cases e : y = x
    · subst e
      rw [strike_same hx]
      simp [hp]
    · rw [strike_other hx hy e, List.mem_append, h.mem y hy]
      simp [e]
theorem Coll.skip {p : Tm → Prop} {left : Lit → Bool} {acc : List Tm} {x : Tm} (h : Coll p left acc) (hx : wfT x) (hl : left (klT x) = true) (hp : ¬ p x) : Coll p (fun z => left z && !z.sameKey (klT x)) acc where
  wf := h.wf
  nodup := h.nodup
  mem y hy := by
    show _ ↔ (left (klT y) && !(klT y).sameKey (klT x)) = false ∧ _
    by_cases e : y = x
    · subst e
      rw [strike_same hx, h.mem y hy, hl]
      simp [hp]
    · rw [strike_other hx hy e, h.mem y hy]
theorem Coll.fin {p : Tm → Prop} {left : Lit → Bool} {acc : List Tm} (h : Coll p left acc) (hl : ∀ z, left z = false) (hp : ∀ x, p x → wfT x) (x : Tm) : x ∈ acc ↔ p x := by
  constructor
  · intro k; exact ((h.mem x (h.wf x k)).1 k).2
  · intro k; exact (h.mem x (hp x k)).2 ⟨hl _, k⟩
theorem Coll.start {w : World} {b : Nat} {s : Cs} {D : DataW Unit} (h : MapD w b s D) (p : Tm → Prop) (hp : ∀ x, p x → s.f x ≠ 0) : Coll p (Maps.has D) [] where
  wf x hx := by cases hx
  nodup := List.nodup_nil
  mem x hx := by
    rw [h.2.2.2 x hx]
    simp only [List.not_mem_nil, false_iff, decide_eq_false_iff_not, not_and]
    intro k q
    exact k (hp x q)
theorem wf_of_num {s : Cs} (hs : s.ok) {x : Tm} (h : s.f x ≠ 0) : wfT x := wfT_may (hs.may x ((hs.mem x).2 h))

abbrev RangesT (w : World) (b r n : Nat) (D : DataW Unit) (left : Lit → Bool) (cnt : Nat) : Prop := w.ranges Try.prog 25 PE b r n D left cnt

section
variable {w : World} {ops : Array Oper} {rest : List Oper} {o : Oper} {a : Act} {Q : Exit → Act → World → Prop}
/-- 'range m'. -/
theorem wpList_range_T (hg : o.guard = none) (m : Operand) (hop : o.op = Op.range 49 m) (b : Nat) (s : Cs) (D : DataW Unit) (hm : a.eval m = .map (some b)) (h : MapD w b s D)
    (hK : ∀ w', RangesT w' b w.heap.size s.T.length D (Maps.has D) s.T.length → Grow w w' → w'.heap.size = w.heap.size + 1 → wpList Try.prog ops Q rest (a.put o.dst (.pointer (some ⟨w.heap.size, 0, none⟩))) w') :
    wpList Try.prog ops Q (o :: rest) a w :=
  wpList_range_own w hg m 49 hop 25 3 lawK Try.underlying49 PE b s.T.length D hm h.1 fun w' h1 h2 h3 => hK w' (h.2.1 ▸ h1) ⟨h2.os, h2.tape, h2.output, h2.size, fun k hk => h2.block k hk (by simp)⟩ h3
/-- The step. -/
theorem wpList_next_T (hg : o.guard = none) (it : Operand) (hop : o.op = Op.next it false) (b r : Nat) (s : Cs) (D : DataW Unit) (w0 : World) (hD : MapD w0 b s D) (left : Lit → Bool) (cnt : Nat)
    (hit : a.eval it = .pointer (some ⟨r, 0, none⟩)) (h : RangesT w b r s.T.length D left cnt)
    (hDone : (∀ kl, left kl = false) → wpList Try.prog ops Q rest (a.put o.dst (.tuple #[.bool false])) w)
    (hMore : ∀ (x : Tm) (w' : World) (cnt' : Nat), wfT x → left (klT x) = true → RangesT w' b r s.T.length D (fun z => left z && !z.sameKey (klT x)) cnt' → cnt' < cnt →
      w.grownBy w' (some r) → w'.heap.size = w.heap.size → (Instr.entry (.pointer (some ⟨r, 0, none⟩))).run Try.prog w' = .ok (.tuple #[.agg #[.int .i64 x.e, .int .i64 x.d, .int .i64 x.x, .int .i64 x.y, .int .i64 x.z], .int .i64 (s.f x)]) w' → wpList Try.prog ops Q rest (a.put o.dst (.tuple #[.bool true, .agg #[.int .i64 x.e, .int .i64 x.d, .int .i64 x.x, .int .i64 x.y, .int .i64 x.z], .int .i64 (s.f x)])) w') :
    wpList Try.prog ops Q (o :: rest) a w := by
  refine wpList_next_ranges w hg it hop 25 lawK PE vT (Value.int .i64) (fun key kl hk => ?_) (fun v y hv => ?_) b r s.T.length D left cnt hit h (fun _ hl => hDone hl) ?_
  · obtain ⟨t, e, _⟩ := keyOf_inv hk
    exact ⟨t, e⟩
  · obtain ⟨c, rfl, _⟩ := plainElem_int_inv Try.underlying3 hv
    exact ⟨c, rfl⟩
  · intro x c kl y w' cnt' hkey hl hR hat hrg hlt hgr hsz hen
    obtain ⟨t, e, hwf⟩ := keyOf_inv hkey
    have e' := vT_inj e
    subst e'
    have hkl : kl = klT x := by
      have := keyT hwf
      rw [hkey] at this
      exact Option.some.inj this
    subst hkl
    obtain ⟨c', ec, hy, _⟩ := plainElem_int_inv Try.underlying3 hR
    have h3 := hD.2.2.1 x hwf
    rw [hat, hy] at h3
    have hc : c = s.f x := by
      injection ec with _ e1
      injection h3 with e2
      injection e2 with _ e3
      rw [e1, e3]
    subst hc
    exact hMore x w' cnt' hwf hl hrg hlt hgr hsz hen
end

theorem ownSV_grown {w w' : World} {base n cap : Nat} {s : Option Addr} {d : List Tm} {row : Option Nat} (h : OwnSV w base s n cap d) (hg : w.grownBy w' row) (hr : ∀ k, row = some k → k < base) : OwnSV w' base s n cap d :=
  ⟨h.1, h.2.imp id fun ⟨g, e, ho⟩ => ⟨g, e, ho.keep (hg.block g ho.lt fun k => by have := hr g k.symm; have := ho.le.1; omega)⟩⟩
theorem ranges_grew {w w' : World} {b r n : Nat} {D : DataW Unit} {left : Lit → Bool} {cnt : Nat} {s : Option Addr} (h : RangesT w b r n D left cnt) (hg : GrewBut w w' (r + 1) s) (hb : b < r) : RangesT w' b r n D left cnt := by
  refine World.ranges.kept h hg.grown (fun e => ?_) (fun e => ?_)
  · cases s with
    | none => cases e
    | some a => have := hg.own a rfl; simp at e; omega
  · cases s with
    | none => cases e
    | some a => have := hg.own a rfl; simp at e; omega
theorem grow_step {W w w' : World} {r : Nat} (h : Grow W w) (hg : w.grownBy w' (some r)) (hr : W.heap.size ≤ r) : Grow W w' := Below.grown h hg h.size (fun k e => by cases e; exact hr)

end Go.Proofs.Ytpkhmhigoafklaa
