/-
  The document's own numbers under way: two rows of the call's own behind a pointer of its own; what a store of a longer row leaves.
-/
import Derived.Test.YtpkhmhigoafklaaRowI
import Derived.Test.YtpkhmhigoafklaaEndK
namespace Go.Proofs.Ytpkhmhigoafklaa
set_option maxRecDepth 100000
open Go.RowKit Go.Sort Go.Deep
set_option linter.unusedVariables false
set_option linter.unusedSimpArgs false

structure NextR (w : World) (nb : Nat) (sT : Option Addr) (mT cT : Nat) (LT : List Tm) (sN : Option Addr) (mN cN : Nat) (LN : List Int) : Prop where
  cell0 : w.cell? ⟨nb, 0, none⟩ = some (.slice sT mT cT)
  cell1 : w.cell? ⟨nb, 1, none⟩ = some (.slice sN mN cN)
  free0 : w.frozen? ⟨nb, 0, none⟩ = false
  free1 : w.frozen? ⟨nb, 1, none⟩ = false
  ownT : OwnSV w (nb + 1) sT mT cT LT
  ownN : OwnIV w (nb + 1) sN mN cN LN
  apart : ∀ a a', sT = some a → sN = some a' → a.block ≠ a'.block
section
variable {w w2 : World} {nb : Nat} {sT : Option Addr} {mT cT : Nat} {LT : List Tm} {sN : Option Addr} {mN cN : Nat} {LN : List Int}
theorem NextR.lt (h : NextR w nb sT mT cT LT sN mN cN LN) : nb < w.heap.size := World.block_lt_of_cell? _ _ h.cell0
theorem NextR.later (hg : Grow w w2) (h : NextR w nb sT mT cT LT sN mN cN LN) : NextR w2 nb sT mT cT LT sN mN cN LN :=
  ⟨cell_later hg h.cell0, cell_later hg h.cell1, by rw [hg.frozen (p := ⟨nb, 0, none⟩) h.lt]; exact h.free0, by rw [hg.frozen (p := ⟨nb, 1, none⟩) h.lt]; exact h.free1, h.ownT.later hg, h.ownN.later hg, h.apart⟩
theorem ownSV_le {base n cap : Nat} {s : Option Addr} {d : List Tm} (h : OwnSV w base s n cap d) : ∀ a, s = some a → a.block < w.heap.size ∧ base ≤ a.block := by
  intro a ha
  rcases h.2 with ⟨rfl, _⟩ | ⟨g, rfl, ho⟩
  · cases ha
  · cases ha; exact ⟨ho.lt, ho.le.1⟩
theorem ownSV_keep {base n cap : Nat} {s : Option Addr} {d : List Tm} (h : OwnSV w base s n cap d) (hk : ∀ a, s = some a → w2.heap[a.block]? = w.heap[a.block]?) : OwnSV w2 base s n cap d :=
  ⟨h.1, h.2.imp id fun ⟨g, e, ho⟩ => ⟨g, e, ho.keep (hk _ e)⟩⟩
theorem setCell_block (w : World) (p : Addr) (u : Value) (k : Nat) (h : k ≠ p.block) : (w.setCell p u).heap[k]? = w.heap[k]? := Below.heap_setCell w p u k h
/-- A longer row of times is stored. -/
theorem NextR.setT {s2 : Option Addr} {m2 c2 : Nat} {L2 : List Tm} (h : NextR w nb sT mT cT LT sN mN cN LN) (hg : w.grownBy w2 (sT.map (·.block))) (ho : OwnSV w2 (nb + 1) s2 m2 c2 L2)
    (hl : ∀ a, s2 = some a → sT.map (·.block) = some a.block ∨ w.heap.size ≤ a.block) : NextR (w2.setCell ⟨nb, 0, none⟩ (.slice s2 m2 c2)) nb s2 m2 c2 L2 sN mN cN LN := by
  have hne : some nb ≠ sT.map (·.block) := fun e => by
    cases sT with
    | none => cases e
    | some a => have := (ownSV_le h.ownT a rfl).2; simp at e; omega
  have hc0 := hg.cell (a := ⟨nb, 0, none⟩) h.cell0 hne
  have hc1 := hg.cell (a := ⟨nb, 1, none⟩) h.cell1 hne
  have hf0 : w2.frozen? ⟨nb, 0, none⟩ = false := by rw [World.frozen?_of_block (w := w) (hg.block nb h.lt hne)]; exact h.free0
  have hf1 : w2.frozen? ⟨nb, 1, none⟩ = false := by rw [World.frozen?_of_block (w := w) (hg.block nb h.lt hne)]; exact h.free1
  have hN : OwnIV w2 (nb + 1) sN mN cN LN := h.ownN.keep fun a ha => hg.block _ (h.ownN.lt a ha).1 (fun e => by
    cases sT with
    | none => cases e
    | some b => exact h.apart b a rfl ha (by simpa using e.symm))
  refine ⟨by simp [go_sem, hc0], by simp [go_sem, hc1], by simp [go_sem, hf0], by simp [go_sem, hf1], ownSV_keep ho fun a ha => setCell_block _ _ _ _ (by have := (ownSV_le ho a ha).2; show a.block ≠ nb; omega), hN.keep fun a ha => setCell_block _ _ _ _ (by have := (hN.lt a ha).2; show a.block ≠ nb; omega), fun a a' ha ha' => ?_⟩
  rcases hl a ha with e | e
  · cases sT with
    | none => cases e
    | some b =>
      have := h.apart b a' rfl ha'
      simp at e
      rw [← e]; exact this
  · have := (h.ownN.lt a' ha').1
    omega
theorem NextR.setN {s2 : Option Addr} {m2 c2 : Nat} {L2 : List Int} (h : NextR w nb sT mT cT LT sN mN cN LN) (hg : w.grownBy w2 (sN.map (·.block))) (ho : OwnIV w2 (nb + 1) s2 m2 c2 L2)
    (hl : ∀ a, s2 = some a → sN.map (·.block) = some a.block ∨ w.heap.size ≤ a.block) : NextR (w2.setCell ⟨nb, 1, none⟩ (.slice s2 m2 c2)) nb sT mT cT LT s2 m2 c2 L2 := by
  have hne : some nb ≠ sN.map (·.block) := fun e => by
    cases sN with
    | none => cases e
    | some a => have := (h.ownN.lt a rfl).2; simp at e; omega
  have hc0 := hg.cell (a := ⟨nb, 0, none⟩) h.cell0 hne
  have hc1 := hg.cell (a := ⟨nb, 1, none⟩) h.cell1 hne
  have hf0 : w2.frozen? ⟨nb, 0, none⟩ = false := by rw [World.frozen?_of_block (w := w) (hg.block nb h.lt hne)]; exact h.free0
  have hf1 : w2.frozen? ⟨nb, 1, none⟩ = false := by rw [World.frozen?_of_block (w := w) (hg.block nb h.lt hne)]; exact h.free1
  have hT : OwnSV w2 (nb + 1) sT mT cT LT := ownSV_keep h.ownT fun a ha => hg.block _ (ownSV_le h.ownT a ha).1 (fun e => by
    cases sN with
    | none => cases e
    | some b => exact h.apart a b ha rfl (by simpa using e))
  refine ⟨by simp [go_sem, hc0], by simp [go_sem, hc1], by simp [go_sem, hf0], by simp [go_sem, hf1], ownSV_keep hT fun a ha => setCell_block _ _ _ _ (by have := (ownSV_le hT a ha).2; show a.block ≠ nb; omega), ho.keep fun a ha => setCell_block _ _ _ _ (by have := (ho.lt a ha).2; show a.block ≠ nb; omega), fun a a' ha ha' => ?_⟩
  rcases hl a' ha' with e | e
  · cases sN with
    | none => cases e
    | some b =>
      have := h.apart a b ha rfl
      simp at e
      rw [← e]; exact this
  · have := (ownSV_le h.ownT a ha).1
    omega
theorem NextR.new (w : World) : NextR (w.alloc (.cells #[.slice none 0 0, .slice none 0 0] 33)) w.heap.size none 0 0 [] none 0 0 [] :=
  ⟨by simp [go_sem], by simp [go_sem], by simp [go_sem], by simp [go_sem], OwnSV.nil _ _, OwnIV.nil _ _, fun a a' ha => by cases ha⟩
/-- Behind a row's turn and a store into the call's own block nothing older has turned. -/
theorem grow_turn {W : World} {row : Option Nat} {p : Addr} {u : Value} (h : Grow W w) (hg : w.grownBy w2 row) (hr : ∀ k, row = some k → W.heap.size ≤ k) (hp : W.heap.size ≤ p.block) : Grow W (w2.setCell p u) :=
  Below.setCell (Below.grown h hg h.size hr) hp u
end
/-- What the append in the round yields. -/
def AppT (w0 : World) (base : Nat) (s : Option Addr) (n : Nat) (d : List Tm) (v : Value) (w : World) : Prop := ∃ s2 c2, v = .slice s2 n c2 ∧ OwnSV w base s2 n c2 d ∧ ∀ a, s2 = some a → s.map (·.block) = some a.block ∨ w0.heap.size ≤ a.block
theorem AppT.later {w0 : World} {base : Nat} {s : Option Addr} {n : Nat} {d : List Tm} {v : Value} {w w' : World} (hg : Grow w w') : AppT w0 base s n d v w → AppT w0 base s n d v w' := fun ⟨s2, c2, e, h, l⟩ => ⟨s2, c2, e, h.later hg, l⟩
def AppI (w0 : World) (base : Nat) (s : Option Addr) (n : Nat) (d : List Int) (v : Value) (w : World) : Prop := ∃ s2 c2, v = .slice s2 n c2 ∧ OwnIV w base s2 n c2 d ∧ ∀ a, s2 = some a → s.map (·.block) = some a.block ∨ w0.heap.size ≤ a.block
theorem AppI.later {w0 : World} {base : Nat} {s : Option Addr} {n : Nat} {d : List Int} {v : Value} {w w' : World} (hg : Grow w w') : AppI w0 base s n d v w → AppI w0 base s n d v w' := fun ⟨s2, c2, e, h, l⟩ => ⟨s2, c2, e, h.later hg, l⟩
def IsRowI (d : List Int) (v : Value) (w : World) : Prop := ∃ s n cap, v = .slice s n cap ∧ IsIns w s n cap d
theorem IsRowI.later {d : List Int} {v : Value} {w w' : World} (hg : Grow w w') : IsRowI d v w → IsRowI d v w' := fun ⟨s, n, cap, e, h⟩ => ⟨s, n, cap, e, h.later hg⟩
theorem isRowI_one (w : World) (x : Int) : IsRowI [x] (.slice (some ⟨w.heap.size, 0, none⟩) 1 1) (w.alloc (.cells #[.int .i64 x] 3)) :=
  ⟨_, _, _, rfl, rfl, Nat.le_refl _, .inr ⟨_, _, rfl, fun j hj => by
    have : j = 0 := by simp at hj; omega
    subst this
    simp [go_sem]⟩⟩

def BoxR (x : Tm) (v : Value) (w : World) : Prop := ∃ b, v = .slice (some ⟨b, 0, none⟩) 1 1 ∧ RowT w b 0 [x]
theorem BoxR.later {x : Tm} {v : Value} {w w' : World} (hg : Grow w w') : BoxR x v w → BoxR x v w' := fun ⟨b, e, r⟩ => ⟨b, e, r.later hg⟩
theorem boxR_one (w : World) (t : Tm) : BoxR t (.slice (some ⟨w.heap.size, 0, none⟩) 1 1) (w.alloc (.cells #[.int .i64 t.e, .int .i64 t.d, .int .i64 t.x, .int .i64 t.y, .int .i64 t.z] 25)) := ⟨_, rfl, RowT_one w t⟩
theorem boxR_is {w : World} {b : Nat} {x : Tm} (r : RowT w b 0 [x]) : IsTms w (some ⟨b, 0, none⟩) 1 1 [x] := ⟨rfl, Nat.le_refl _, .inr ⟨_, _, rfl, r⟩⟩
def BoxJ (x : Int) (v : Value) (w : World) : Prop := ∃ b, v = .slice (some ⟨b, 0, none⟩) 1 1 ∧ IsIns w (some ⟨b, 0, none⟩) 1 1 [x]
theorem BoxJ.later {x : Int} {v : Value} {w w' : World} (hg : Grow w w') : BoxJ x v w → BoxJ x v w' := fun ⟨b, e, r⟩ => ⟨b, e, r.later hg⟩
theorem boxJ_one (w : World) (x : Int) : BoxJ x (.slice (some ⟨w.heap.size, 0, none⟩) 1 1) (w.alloc (.cells #[.int .i64 x] 3)) :=
  ⟨_, rfl, rfl, Nat.le_refl _, .inr ⟨_, _, rfl, fun j hj => by
    have : j = 0 := by simp at hj; omega
    subst this
    simp [go_sem]⟩⟩
theorem run_aptG {wc w : World} (hsz : wc.heap.size ≤ w.heap.size) (rt : TypeId) (base : Nat) (s : Option Addr) (n cap : Nat) (d e : List Tm) (hown : OwnSV w base s n cap d) (s' : Option Addr) (m c : Nat) (he : IsTms w s' m c e) (hlen : n + m ≤ 1000000) (hbase : base ≤ w.heap.size) :
    ∃ s2 c2 w2, (Builtin.append_ #[30, 30] rt #[.slice s n cap, .slice s' m c]).run Try.prog w = .ok (.slice s2 (n + m) c2) w2
      ∧ OwnSV w2 base s2 (n + m) c2 (d ++ e) ∧ w.grownBy w2 (s.map (·.block)) ∧ ∀ a, s2 = some a → s.map (·.block) = some a.block ∨ wc.heap.size ≤ a.block := by
  obtain ⟨s2, c2, w2, h1, h2, h3, h4⟩ := run_apt w rt base s n cap d e hown s' m c he hlen hbase
  exact ⟨s2, c2, w2, h1, h2, h3, fun a ha => (h4 a ha).imp id fun k => by omega⟩
theorem run_apiG {wc w : World} (hsz : wc.heap.size ≤ w.heap.size) (rt : TypeId) (base : Nat) (s : Option Addr) (n cap : Nat) (d e : List Int) (hown : OwnIV w base s n cap d) (s' : Option Addr) (m c : Nat) (he : IsIns w s' m c e) (hlen : n + m ≤ 1000000) (hbase : base ≤ w.heap.size) :
    ∃ s2 c2 w2, (Builtin.append_ #[31, 31] rt #[.slice s n cap, .slice s' m c]).run Try.prog w = .ok (.slice s2 (n + m) c2) w2
      ∧ OwnIV w2 base s2 (n + m) c2 (d ++ e) ∧ w.grownBy w2 (s.map (·.block)) ∧ ∀ a, s2 = some a → s.map (·.block) = some a.block ∨ wc.heap.size ≤ a.block := by
  obtain ⟨s2, c2, w2, h1, h2, h3, h4⟩ := run_api w rt base s n cap d e hown s' m c he hlen hbase
  exact ⟨s2, c2, w2, h1, h2, h3, fun a ha => (h4 a ha).imp id fun k => by omega⟩

section
variable {w : World} {ops : Array Oper} {rest : List Oper} {o : Oper} {a : Act} {Q : Exit → Act → World → Prop}
theorem wpList_apT (hgd : o.guard = none) (s x : Operand) (ho : o.op = .call { callee := .builtin .append, args := #[s, x], argTypes := #[30, 30] })
    (base : Nat) (s0 : Option Addr) (n cap : Nat) (d e : List Tm) (hs : a.eval s = .slice s0 n cap) (hown : OwnSV w base s0 n cap d)
    (s' : Option Addr) (m c : Nat) (hx : a.eval x = .slice s' m c) (he : IsTms w s' m c e) (hlen : n + m ≤ 1000000) (hbase : base ≤ w.heap.size)
    (h : ∀ s2 c2 w2, OwnSV w2 base s2 (n + m) c2 (d ++ e) → w.grownBy w2 (s0.map (·.block)) → (∀ a, s2 = some a → s0.map (·.block) = some a.block ∨ w.heap.size ≤ a.block) → wpList Try.prog ops Q rest (a.put o.dst (.slice s2 (n + m) c2)) w2) :
    wpList Try.prog ops Q (o :: rest) a w := by
  obtain ⟨s2, c2, w2, h0, h1, h2, h3⟩ := run_aptG (Nat.le_refl w.heap.size) o.type base s0 n cap d e hown s' m c he hlen hbase
  refine wpList_plain hgd fun K hK => ?_
  unfold Oper.wp execOp
  simp only [ho, resolve, invoke, builtin, Sem.run_bind, Sem.run_pure, Result.andThen_ok, List.map_toArray, List.map_cons, List.map_nil, hs, hx, h0]
  exact hK _ _ (h s2 c2 w2 h1 h2 h3)
theorem wpList_apI (hgd : o.guard = none) (s x : Operand) (ho : o.op = .call { callee := .builtin .append, args := #[s, x], argTypes := #[31, 31] })
    (base : Nat) (s0 : Option Addr) (n cap : Nat) (d e : List Int) (hs : a.eval s = .slice s0 n cap) (hown : OwnIV w base s0 n cap d)
    (s' : Option Addr) (m c : Nat) (hx : a.eval x = .slice s' m c) (he : IsIns w s' m c e) (hlen : n + m ≤ 1000000) (hbase : base ≤ w.heap.size)
    (h : ∀ s2 c2 w2, OwnIV w2 base s2 (n + m) c2 (d ++ e) → w.grownBy w2 (s0.map (·.block)) → (∀ a, s2 = some a → s0.map (·.block) = some a.block ∨ w.heap.size ≤ a.block) → wpList Try.prog ops Q rest (a.put o.dst (.slice s2 (n + m) c2)) w2) :
    wpList Try.prog ops Q (o :: rest) a w := by
  obtain ⟨s2, c2, w2, h0, h1, h2, h3⟩ := run_apiG (Nat.le_refl w.heap.size) o.type base s0 n cap d e hown s' m c he hlen hbase
  refine wpList_plain hgd fun K hK => ?_
  unfold Oper.wp execOp
  simp only [ho, resolve, invoke, builtin, Sem.run_bind, Sem.run_pure, Result.andThen_ok, List.map_toArray, List.map_cons, List.map_nil, hs, hx, h0]
  exact hK _ _ (h s2 c2 w2 h1 h2 h3)
end
theorem OwnIV.lit0 (w : World) (base : Nat) (hb : base ≤ w.heap.size) : OwnIV (w.alloc (.cells #[] 3)) base (some ⟨w.heap.size, 0, none⟩) 0 0 [] :=
  ⟨rfl, ⟨rfl, .inr ⟨w.heap.size, 0, #[], rfl, hb, (MapKept.heap_alloc w _).1, Nat.le_refl _, by simp [maxLen], rfl, rfl⟩⟩, fun h => by cases h⟩
theorem OwnIV.rebase {w : World} {base base' n cap : Nat} {s : Option Addr} {d : List Int} (h : OwnIV w base s n cap d) (hb : base' ≤ base) : OwnIV w base' s n cap d := by
  obtain ⟨h1, h2, h3⟩ := h
  refine ⟨h1, ⟨h2.1, ?_⟩, h3⟩
  rcases h2.2 with h' | ⟨g, cap', cur, h', hb', hg, r⟩
  · exact .inl h'
  · exact .inr ⟨g, cap', cur, h', Nat.le_trans hb hb', hg, r⟩
/-- The rows that are ready become the numbers. -/
theorem RepY.put {w : World} {y nb : Nat} {s s2 : Cs} {sT sN sF sK : Option Addr} {cT cN mF cF cK : Nat} {LN : List Int} (hR : RepY w y s sT cT sN cN) (hN : NextR w nb sF mF cF s2.T sK mF cK LN) (hy : y < nb) (hL : LN = s2.T.map s2.f) :
    RepY ((w.setCell ⟨y, 0, none⟩ (.slice sF mF cF)).setCell ⟨y, 1, none⟩ (.slice sK mF cK)) y s2 sF cF sK cK ∧ w.grownBy ((w.setCell ⟨y, 0, none⟩ (.slice sF mF cF)).setCell ⟨y, 1, none⟩ (.slice sK mF cK)) (some y) := by
  have hm : s2.T.length = mF := hN.ownT.1
  have hk : ∀ k, k ≠ y → ((w.setCell ⟨y, 0, none⟩ (.slice sF mF cF)).setCell ⟨y, 1, none⟩ (.slice sK mF cK)).heap[k]? = w.heap[k]? := fun k hk => by
    rw [setCell_block _ _ _ _ (show k ≠ y from hk), setCell_block _ _ _ _ (show k ≠ y from hk)]
  have hc0 := hR.cell0
  have hc1 := hR.cell1
  have hf0 := hR.free0
  have hf1 := hR.free1
  subst hL
  refine ⟨⟨by rw [hm]; simp [go_sem, hc0, hc1], by rw [hm]; simp [go_sem, hc0, hc1], by simp [go_sem, hf0], by simp [go_sem, hf1], fun off ho => ?_, ?_, ?_⟩, ⟨rfl, rfl, rfl, by simp, fun k hk' hne => hk k (fun e => hne (by rw [e]))⟩⟩
  · have := hR.two off ho
    have e0 : ¬ off = 0 := by omega
    have e1 : ¬ off = 1 := by omega
    simp [go_sem, this, e0, e1]
  · rw [hm]
    exact (ownSV_keep hN.ownT fun a ha => hk _ (by have := (ownSV_le hN.ownT a ha).2; omega)).is
  · rw [hm]
    exact (hN.ownN.keep fun a ha => hk _ (by have := (hN.ownN.lt a ha).2; omega)).is

def AppN (base n : Nat) (d : List Tm) (v : Value) (w : World) : Prop := ∃ s2 c2, v = .slice s2 n c2 ∧ OwnSV w base s2 n c2 d ∧ True
theorem AppN.later {base n : Nat} {d : List Tm} {v : Value} {w w' : World} (hg : Grow w w') : AppN base n d v w → AppN base n d v w' := fun ⟨s2, c2, e, h, l⟩ => ⟨s2, c2, e, h.later hg, l⟩
theorem run_aptN {ws w : World} (hg : Grow ws w) (rt : TypeId) (s : Option Addr) (n cap : Nat) (d e : List Tm) (hown : OwnSV w ws.heap.size s n cap d) (s' : Option Addr) (m c : Nat) (he : IsTms w s' m c e) (hlen : n + m ≤ 1000000) :
    ∃ s2 c2 w2, (Builtin.append_ #[30, 30] rt #[.slice s n cap, .slice s' m c]).run Try.prog w = .ok (.slice s2 (n + m) c2) w2
      ∧ OwnSV w2 ws.heap.size s2 (n + m) c2 (d ++ e) ∧ Grow ws w2 ∧ True := by
  obtain ⟨s2, c2, w2, h1, h2, h3, h4⟩ := run_apt w rt ws.heap.size s n cap d e hown s' m c he hlen hg.size
  refine ⟨s2, c2, w2, h1, h2, Below.grown hg h3 hg.size (fun k hk => ?_), trivial⟩
  cases s with
  | none => cases hk
  | some a => have := (ownSV_le hown a rfl).2; simp at hk; omega
/-- Where a time is put. -/
theorem ins_at {D : List Tm} {t : Tm} {j : Nat} (hj : j ≤ D.length) (h1 : ∀ q (h : q < D.length), q < j → kinT.ord D[q] t < 0) (h2 : ∀ h : j < D.length, ¬ kinT.ord D[j] t < 0) : insO kinT D t = D.take j ++ [t] ++ D.drop j := by
  have key : ∀ (l : List Tm) (m : Nat), m ≤ l.length → (∀ q (h : q < l.length), q < m → kinT.ord l[q] t < 0) → (∀ h : m < l.length, ¬ kinT.ord l[m] t < 0) →
      l.takeWhile (fun y => decide (kinT.ord y t < 0)) = l.take m ∧ l.dropWhile (fun y => decide (kinT.ord y t < 0)) = l.drop m := by
    intro l
    induction l with
    | nil => intro m hm _ _; simp at hm; subst hm; simp
    | cons x l ih =>
      intro m hm a1 a2
      cases m with
      | zero =>
        have := a2 (by simp)
        simp at this
        simp [this]
      | succ m =>
        have hx := a1 0 (by simp) (by omega)
        simp at hx
        obtain ⟨i1, i2⟩ := ih m (by simpa using hm) (fun q hq hqm => by have := a1 (q + 1) (by simpa using hq) (by omega); simpa using this) (fun hm' => by have := a2 (by simpa using hm'); simpa using this)
        simp [hx, i1, i2]
  obtain ⟨i1, i2⟩ := key D j hj h1 h2
  unfold insO
  rw [i1, i2]

end Go.Proofs.Ytpkhmhigoafklaa
