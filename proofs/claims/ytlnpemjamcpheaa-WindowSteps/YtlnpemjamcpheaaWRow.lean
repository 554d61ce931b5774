/-
  Rows of numbers: where they lie, those that a call has made by append, nil ones too, a store into one of them; how two numbers in an array, that come in as an argument, are opened.
-/
import Derived.Test.YtlnpemjamcpheaaWPl
import Derived.Test.YtlnpemjamcpheaaInv
import Derived.ProofKit
import Derived.OpenShut
import Derived.ShutString
import Derived.ChangeOld
import Derived.Below
import Derived.Deep.Strs
import Derived.Maps.AppendAt
import Derived.Laws.OwnMore
import Derived.Deep.Slices
namespace Go.Proofs.Ytlnpemjamcpheaa
set_option maxRecDepth 100000
open Go.ChangeShapes Go.WideShapes Go.ChangeAt Go.RowKit Go.Deep
set_option linter.unusedVariables false

theorem own : ownKnob Try.prog.godebug = none := by kernel_rfl
theorem laidOut : laidOutB Try.prog = true := by kernel_rfl
theorem Grow.alloc' (w : World) (o : Obj) : Grow w (w.alloc o) := (Below.refl _ _).alloc (Nat.le_refl _) _
theorem addr_add (b o j : Nat) : (Addr.mk b o none).add j = ⟨b, o + j, none⟩ := by cases j <;> rfl
theorem ret_slice {a : Option Addr} {m n c : Nat} (h : m = n) : Ending.returned (.slice a m c) = .returned (.slice a n c) := by rw [h]
/-- A slice of numbers. -/
structure IsIns (w : World) (s : Option Addr) (n cap : Nat) (d : List Int) : Prop where
  len : d.length = n
  cap : n ≤ cap
  row : d = [] ∨ ∃ b o, s = some ⟨b, o, none⟩ ∧ ∀ j (h : j < d.length), w.cell? ⟨b, o + j, none⟩ = some (.int .i64 d[j])
theorem IsIns.later {w w' : World} {s : Option Addr} {n cap : Nat} {d : List Int} (hg : Grow w w') (h : IsIns w s n cap d) : IsIns w' s n cap d :=
  ⟨h.len, h.cap, h.row.imp id fun ⟨b, o, e, r⟩ => ⟨b, o, e, fun j hj => cell_later hg (r j hj)⟩⟩
def flatI (d : List Int) : List Value := d.map (Value.int .i64)
/-- The call owns a row of numbers, or it is nil. -/
def OwnIV (w : World) (base : Nat) (s : Option Addr) (n cap : Nat) (d : List Int) : Prop :=
  d.length = n ∧ w.ownsRow base 3 1 (.slice s n cap) n (flatI d) ∧ (s = none → cap = 0)
theorem OwnIV.nil (w : World) (base : Nat) : OwnIV w base none 0 0 [] := ⟨rfl, World.ownsRow_nil w base _ _, fun _ => rfl⟩
theorem OwnIV.keep {w w' : World} {base n cap : Nat} {s : Option Addr} {d : List Int} (h : OwnIV w base s n cap d) (hk : ∀ a, s = some a → w'.heap[a.block]? = w.heap[a.block]?) : OwnIV w' base s n cap d := by
  obtain ⟨h1, h2, h3⟩ := h
  refine ⟨h1, ⟨h2.1, ?_⟩, h3⟩
  rcases h2.2 with h' | ⟨g, cap', cur, h', hb, hg, r⟩
  · exact .inl h'
  · simp only [Value.slice.injEq] at h'
    obtain ⟨rfl, _, rfl⟩ := h'
    exact .inr ⟨g, cap, cur, rfl, hb, (hk _ rfl).trans hg, r⟩
theorem OwnIV.lt {w : World} {base n cap : Nat} {s : Option Addr} {d : List Int} (h : OwnIV w base s n cap d) : ∀ a, s = some a → a.block < w.heap.size ∧ base ≤ a.block := by
  intro a ha
  rcases h.2.1.2 with ⟨h', _⟩ | ⟨g, cap', cur, h', hb, hg, r⟩
  · simp only [Value.slice.injEq] at h'
    rw [ha] at h'; cases h'.1
  · simp only [Value.slice.injEq] at h'
    rw [ha] at h'
    cases h'.1
    exact ⟨(Array.getElem?_eq_some_iff.1 hg).1, hb⟩
theorem OwnIV.later {w w' : World} {base n cap : Nat} {s : Option Addr} {d : List Int} (h : OwnIV w base s n cap d) (hg : Grow w w') : OwnIV w' base s n cap d :=
  h.keep fun a ha => hg.block _ (h.lt a ha).1
theorem OwnIV.is {w : World} {base n cap : Nat} {s : Option Addr} {d : List Int} (h : OwnIV w base s n cap d) : IsIns w s n cap d := by
  obtain ⟨h1, h2, h3⟩ := h
  rcases h2.2 with ⟨h', h''⟩ | ⟨g, cap', cur, h', hb, hg, k1, k2, k3, k4⟩
  · have hn : n = 0 := h''
    refine ⟨h1, by omega, .inl ?_⟩
    exact List.eq_nil_of_length_eq_zero (by omega)
  · simp only [Value.slice.injEq] at h'
    obtain ⟨rfl, _, rfl⟩ := h'
    refine ⟨h1, k1, .inr ⟨g, 0, rfl, fun j hj => ?_⟩⟩
    have := World.ownsRow.cellAt h2 j (by omega)
    rw [Nat.zero_add, this]
    simp [flatI, hj]
theorem info_int : ∃ i, Try.prog.info? 3 = some i ∧ i.zero = some (.int .i64 0) ∧ i.size = 1 ∧ i.bytes = 8 := by
  cases hi : Try.prog.info? 3 with
  | none =>
    have : (Try.prog.info? 3).isSome = true := by kernel_rfl
    rw [hi] at this; cases this
  | some i =>
    have hz : (Try.prog.info? 3).map (·.zero) = some (some (.int .i64 0)) := by kernel_rfl
    have hs : (Try.prog.info? 3).map (·.size) = some 1 := by kernel_rfl
    have hb : (Try.prog.info? 3).map (·.bytes) = some 8 := by kernel_rfl
    rw [hi] at hz hs hb
    simp only [Option.map_some, Option.some.injEq] at hz hs hb
    exact ⟨i, rfl, hz, hs, hb⟩
theorem oneCell_flatI (d : List Int) : ∀ v ∈ flatI d, v.oneCell' = true := by
  intro v hv
  obtain ⟨x, _, rfl⟩ := List.mem_map.1 hv
  rfl
/-- Where the new row lies: in the old one's block, or in a new one. -/
def Lies (w : World) (s s2 : Option Addr) : Prop := ∀ a, s2 = some a → (∃ a0, s = some a0 ∧ a0.block = a.block) ∨ a.block = w.heap.size ∨ a.block = w.heap.size
theorem app_none_int (s : Option Addr) (n cap : Nat) (hn : n ≤ cap) (c : Nat) (rt : TypeId) (w : World) :
    (Builtin.append_ #[24, 24] rt #[.slice s n cap, .slice none 0 c]).run Try.prog w = (Builtin.append_ #[24, 24] rt #[.slice s n cap, .slice (some ⟨0, 0, none⟩) 0 c]).run Try.prog w := by
  obtain ⟨i, hi, hz, hsz, hby⟩ := info_int
  have hl : (loadCells ⟨0, 0, none⟩ 0).run Try.prog w = .ok #[] w := by simpa using run_loadCells_list (P := Try.prog) w ⟨0, 0, none⟩ [] (by simp)
  cases s <;> simp [Builtin.append_, run_underlying Try.underlying24, sizeOf, typeInfo, hi, Builtin.lenOf, Builtin.firstCells, hl, hn]
/-- What append does to rows of numbers. -/
theorem run_api (w : World) (rt : TypeId) (base : Nat) (s : Option Addr) (n cap : Nat) (d e : List Int) (hown : OwnIV w base s n cap d) (s' : Option Addr) (m c : Nat) (he : IsIns w s' m c e) (hlen : n + m ≤ 1000000) (hbase : base ≤ w.heap.size) :
    ∃ s2 c2 w2, (Builtin.append_ #[24, 24] rt #[.slice s n cap, .slice s' m c]).run Try.prog w = .ok (.slice s2 (n + m) c2) w2
      ∧ OwnIV w2 base s2 (n + m) c2 (d ++ e) ∧ w.grownBy w2 (s.map (·.block)) ∧ ∀ a, s2 = some a → s.map (·.block) = some a.block ∨ a.block = w.heap.size := by
  obtain ⟨i, hi, hz, hsz, hby⟩ := info_int
  have hnc := hown.is.cap
  obtain ⟨hn, hr, hz0⟩ := hown
  have key : ∀ (x : Addr), (∀ j u, (flatI e)[j]? = some u → w.cell? (x.add j) = some u) → ∃ s2 c2 w2, (Builtin.append_ #[24, 24] rt #[.slice s n cap, .slice (some x) m c]).run Try.prog w = .ok (.slice s2 (n + m) c2) w2
      ∧ OwnIV w2 base s2 (n + m) c2 (d ++ e) ∧ w.grownBy w2 (s.map (·.block)) ∧ ∀ a, s2 = some a → s.map (·.block) = some a.block ∨ a.block = w.heap.size := by
    intro x hx
    obtain ⟨v', w', h0, h1, h2, h3, h4⟩ := run_append_own_at (P := Try.prog) w base 24 rt 3 i _ 1 8 Try.underlying24 hi hz hsz hby rfl (by omega) _ n (flatI d) hr x m c (flatI e) (by simp [flatI, he.len]) hx (oneCell_flatI e) (by simp [maxLen]; omega) (by omega) hbase
    have hob : (Value.slice s n cap).ownBlock = s.map (·.block) := by cases s <;> rfl
    rw [hob] at h2 h4
    have hl : (d ++ e).length = n + m := by rw [List.length_append, hn, he.len]
    have hfl : flatI d ++ flatI e = flatI (d ++ e) := by simp [flatI]
    rw [hfl] at h1
    rcases h1.2 with ⟨h', h''⟩ | ⟨g', cap', cur, h', hb, hg, k⟩
    · subst h'
      have h5 : n + m = 0 := h''
      refine ⟨none, 0, w', by rw [h0, h5], ⟨hl, ?_, fun _ => rfl⟩, h2, fun a ha => by cases ha⟩
      rw [h5] at h1 ⊢
      exact h1
    · subst h'
      refine ⟨some ⟨g', 0, none⟩, cap', w', h0, ⟨hl, h1, fun k => by cases k⟩, h2, fun a ha => ?_⟩
      cases ha
      rcases h4 with h4 | h4
      · left; rw [← h4]; rfl
      · right
        have : some g' = some w.heap.size := h4
        exact Option.some.inj this
  rcases he.row with hnil | ⟨b, off, rfl, hrw⟩
  · have hm0 : m = 0 := by rw [← he.len, hnil]; rfl
    subst hm0
    cases s' with
    | none =>
      rw [app_none_int _ _ _ hnc]
      exact key _ (fun j v hj => by rw [hnil] at hj; simp [flatI] at hj)
    | some a => exact key a (fun j v hj => by rw [hnil] at hj; simp [flatI] at hj)
  · refine key _ (fun j v hj => ?_)
    have hj' : j < e.length := by have := (List.getElem?_eq_some_iff.1 hj).1; simpa [flatI] using this
    rw [addr_add, hrw j hj']
    simpa [flatI, hj'] using hj
/-- The world has grown, but for the one row, which is the call's own. -/
structure GrewBut (w w' : World) (base : Nat) (s : Option Addr) : Prop where
  grown : w.grownBy w' (s.map (·.block))
  own : ∀ a, s = some a → base ≤ a.block

theorem GrewBut.grow {W w w' : World} {base : Nat} {s : Option Addr} (h : GrewBut w w' base s) (hW : Grow W w) (hb : W.heap.size ≤ base) : Grow W w' := by
  cases s with
  | none => exact Below.grown hW h.grown hW.size (fun k e => by cases e)
  | some a => exact Below.grown hW h.grown hW.size (fun k e => by cases e; exact Nat.le_trans hb (h.own a rfl))
theorem wpList_apd_int {w : World} {ops : Array Oper} {rest : List Oper} {o : Oper} {a : Act} {Q : Exit → Act → World → Prop} (hgd : o.guard = none) (s x : Operand)
    (ho : o.op = .call { callee := .builtin .append, args := #[s, x], argTypes := #[24, 24] })
    (base : Nat) (s0 : Option Addr) (n cap : Nat) (d e : List Int) (hs : a.eval s = .slice s0 n cap) (hown : OwnIV w base s0 n cap d)
    (s' : Option Addr) (m c : Nat) (hx : a.eval x = .slice s' m c) (he : IsIns w s' m c e) (hlen : n + m ≤ 1000000) (hbase : base ≤ w.heap.size)
    (h : ∀ s2 c2 w2, OwnIV w2 base s2 (n + m) c2 (d ++ e) → GrewBut w w2 base s0 → wpList Try.prog ops Q rest (a.put o.dst (.slice s2 (n + m) c2)) w2) :
    wpList Try.prog ops Q (o :: rest) a w := by
  obtain ⟨s2, c2, w2, h0, h1, h2, _⟩ := run_api w o.type base s0 n cap d e hown s' m c he hlen hbase
  refine wpList_plain hgd fun K hK => ?_
  unfold Oper.wp execOp
  simp only [ho, resolve, invoke, builtin, Sem.run_bind, Sem.run_pure, Result.andThen_ok, List.map_toArray, List.map_cons, List.map_nil, hs, hx, h0]
  exact hK _ _ (h s2 c2 w2 h1 ⟨h2, fun b hb => (hown.lt b hb).2⟩)
theorem OwnIV.some' {w : World} {base n cap : Nat} {s : Option Addr} {d : List Int} (h : OwnIV w base s n cap d) (hn : 0 < n) : ∃ g, s = some ⟨g, 0, none⟩ := by
  rcases h.2.1.2 with ⟨h', h''⟩ | ⟨g, cap', cur, h', _⟩
  · have : n = 0 := h''
    omega
  · simp only [Value.slice.injEq] at h'
    exact ⟨g, h'.1⟩
theorem ins_one (w : World) (x : Int) : IsIns (w.alloc (.cells #[.int .i64 x] 3)) (some ⟨w.heap.size, 0, none⟩) 1 1 [x] :=
  ⟨rfl, Nat.le_refl _, .inr ⟨_, _, rfl, fun j hj => by simp at hj; subst hj; simp [go_sem]⟩⟩
theorem OwnIV.lit0 (w : World) (base : Nat) (hb : base ≤ w.heap.size) : OwnIV (w.alloc (.cells #[] 3)) base (some ⟨w.heap.size, 0, none⟩) 0 0 [] :=
  ⟨rfl, ⟨rfl, .inr ⟨w.heap.size, 0, #[], rfl, hb, (MapKept.heap_alloc w _).1, Nat.le_refl _, Nat.zero_le _, rfl, rfl⟩⟩, fun h => by cases h⟩
theorem OwnIV.rebase {w : World} {base base' n cap : Nat} {s : Option Addr} {d : List Int} (h : OwnIV w base s n cap d) (hb : base' ≤ base) : OwnIV w base' s n cap d :=
  ⟨h.1, ⟨h.2.1.1, h.2.1.2.imp id fun ⟨g, cap', cur, e, hg, r⟩ => ⟨g, cap', cur, e, Nat.le_trans hb hg, r⟩⟩, h.2.2⟩
/-- A store into a row of the call's own. -/
theorem OwnIV.stored {w : World} {base n cap g : Nat} {d : List Int} (h : OwnIV w base (some ⟨g, 0, none⟩) n cap d) (j : Nat) (x : Int) :
    OwnIV (w.setCell ⟨g, j, none⟩ (.int .i64 x)) base (some ⟨g, 0, none⟩) n cap (d.set j x) ∧ w.grownBy (w.setCell ⟨g, j, none⟩ (.int .i64 x)) (some g) := by
  have := World.ownsRow.stored h.2.1 j (.int .i64 x)
  refine ⟨⟨by rw [List.length_set]; exact h.1, ?_, fun k => by cases k⟩, this.2⟩
  have e : flatI (d.set j x) = (flatI d).set j (.int .i64 x) := by simp [flatI, List.map_set]
  rw [e]; exact this.1
theorem OwnIV.cell {w : World} {base n cap g : Nat} {d : List Int} (h : OwnIV w base (some ⟨g, 0, none⟩) n cap d) (j : Nat) (hj : j < d.length) : w.cell? ⟨g, j, none⟩ = some (.int .i64 d[j]) := by
  have := World.ownsRow.cellAt h.2.1 j (by have := h.1; omega)
  rw [this]
  simp [flatI, hj]
theorem OwnIV.free {w : World} {base n cap g : Nat} {d : List Int} (h : OwnIV w base (some ⟨g, 0, none⟩) n cap d) (j : Nat) : w.frozen? ⟨g, j, none⟩ = false := World.ownsRow.frozenAt h.2.1 j
theorem wf_le {k : Int} (h : (Lit.int .i64 k).wf = true) : k ≤ 9223372036854775807 := by
  unfold Lit.wf at h
  simp at h
  exact h.2
theorem open_arr2 {H : Type} {enc : TypeId × Value → H} {W : World} {r : Reach} {b0 : Nat} {v : Value} {d : DataW H} {p : List MemPlace} {base : Nat} {spare : Nat → Bool} {held : Bool}
    (hv : Value.okWide Try.prog W r b0 30 v) (h : DataW.Trod enc Try.prog W base spare held 30 v d p) : ∃ t : Int × Int, v = .agg #[.int .i64 t.1, .int .i64 t.2] ∧ (Lit.int .i64 t.1).wf = true ∧ (Lit.int .i64 t.2).wf = true := by
  have hCa : Try.prog.cellsOf 30 = 2 := by kernel_rfl
  have hC3 : Try.prog.cellsOf 3 = 1 := by kernel_rfl
  have ht := Try.underlying30
  simp only [Value.okWide, ht] at hv
  obtain ⟨cs, rfl, hsz, _⟩ := hv
  rw [hCa] at hsz
  obtain ⟨l⟩ := cs
  match l, hsz with
  | [c0, c1], _ =>
    obtain ⟨fuel, hf⟩ := h
    obtain ⟨xs, m, _, _, _, hlen, hi⟩ := DataW.trod_array ht hf
    match xs, hlen with
    | [z0, z1], _ =>
      have i0 := hi 0 (by omega)
      have i1 := hi 1 (by omega)
      simp [hC3, Value.cells] at i0 i1
      obtain ⟨x, e2, _, wx⟩ := DataW.trod_int Try.underlying3 i0
      obtain ⟨y, e3, _, wy⟩ := DataW.trod_int Try.underlying3 i1
      simp at e2 e3
      subst e2 e3
      exact ⟨(x, y), rfl, wx, wy⟩

end Go.Proofs.Ytlnpemjamcpheaa
