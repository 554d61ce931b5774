/-
  Rows of changes: cut, made of one, made longer by one that the call owns.
-/
import Derived.Test.YtehianjfpmbfpaaGreatQPmZ
namespace Go.Proofs.YtehianjfpmbfpaaGreat
set_option maxRecDepth 100000
open Go.RowKit
set_option linter.unusedVariables false
set_option linter.unusedSimpArgs false

theorem RowCh.drop' {w : World} {b o : Nat} {d : List Ch} (h : RowCh w b o d) (k : Nat) : RowCh w b (o + k * 8) (d.drop k) := by
  intro j v hj
  rw [← flatC_drop, List.getElem?_drop] at hj
  have := h _ v hj
  rw [← Nat.add_assoc] at this
  exact this
def fromC (a : Option Addr) (cap k : Nat) : Option Addr := if cap = k then a else a.map (·.add (k * 8))
theorem IsChs.from' {w : World} {s : Option Addr} {n cap : Nat} {d : List Ch} (h : IsChs w s n cap d) (k : Nat) (hk : k ≤ n) : IsChs w (fromC s cap k) (n - k) (cap - k) (d.drop k) := by
  refine ⟨by rw [List.length_drop, h.1], by have := h.2.1; omega, ?_⟩
  by_cases hn : k = n
  · left
    rw [List.drop_of_length_le]
    rw [h.1]; omega
  · rcases h.2.2 with e | ⟨b, o, rfl, r⟩
    · left; rw [e]; simp
    · right
      have hc : ¬ cap = k := by have := h.2.1; omega
      refine ⟨b, o + k * 8, ?_, r.drop' k⟩
      unfold fromC
      rw [if_neg hc]
      simp [addr_add]
theorem run_headC (a : Option Addr) (n cap k : Nat) (w : World) (h1 : (k : Int) ≤ (cap : Int)) :
    (Instr.slice 37 (.slice a n cap) none (some (.int .i64 (k : Int))) none).run Tryz.prog w = .ok (.slice a k cap) w := by
  have h0 : (0 : Int) ≤ (k : Int) := by omega
  have z := Tryz.sizeOf45
  cases a with
  | none => simp [go_sem, h1]
  | some a =>
    obtain ⟨b, o, s⟩ := a
    by_cases hc : cap = 0
    · have hk : k = 0 := by omega
      subst hk
      simp [go_sem, hc]
    · simp [go_sem, h1, hc]
theorem run_tailC (a : Option Addr) (n cap k : Nat) (w : World) (h1 : (k : Int) ≤ (n : Int)) :
    (Instr.slice 37 (.slice a n cap) (some (.int .i64 (k : Int))) none none).run Tryz.prog w = .ok (.slice (fromC a cap k) (n - k) (cap - k)) w := by
  have h0 : (0 : Int) ≤ (k : Int) := by omega
  have z := Tryz.sizeOf45
  unfold fromC
  by_cases hc : cap = k
  · subst hc
    cases a <;> simp [go_sem, h1]
  · cases a <;> simp [go_sem, h1, hc]
/-- A slice of changes that the call owns, at the end of append. -/
def AppC (base n : Nat) (d : List Ch) (v : Value) (w : World) : Prop := ∃ s2 c2, v = .slice s2 n c2 ∧ OwnC w base s2 n c2 d ∧ True
theorem AppC.later {base n : Nat} {d : List Ch} {v : Value} {w w' : World} (hg : Grow w w') : AppC base n d v w → AppC base n d v w' := fun ⟨s2, c2, e, h, l⟩ => ⟨s2, c2, e, h.later hg, l⟩
/-- A new slice of one change. -/
def OneC (t : Ch) (v : Value) (w : World) : Prop := ∃ g, v = .slice (some ⟨g, 0, none⟩) 1 1 ∧ IsChs w (some ⟨g, 0, none⟩) 1 1 [t]
theorem OneC.later {t : Ch} {v : Value} {w w' : World} (hg : Grow w w') : OneC t v w → OneC t v w' := fun ⟨g, e, h⟩ => ⟨g, e, h.later hg⟩
theorem oneC_new (w : World) (t : Ch) : OneC t (.slice (some ⟨w.heap.size, 0, none⟩) 1 1) (w.alloc (.cells #[.int .i64 t.l.n, .int .i64 t.l.p, .int .i64 t.t.e, .int .i64 t.t.d, .int .i64 t.t.x, .int .i64 t.t.y, .int .i64 t.t.z, .int .i64 t.n] 45)) := ⟨_, rfl, rfl, Nat.le_refl _, .inr ⟨_, _, rfl, RowCh_one w t⟩⟩
theorem run_apC {ws w : World} (hg : Grow ws w) (rt : TypeId) (s : Option Addr) (n cap : Nat) (d e : List Ch) (hown : OwnC w ws.heap.size s n cap d) (s' : Option Addr) (m c : Nat) (he : IsChs w s' m c e) (hlen : n + m ≤ 1000000000000) :
    ∃ s2 c2 w2, (Builtin.append_ #[37, 37] rt #[.slice s n cap, .slice s' m c]).run Tryz.prog w = .ok (.slice s2 (n + m) c2) w2
      ∧ OwnC w2 ws.heap.size s2 (n + m) c2 (d ++ e) ∧ Grow ws w2 ∧ True := by
  obtain ⟨s2, c2, w2, h1, h2, h3⟩ := run_ap_ch w rt ws.heap.size s n cap d e hown s' m c he hlen hg.size
  exact ⟨s2, c2, w2, h1, h2, (GrewBut.mk h3 fun b hb => (hown.lt b hb).2).grow hg (Nat.le_refl _), trivial⟩
/-- The changes with nothing added. -/
def noneL (l : List Ch) : List Ch := l.map fun x => ⟨x.l, x.t, minI 0 x.n⟩
theorem minI_le (x : Int) : minI 0 x ≤ 0 := by unfold minI; split <;> omega
theorem noneL_step (l : List Ch) (k : Nat) (h : k < l.length) : noneL (l.take (k + 1)) = noneL (l.take k) ++ [⟨l[k].l, l[k].t, minI 0 l[k].n⟩] := by
  unfold noneL
  rw [← List.take_append_getElem h, List.map_append]
  rfl
theorem noneL_n (l : List Ch) : ∀ c ∈ noneL l, c.n ≤ 0 := fun c hc => by
  unfold noneL at hc
  obtain ⟨x, _, rfl⟩ := List.mem_map.1 hc
  exact minI_le x.n
theorem noneL_wf {l : List Ch} (h : ∀ x ∈ l, LcWf x.l) : ∀ c ∈ noneL l, LcWf c.l := fun c hc => by
  unfold noneL at hc
  obtain ⟨x, hx, rfl⟩ := List.mem_map.1 hc
  exact h x hx
theorem noneL_len (l : List Ch) : (noneL l).length = l.length := by unfold noneL; rw [List.length_map]

end Go.Proofs.YtehianjfpmbfpaaGreat
