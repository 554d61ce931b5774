/-
  What bag.Keys does to the world: of every row its keys, rising, each once, in a row of its own; what was there stays as it was.
-/
import Derived.Test.YthkkjhjbojbbaaaGSrt
import Derived.Test.YthkkjhjbojbbaaaGInt
namespace Go.Proofs.Ythkkjhjbojbbaaa
set_option maxRecDepth 100000
open Go.RowKit Go.Sort Go.Shelf
set_option linter.unusedVariables false
set_option linter.unusedSimpArgs false

theorem wpList_apd_int {w : World} {ops : Array Oper} {rest : List Oper} {o : Oper} {a : Act} {Q : Exit → Act → World → Prop} (hgd : o.guard = none) (s x : Operand)
    (ho : o.op = .call { callee := .builtin .append, args := #[s, x], argTypes := #[39, 39] })
    (base : Nat) (s0 : Option Addr) (n cap : Nat) (d e : List Int) (hs : a.eval s = .slice s0 n cap) (hown : OwnIV w base s0 n cap d)
    (s' : Option Addr) (m c : Nat) (hx : a.eval x = .slice s' m c) (he : IsIns w s' m c e) (hlen : n + m ≤ 1000000) (hbase : base ≤ w.heap.size)
    (h : ∀ s2 c2 w2, OwnIV w2 base s2 (n + m) c2 (d ++ e) → GrewBut w w2 base s0 → wpList Try.prog ops Q rest (a.put o.dst (.slice s2 (n + m) c2)) w2) :
    wpList Try.prog ops Q (o :: rest) a w := by
  obtain ⟨s2, c2, w2, h0, h1, h2, _⟩ := run_api w o.type base s0 n cap d e hown s' m c he hlen hbase
  refine wpList_plain hgd fun K hK => ?_
  unfold Oper.wp execOp
  simp only [ho, resolve, invoke, builtin, Sem.run_bind, Sem.run_pure, Result.andThen_ok, List.map_toArray, List.map_cons, List.map_nil, hs, hx, h0]
  exact hK _ _ (h s2 c2 w2 h1 ⟨h2, fun b hb => (hown.lt b hb).2⟩)
theorem OwnIV.some' {w : World} {base n cap : Nat} {s : Option Addr} {d : List Int} (h : OwnIV w base s n cap d) (hn : 0 < n) : ∃ g, s = some ⟨g, 0, none⟩ := by
  rcases h.2.1.2 with ⟨h', h''⟩ | ⟨g, cap', cur, h', _⟩
  · have : n = 0 := h''
    omega
  · simp only [Value.slice.injEq] at h'
    exact ⟨g, h'.1⟩

end Go.Proofs.Ythkkjhjbojbbaaa
