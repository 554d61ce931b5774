/-
  What bag.Keys does to the world: of every row its keys, rising, each once, in a row of its own; what was there stays as it was.
-/
import Derived.Test.YtkmgbhehhdjmlaaGSrt
import Derived.Test.YtkmgbhehhdjmlaaGInt
namespace Go.Proofs.Ytkmgbhehhdjmlaa
set_option maxRecDepth 100000
open Go.RowKit Go.Sort Go.Shelf
set_option linter.unusedVariables false
set_option linter.unusedSimpArgs false

theorem wpList_apd_int {w : World} {ops : Array Oper} {rest : List Oper} {o : Oper} {a : Act} {Q : Exit → Act → World → Prop} (hgd : o.guard = none) (s x : Operand)
    (ho : o.op = .call { callee := .builtin .append, args := #[s, x], argTypes := #[34, 34] })
    (base : Nat) (s0 : Option Addr) (n cap : Nat) (d e : List Int) (hs : a.eval s = .slice s0 n cap) (hown : OwnIV w base s0 n cap d)
    (s' : Option Addr) (m c : Nat) (hx : a.eval x = .slice s' m c) (he : IsIns w s' m c e) (hlen : n + m ≤ 1000000) (hbase : base ≤ w.heap.size)
    (h : ∀ s2 c2 w2, OwnIV w2 base s2 (n + m) c2 (d ++ e) → GrewBut w w2 base s0 → wpList Try.prog ops Q rest (a.put o.dst (.slice s2 (n + m) c2)) w2) :
    wpList Try.prog ops Q (o :: rest) a w := by
  obtain ⟨s2, c2, w2, h0, h1, h2, _⟩ := run_api w o.type base s0 n cap d e hown s' m c he hlen hbase
  refine wpList_plain hgd fun K hK => ?_
  unfold Oper.wp execOp
  simp only [ho, resolve, invoke, builtin, Sem.run_bind, Sem.run_pure, Result.andThen_ok, List.map_toArray, List.map_cons, List.map_nil, hs, hx, h0]
  exact hK _ _ (h s2 c2 w2 h1 ⟨h2, fun b hb => (hown.lt b hb).2⟩)
theorem OwnIV.some' {w : World} {base n cap : Nat} {s : Option Addr} {d : List Int} (h : OwnIV w base s n cap d) (hn : 0 < n) : ∃ g, s = some ⟨g, 0, none⟩ := by
  rcases h.2.1.2 with ⟨h', h''⟩ | ⟨g, cap', cur, h', _⟩
  · have : n = 0 := h''
    omega
  · simp only [Value.slice.injEq] at h'
    exact ⟨g, h'.1⟩
theorem OwnIV.holds {w : World} {base n cap g : Nat} {d : List Int} (h : OwnIV w base (some ⟨g, 0, none⟩) n cap d) : Holds (Value.int .i64) w g 0 d.toArray := by
  intro j hj
  have hj' : j < d.length := by simpa using hj
  have hl := h.1
  refine ⟨?_, ?_⟩
  · have := World.ownsRow.cellAt h.2.1 j (by omega)
    rw [Nat.zero_add, this]
    simp [flatI, hj']
  · rw [Nat.zero_add]
    exact World.ownsRow.frozenAt h.2.1 j
theorem make_ints (w : World) (m n : Nat) (hm : m ≤ n) (h : n ≤ 1000000) : ∃ M : Array Value, M.size = n * 1 ∧
    (Instr.makeSlice 34 (.int .i64 m) (.int .i64 n)).run Try.prog w = .ok (.slice (some ⟨w.heap.size, 0, none⟩) m n) (w.alloc (.cells M 3)) := by
  obtain ⟨i, hi, hz, hs, hb⟩ := info_int
  have hr := run_make (P := Try.prog) w 34 3 i _ Try.underlying34 hi hz .i64 .i64 m n (by omega) (by omega) (by rw [hb]; omega) (by omega)
  simp only [Int.toNat_natCast, hs] at hr
  exact ⟨_, size_madeCells _ _, hr⟩
theorem below_putI (B : Nat) (W : World) (g q : Nat) (d : Array Int) (os : Array Obj) (hg : B ≤ g) (hs : B ≤ W.heap.size) : Below B W (grow (putRow (Value.int .i64) (Sort.ahead W q) g 0 d) os) := by
  refine ⟨rfl, rfl, rfl, ?_, fun j hj => ?_⟩
  · simp [grow, putRow, mapBlock, Sort.ahead]
  · simp only [grow]
    rw [Array.getElem?_append_left (by simp [putRow, mapBlock, Sort.ahead]; omega)]
    simp [putRow, mapBlock, Sort.ahead, Array.getElem?_modify, show g ≠ j by omega]
theorem below_putJ (B : Nat) (W : World) (g q : Nat) (d : Array Int) (hg : B ≤ g) (hs : B ≤ W.heap.size) : Below B W (putRow (Value.int .i64) (Sort.ahead W q) g 0 d) := by
  refine ⟨rfl, rfl, rfl, ?_, fun j hj => ?_⟩
  · simp [putRow, mapBlock, Sort.ahead]
  · simp [putRow, mapBlock, Sort.ahead, Array.getElem?_modify, show g ≠ j by omega]
/-- slices.Sort of numbers. -/
theorem sortInts_at (g cap n base : Nat) (d : List Int) (w : World) (hbig : n ≤ 1000000) (hb : base ≤ g) (hO : OwnIV w base (some ⟨g, 0, none⟩) n cap d) :
    Calls Try.prog 32 #[.slice (some ⟨g, 0, none⟩) n cap] w fun e w' => e = .returned (.tuple #[]) ∧ Below base w w' ∧ Holds (Value.int .i64) w' g 0 (d.mergeSort fun x y => decide (x ≤ y)).toArray ∧ g < w'.heap.size := by
  have hlt := (hO.lt _ rfl).1
  have hH := hO.holds
  have hl := hO.1
  have hcon := Any.slices_Sort_int Try.sortI g 0 cap d w hH hlt (by omega)
  rw [hl] at hcon
  refine Calls.mono hcon ?_
  rintro e w' ⟨rfl, q, os, rfl⟩
  have hlt' : g < (putRow (Value.int .i64) (Sort.ahead w q) g 0 (d.mergeSort fun x y => decide (x ≤ y)).toArray).heap.size := by simpa [putRow, mapBlock, Sort.ahead] using hlt
  refine ⟨rfl, below_putI _ _ _ _ _ _ hb (by have : g < w.heap.size := hlt; omega), holds_grow _ _ os g 0 _ hlt' (holds_putRow _ _ g 0 _ _ (holds_ahead _ w q g 0 _ hH) (by simp)), ?_⟩
  simp [grow, Array.size_append] at hlt' ⊢
  omega
/-- slices.Compact of numbers. -/
theorem compactInts_at (g cap n base : Nat) (d : List Int) (w : World) (hbig : n ≤ 1000000) (hcap : n ≤ cap) (hl : d.length = n) (hb : base ≤ g) (hlt : g < w.heap.size) (hH : Holds (Value.int .i64) w g 0 d.toArray) :
    Calls Try.prog 33 #[.slice (some ⟨g, 0, none⟩) n cap] w fun e w' => ∃ n2, e = .returned (.slice (some ⟨g, 0, none⟩) n2 cap) ∧ Below base w w' ∧ IsIns w' (some ⟨g, 0, none⟩) n2 cap (Lib.compact d) := by
  have hcon := Any.slices_Compact_int Try.compactI g 0 cap d w hH (by omega) (by omega)
  rw [hl] at hcon
  refine Calls.mono hcon ?_
  rintro e w' ⟨rfl, q, rfl⟩
  have hle := compact_len d
  have hsz : (Lib.compact d ++ List.replicate (n - (Lib.compact d).length) 0).toArray.size = d.toArray.size := by simp; omega
  have hH2 := holds_putRow (Value.int .i64) (Sort.ahead w q) g 0 d.toArray (Lib.compact d ++ List.replicate (n - (Lib.compact d).length) 0).toArray (holds_ahead _ w q g 0 _ hH) hsz
  refine ⟨_, rfl, below_putJ _ _ _ _ _ hb (by omega), rfl, by omega, .inr ⟨g, 0, rfl, fun j hj => ?_⟩⟩
  have := (hH2 j (by simp; omega)).1
  rw [this]
  simp [getElem!_pos, hj, List.getElem_append_left hj, show j < (Lib.compact d).length + (n - (Lib.compact d).length) by omega]

set_option maxHeartbeats 2000000 in
theorem keys_at (s : Option Addr) (n cap : Nat) (d : List Rc) (w : World) (hbig : n ≤ 900000) (hd : IsRcs w s n cap d) :
    Calls Try.prog 22 #[.slice s n cap] w fun e w' => ∃ s2 n2 c2, e = .returned (.slice s2 n2 c2) ∧ Grow w w' ∧ IsIns w' s2 n2 c2 (keysR d) := by
  have HI := hide hd
  obtain ⟨M, hM, hmk0⟩ := make_ints w 0 n (Nat.zero_le _) (by omega)
  have hmk : (Instr.makeSlice 34 (.int .i64 0) (.int .i64 n)).run Try.prog w = .ok (.slice (some ⟨w.heap.size, 0, none⟩) 0 n) (w.alloc (.cells M 3)) := hmk0
  clear hmk0
  have O0 : Hid (OwnIV (w.alloc (.cells M 3)) w.heap.size (some ⟨w.heap.size, 0, none⟩) 0 n []) := hide ⟨rfl, ⟨rfl, .inr ⟨w.heap.size, n, M, rfl, Nat.le_refl _, (MapKept.heap_alloc w _).1, Nat.zero_le _, by simp [maxLen]; omega, hM, by simp [flatI]⟩⟩, fun h => by cases h⟩
  have G0 : Hid (Grow w (w.alloc (.cells M 3))) := hide (Grow.alloc' _ _)
  clear hd hM
  go_enter Try.func22, Try.ntmps22
  go_wp2_with fail
  clear hmk
  go_loopw [3, 11] (fun v i wr => ∃ (k g c : Nat), k ≤ n ∧ v = .slice (some ⟨g, 0, none⟩) k c ∧ i = .int .i64 k ∧ Grow w wr ∧ OwnIV wr w.heap.size (some ⟨g, 0, none⟩) k c ((d.take k).map (·.k))) (fun _ i _ => n - (intOf i).toNat)
  case atStart => exact ⟨0, _, _, Nat.zero_le _, rfl, rfl, G0.out, O0.out⟩
  case round =>
    obtain ⟨k, g, c, hk, rfl, rfl, hg, hO⟩ := hrel
    have HG := hide hg
    have HO := hide hO
    have hsz := hg.size
    clear hO
    by_cases hlt : k < n
    · have hkd : k < d.length := by rw [HI.out.1]; exact hlt
      have hne : ¬ d = [] := fun h => by rw [h] at hkd; simp at hkd
      obtain ⟨b, o, rfl, hr1⟩ := HI.out.2.2.resolve_left hne
      obtain ⟨p0, p1⟩ := (hr1.later hg).at k hkd
      obtain ⟨x, hx⟩ : ∃ x, x = d[k] := ⟨_, rfl⟩
      rw [← hx] at p0 p1
      have HX : Hid ((d.take (k + 1)).map (·.k) = (d.take k).map (·.k) ++ [x.k]) := hide (by rw [hx, ← List.take_append_getElem hkd, List.map_append]; rfl)
      have hi1 : (0 : Int) ≤ (k : Int) := by omega
      have hi2 : (k : Int) < (n : Int) := by omega
      clear hne hr1 hx hkd hg
      have KX : Hid (Box (wr.alloc (.cells #[.int .i64 x.k, .int .i64 x.v] 24)) wr.heap.size x) := hide (Box.new _ _)
      obtain ⟨q0, q1⟩ := KX.out
      have hz : (wr.alloc (.cells #[.int .i64 x.k, .int .i64 x.v] 24)).heap.size = wr.heap.size + 1 := by simp
      have R1 : Hid (IsIns ((wr.alloc (.cells #[.int .i64 x.k, .int .i64 x.v] 24)).alloc (.cells #[.int .i64 x.k] 3)) (some ⟨wr.heap.size + 1, 0, none⟩) 1 1 [x.k]) :=
        hide (by rw [← hz]; exact ⟨rfl, Nat.le_refl _, .inr ⟨_, _, rfl, fun j hj => by simp at hj; subst hj; simp [go_sem]⟩⟩)
      have GB : Hid (Grow w ((wr.alloc (.cells #[.int .i64 x.k, .int .i64 x.v] 24)).alloc (.cells #[.int .i64 x.k] 3))) := hide (Grow.trans' (Grow.trans' HG.out (Grow.alloc' _ _)) (Grow.alloc' _ _))
      have OB : Hid (OwnIV ((wr.alloc (.cells #[.int .i64 x.k, .int .i64 x.v] 24)).alloc (.cells #[.int .i64 x.k] 3)) w.heap.size (some ⟨g, 0, none⟩) k c ((d.take k).map (·.k))) := hide ((HO.out.later (Grow.alloc' _ _)).later (Grow.alloc' _ _))
      clear hz
      go_wp2_with (at_builtin; refine wpList_apd_int rfl _ _ rfl w.heap.size (some ⟨g, 0, none⟩) k c ((d.take k).map (·.k)) [x.k] rfl OB.out (some ⟨wr.heap.size + 1, 0, none⟩) 1 1 rfl R1.out (by omega) GB.out.size ?_)
      intro s2 c2 w2 h2 gb
      obtain ⟨g2, rfl⟩ := h2.some' (by omega)
      have G2 := hide (gb.grow GB.out (Nat.le_refl _))
      have O2 : Hid (OwnIV w2 w.heap.size (some ⟨g2, 0, none⟩) (k + 1) c2 ((d.take (k + 1)).map (·.k))) := hide (by rw [HX.out, List.map_take]; exact h2)
      clear h2 gb OB GB R1 KX q0 q1 p0 p1
      go_wp2_with fail
      go_roundw
      case rel => exact ⟨k + 1, g2, c2, by omega, rfl, by go_num, G2.out, O2.out⟩
      case measure => simp [intOf]; omega
    · have hkn : k = n := by omega
      have hall : d.take k = d := List.take_of_length_le (by rw [HI.out.1]; omega)
      have hbg : w.heap.size ≤ g := (HO.out.lt _ rfl).2
      have hkc : k ≤ c := HO.out.is.cap
      have C := hide (sortInts_at g c k w.heap.size ((d.take k).map (·.k)) wr (by omega) hbg HO.out)
      rw [hall] at C
      have HL : Hid ((d.map (·.k)).length = k) := hide (by rw [List.length_map, HI.out.1]; omega)
      clear hall hg
      subst hkn
      go_wp2_with fail
      refine (C.out).mono ?_
      rintro e w2 ⟨rfl, hb, hH, hgl⟩
      have G2 := hide (Below.trans HG.out hb)
      have C2 := hide (compactInts_at g c k w.heap.size _ w2 (by omega) hkc (by rw [List.length_mergeSort, HL.out]) hbg hgl hH)
      clear hb hH hgl C
      go_wp2_with fail
      refine (C2.out).mono ?_
      rintro e w3 ⟨n2, rfl, hb, hI⟩
      have G3 := hide (Below.trans G2.out hb)
      have I3 := hide hI
      clear hb hI
      go_wp2_with fail
      go_ret
      exact ⟨_, _, _, rfl, G3.out, I3.out⟩

end Go.Proofs.Ytkmgbhehhdjmlaa
