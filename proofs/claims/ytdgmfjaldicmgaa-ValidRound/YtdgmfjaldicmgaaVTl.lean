/-
  What the document's own LessEq of summaries says of two that lead to unlike depths; what comes of Then where it may be done; how a row of numbers that comes in is opened; a summary stored whole. For a program without times.
-/
import Derived.Test.YtdgmfjaldicmgaaVTh
import Derived.Test.YtdgmfjaldicmgaaVMore
import Derived.ChangeSlices
namespace Go.Proofs.Ytdgmfjaldicmgaa
open Go.ChangeShapes Go.WideShapes Go.ChangeAt Go.RowKit Go.Deep
set_option linter.unusedVariables false
set_option linter.unusedSimpArgs false

theorem thenE_zero {s r : Sm} (h : thenE s r = 0) : mayS s = true ∧ mayS r = true ∧ s.t = r.f ∧ mayS (rawS s r) = true := by
  unfold thenE at h
  by_cases h1 : fitS s r = true
  · rw [if_pos h1] at h
    by_cases h2 : mayS (rawS s r) = true
    · unfold fitS at h1
      simp only [Bool.and_eq_true, decide_eq_true_eq] at h1
      exact ⟨h1.1.1, h1.1.2, h1.2, h2⟩
    · rw [if_neg h2] at h; cases h
  · rw [if_neg h1] at h; cases h
theorem sameS_fit {d : Int} (h : 0 ≤ d ∧ d ≤ 3) : sameS d = ⟨d, d, d, 0, 0, 0, 0⟩ ∧ mayS (sameS d) = true := by
  have e : sameS d = ⟨d, d, d, 0, 0, 0, 0⟩ := by unfold sameS; rw [if_pos ((depB_iff _).2 h)]
  refine ⟨e, ?_⟩
  rw [e, mayS_iff]
  exact ⟨⟨h.1, h.2, h.1, h.2⟩, ⟨h.1, Int.le_refl _, Int.le_refl _⟩, ⟨by simp, by simp⟩, ⟨by simp, by simp, by simp⟩, ⟨by simp, by simp, by simp⟩, ⟨by simp, by simp, by simp⟩⟩
set_option maxHeartbeats 1000000 in
theorem refLeS_ne (s r : Sm) (w : World) (h1 : Hid (mayS s = true)) (h2 : Hid (mayS r = true)) (h3 : s.f = r.f) (h4 : Hid (¬ s.t = r.t)) :
    Calls Try.prog 20 #[.agg #[.int .i64 s.f, .int .i64 s.t, .int .i64 s.k, .int .i64 s.ep, .int .i64 s.x, .int .i64 s.y, .int .i64 s.z], .agg #[.int .i64 r.f, .int .i64 r.t, .int .i64 r.k, .int .i64 r.ep, .int .i64 r.x, .int .i64 r.y, .int .i64 r.z]] w fun e w' => e = .returned (.bool false) ∧ Below w.heap.size w w' := by
  have g3 := hide h3
  clear h3
  go_enter Try.func20, Try.ntmps20
  go_wp2_with fail
  refine (refMayY s h1.out _).mono ?_
  rintro e w1 ⟨rfl, hb⟩
  obtain ⟨hc, hf⟩ := bcell hb
  go_wp2_with fail
  refine (refMayY r h2.out _).mono ?_
  rintro e w2 ⟨rfl, hb2⟩
  have hb := Grow.trans' hb hb2
  clear hb2 hc hf
  obtain ⟨hc, hf⟩ := bcell hb
  have h3 := g3.out
  have h4' := h4.out
  go_wp2_with fail
  all_goals go_ret
  all_goals refine ⟨rfl, ?_⟩
  all_goals exact Grow.trans' (Grow.trans' (Grow.alloc' _ _) (Grow.alloc' _ _)) hb
/-- LessEq of a summary and nothing. -/
theorem refLe_same (s : Sm) (d : Int) (hd : 0 ≤ d ∧ d ≤ 3) (h1 : mayS s = true) (h3 : s.f = d) (h5 : s.ep = 0) {q : Bool} (hq : leS s (sameS d) = q) (w : World) :
    Calls Try.prog 20 #[.agg #[.int .i64 s.f, .int .i64 s.t, .int .i64 s.k, .int .i64 s.ep, .int .i64 s.x, .int .i64 s.y, .int .i64 s.z], .agg #[.int .i64 (sameS d).f, .int .i64 (sameS d).t, .int .i64 (sameS d).k, .int .i64 (sameS d).ep, .int .i64 (sameS d).x, .int .i64 (sameS d).y, .int .i64 (sameS d).z]] w fun e w' => e = .returned (.bool q) ∧ Below w.heap.size w w' := by
  obtain ⟨e, hm⟩ := sameS_fit hd
  by_cases h4 : s.t = (sameS d).t
  · rw [← hq]
    exact refLeSY s (sameS d) h1 hm (by rw [e]; exact h3) h4 (by rw [e, h5]; exact Int.le_refl _) (by rw [e]) w
  · have : q = false := by
      rw [← hq]
      simp [leS, h4]
    rw [this]
    exact refLeS_ne s (sameS d) w h1 hm (by rw [e]; exact h3) h4

/-- A slice of ints that came in: it has no element; or it leads to a row of cells, of which the first n are known. -/
def IsInts (w : World) (s : Option Addr) (n cap : Nat) (l : Nat → Int) : Prop :=
  n ≤ cap ∧ (n = 0 ∨ ∃ b o, s = some ⟨b, o, none⟩ ∧ ∀ j, j < n → w.cell? ⟨b, o + j, none⟩ = some (.int .i64 (l j)))
theorem rows_ints {H : Type} {enc : TypeId × Value → H} {W : World} {s : Option Addr} {len cap : Nat} {d : DataW H} {p : List MemPlace} {base : Nat} {spare : Nat → Bool} {held : Bool}
    (h : DataW.Trod enc Try.prog W base spare held 34 (.slice s len cap) d p) : ∃ l, IsInts W s len cap l := by
  obtain ⟨fuel, hf⟩ := h
  rcases open_ints Try.underlying34 Try.underlying3 (by kernel_rfl) hf with ⟨hcs, _⟩ | ⟨x, l, c, zs, hcs, _, hl, hm, hz, _, hcell, hwz⟩
  · simp [Value.cells] at hcs
    obtain ⟨rfl, rfl, rfl⟩ := hcs
    exact ⟨fun _ => 0, Nat.le_refl _, .inl rfl⟩
  · simp [Value.cells] at hcs
    obtain ⟨rfl, rfl, rfl⟩ := hcs
    refine ⟨fun j => zs.getD j 0, hl, ?_⟩
    by_cases h0 : len = 0
    · exact .inl h0
    · right
      have hz' : len ≤ zs.length := by rw [hz]; split <;> omega
      have hc := hcell 0 (by omega)
      obtain ⟨b, off, spot⟩ := x
      have hspot : spot = none := by simpa [Addr.add] using World.cell?_spot hc
      subst hspot
      refine ⟨b, off, rfl, fun j hj => ?_⟩
      have := hcell j (by omega)
      have e : (Addr.mk b off none).add j = ⟨b, off + j, none⟩ := by cases j <;> rfl
      rwa [e] at this
/-- A whole summary stored; the block stays one, the others stand. -/
theorem wpList_putS2 {ops : Array Oper} {rest : List Oper} {o : Oper} {a : Act} {w : World} {Q : Exit → Act → World → Prop} (hgd : o.guard = none) (x y : Operand) (ho : o.op = .store 37 x y) (b : Nat) (t : Sm)
    (hx : a.eval x = .pointer (some ⟨b, 0, none⟩)) (hy : a.eval y = .agg #[.int .i64 t.f, .int .i64 t.t, .int .i64 t.k, .int .i64 t.ep, .int .i64 t.x, .int .i64 t.y, .int .i64 t.z]) (hb : BlkS w b) (W : World) (hg : Grow W w) (hW : W.heap.size ≤ b) (h : ∀ w2, Grow W w2 → BoxS w2 b t → BlkS w2 b → (∀ k, k ≠ b → w2.heap[k]? = w.heap[k]?) → wpList Try.prog ops Q rest (a.put o.dst undef) w2) : wpList Try.prog ops Q (o :: rest) a w := by
  have hb' := hb
  obtain ⟨cs, hb1, hs⟩ := hb
  exact wpList_storeS hgd x y ho b t hx hy hb' (h _ (below_setRow hg hW _) (hb'.box t) ⟨_, setRow_heap w b cs _ _ _ hb1, rfl⟩ (fun k hk => setRow_other w b k _ hk))
theorem tmod_lt {x : Int} {n : Nat} (h : 0 < n) : -(n : Int) < Int.tmod x n ∧ Int.tmod x n < n := by
  rcases Int.lt_or_le x 0 with h1 | h1
  · have e : Int.tmod x n = -(Int.tmod (-x) n) := by rw [Int.neg_tmod]; omega
    rw [Int.tmod_eq_emod_of_nonneg (show 0 ≤ -x by omega)] at e
    have h3 := Int.emod_nonneg (-x) (show (n : Int) ≠ 0 by omega)
    have h4 := Int.emod_lt_of_pos (-x) (show 0 < (n : Int) by omega)
    omega
  · rw [Int.tmod_eq_emod_of_nonneg h1]
    have h3 := Int.emod_nonneg x (show (n : Int) ≠ 0 by omega)
    have h4 := Int.emod_lt_of_pos x (show 0 < (n : Int) by omega)
    omega

end Go.Proofs.Ytdgmfjaldicmgaa
