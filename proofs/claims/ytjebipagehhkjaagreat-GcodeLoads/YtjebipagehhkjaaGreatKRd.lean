/-
  What gcode's reader does to the world: small, wide; node, edge and graph by promoted methods; what was there stays as it was, but for the reader.
-/
import Derived.Test.YtjebipagehhkjaaGreatKRw
namespace Go.Proofs.YtjebipagehhkjaaGreat
set_option maxRecDepth 100000
open Go.ChangeShapes Go.WideShapes Go.ChangeAt Go.RowKit Go.Deep Go.Sort
set_option linter.unusedVariables false
set_option linter.unusedSimpArgs false

def XR (T : TypeId) : Bool := T == 45
/-- The bytes that are left, and whether they ended too soon. -/
structure Rd (W w : World) (b : Nat) (d : List UInt8) (sh : Bool) : Prop where
  g : Grow W w
  lb : W.heap.size ≤ b
  st : ∃ s n c, Cel w b 45 s n c sh ∧ IsBy W s n c d
theorem Rd.later {W w w' : World} {b : Nat} {d : List UInt8} {sh : Bool} (hg : Grow w w') (h : Rd W w b d sh) : Rd W w' b d sh := by
  obtain ⟨g, l, s, n, c, h1, h2⟩ := h
  exact ⟨Grow.trans' g hg, l, s, n, c, h1.later hg, h2⟩
theorem Rd.same {W w w' : World} {b : Nat} {d : List UInt8} {sh : Bool} (hg : Grow W w') (hk : w'.heap[b]? = w.heap[b]?) (h : Rd W w b d sh) : Rd W w' b d sh := by
  obtain ⟨g, l, s, n, c, h1, h2⟩ := h
  exact ⟨hg, l, s, n, c, h1.keep hk, h2⟩
def fromU (a : Option Addr) (cap k : Nat) : Option Addr := if cap = k then a else a.map (·.add k)
theorem run_tailU (a : Option Addr) (n cap k : Nat) (w : World) (h1 : (k : Int) ≤ (n : Int)) :
    (Instr.slice 22 (.slice a n cap) (some (.int .i64 (k : Int))) none none).run Tryz.prog w = .ok (.slice (fromU a cap k) (n - k) (cap - k)) w := by
  have h0 : (0 : Int) ≤ (k : Int) := by omega
  have z := Tryz.sizeOf5
  unfold fromU
  by_cases hc : cap = k
  · subst hc
    cases a <;> simp [go_sem, h1]
  · cases a <;> simp [go_sem, h1, hc]
theorem RowU.drop' {w : World} {b o : Nat} {d : List UInt8} (h : RowU w b o d) (k : Nat) : RowU w b (o + k) (d.drop k) := by
  intro j v hj
  have e : flatU (d.drop k) = (flatU d).drop k := by simp [flatU]
  rw [e, List.getElem?_drop] at hj
  have := h (k + j) v hj
  rwa [← Nat.add_assoc] at this
theorem IsBy.from' {w : World} {s : Option Addr} {n cap : Nat} {d : List UInt8} (h : IsBy w s n cap d) (k : Nat) (hk : k ≤ n) : IsBy w (fromU s cap k) (n - k) (cap - k) (d.drop k) := by
  refine ⟨by rw [List.length_drop, h.1], by have := h.2.1; omega, ?_⟩
  by_cases hn : k = n
  · left
    rw [List.drop_of_length_le]
    rw [h.1]; omega
  · rcases h.2.2 with e | ⟨b, o, rfl, r⟩
    · left; rw [e]; simp
    · right
      have hc : ¬ cap = k := by have := h.2.1; omega
      refine ⟨b, o + k, ?_, r.drop' k⟩
      unfold fromU
      rw [if_neg hc]
      simp [addr_add]

theorem rsmall_0 (W w : World) (b : Nat) (sh : Bool) (s : Option Addr) (c : Nat) (hg : Grow W w) (hl : W.heap.size ≤ b) (hC : Cel w b 45 s 0 c sh) (hI : IsBy W s 0 c []) :
    Calls Tryz.prog 23 #[.pointer (some ⟨b, 0, none⟩)] w fun r w' => r = .returned (.int .i64 0) ∧ Rd W w' b [] true ∧ Turn XR w w' := by
  obtain ⟨c0, c1⟩ := hC.cells
  have HC := hide hC
  have HI := hide hI
  have HG := hide hg
  have HL := hide hl
  clear hC hI hg hl
  go_enter Tryz.func23, Tryz.ntmps23
  go_wp2_with (refine wpList_setFlag rfl _ _ rfl b 45 s 0 c sh true rfl rfl HC.out ?_)
  intro w2 hC2 hg2
  have HC2 := hide hC2
  have HG2 := hide hg2
  clear hC2 hg2 c0 c1
  go_wp2_with fail
  go_ret
  exact ⟨rfl, ⟨grow_by HG.out HG2.out HL.out, HL.out, s, 0, c, HC2.out, HI.out⟩, Turn.one HG2.out HC.out (by decide)⟩
theorem rsmall_1 (W w : World) (b : Nat) (sh : Bool) (s : Option Addr) (n c : Nat) (d : List UInt8) (hn : 0 < n) (hg : Grow W w) (hl : W.heap.size ≤ b) (hC : Cel w b 45 s n c sh) (hI : IsBy W s n c d) :
    Calls Tryz.prog 23 #[.pointer (some ⟨b, 0, none⟩)] w fun r w' => r = .returned (.int .i64 ((atB d 0).toNat : Int)) ∧ Rd W w' b (d.drop 1) sh ∧ Turn XR w w' := by
  obtain ⟨c0, c1⟩ := hC.cells
  have HC := hide hC
  have HI := hide hI
  have HG := hide hg
  have HL := hide hl
  obtain ⟨bb, o, rfl, hx⟩ := (hI.later hg).at 0 hn
  have hu := toNat_u8 (atB d 0)
  obtain ⟨u, hu'⟩ : ∃ u : Int, u = ((atB d 0).toNat : Int) := ⟨_, rfl⟩
  rw [← hu'] at hx hu ⊢
  rw [Nat.add_zero] at hx
  have hi0 : (n : Int) ≠ 0 := by omega
  have hi1 : (0 : Int) < (n : Int) := by omega
  have kt : ∀ w, (Instr.slice 22 (.slice (some ⟨bb, o, none⟩) n c) (some (.int .i64 1)) none none).run Tryz.prog w = .ok (.slice (fromU (some ⟨bb, o, none⟩) c 1) (n - 1) (c - 1)) w := fun w => run_tailU (some ⟨bb, o, none⟩) n c 1 w (by omega)
  have hq1 := hu.1
  have hq2 := hu.2
  have HN := hide hn
  clear hC hI hg hl hu' hu hn
  go_enter Tryz.func23, Tryz.ntmps23
  go_wp2_with (refine wpList_setRow rfl _ _ rfl b 45 (some ⟨bb, o, none⟩) n c sh (fromU (some ⟨bb, o, none⟩) c 1) (n - 1) (c - 1) rfl rfl HC.out ?_)
  intro w2 hC2 hg2
  have HC2 := hide hC2
  have HG2 := hide hg2
  clear hC2 hg2 c0 c1 kt
  go_wp2_with fail
  go_ret
  exact ⟨rfl, ⟨grow_by HG.out HG2.out HL.out, HL.out, _, _, _, HC2.out, HI.out.from' 1 HN.out⟩, Turn.one HG2.out HC.out (by decide)⟩
theorem rsmall_any (W w : World) (b : Nat) (d : List UInt8) (sh : Bool) (hR : Rd W w b d sh) :
    Calls Tryz.prog 23 #[.pointer (some ⟨b, 0, none⟩)] w fun r w' => r = .returned (.int .i64 ((atB d 0).toNat : Int)) ∧ Rd W w' b (d.drop 1) (sh || decide (d.length < 1)) ∧ Turn XR w w' := by
  obtain ⟨g, l, s, n, c, h1, h2⟩ := hR
  cases n with
  | zero =>
    have hd : d = [] := List.eq_nil_of_length_eq_zero h2.1
    subst hd
    have := rsmall_0 W w b sh s c g l h1 h2
    simpa [atB] using this
  | succ k =>
    have hl : ¬ d.length < 1 := by rw [h2.1]; omega
    rw [decide_eq_false hl, Bool.or_false]
    exact rsmall_1 W w b sh s (k + 1) c d (by omega) g l h1 h2
theorem atB_tail (d : List UInt8) : atB d.tail 0 = atB d 1 := by rw [← List.drop_one, atB_drop]
theorem num_bits (h l : UInt8) : wrap64 (IntKind.i16.wrap (bits .or .i64 (wrap64 ((h.toNat : Int) * 256)) (l.toNat : Int))) = num h l := by
  have h1 := h.toNat_lt
  have h2 := l.toNat_lt
  have e1 : wrap64 ((h.toNat : Int) * 256) = ((h.toNat * 256 : Nat) : Int) := by rw [IntWalk.wrap64_in _ (by omega)]; omega
  have e2 : (h.toNat * 256) ||| l.toNat = h.toNat * 256 + l.toNat := by
    have := Nat.shiftLeft_add_eq_or_of_lt (i := 8) (b := l.toNat) (by omega) h.toNat
    rw [Nat.shiftLeft_eq] at this
    exact this.symm
  have e3 : bits .or .i64 ((h.toNat * 256 : Nat) : Int) (l.toNat : Int) = ((h.toNat * 256 + l.toNat : Nat) : Int) := by
    show IntKind.i64.wrap ((BitVec.ofInt 64 ((h.toNat * 256 : Nat) : Int) ||| BitVec.ofInt 64 (l.toNat : Int)).toNat : Int) = _
    rw [BitVec.toNat_or, BitVec.ofInt_natCast, BitVec.ofInt_natCast, BitVec.toNat_ofNat, BitVec.toNat_ofNat, Nat.mod_eq_of_lt (by omega), Nat.mod_eq_of_lt (by omega), e2, IntKind.wrap_i64]
    omega
  rw [e1, e3]
  have e4 : IntKind.i16.wrap ((h.toNat * 256 + l.toNat : Nat) : Int) = num h l := by
    unfold num
    simp [IntKind.wrap, IntKind.signed, IntKind.bits]
    split <;> omega
  rw [e4, IntWalk.wrap64_in]
  unfold num
  split <;> omega
theorem rwide_any (W w : World) (b : Nat) (d : List UInt8) (sh : Bool) (hR : Rd W w b d sh) :
    Calls Tryz.prog 40 #[.pointer (some ⟨b, 0, none⟩)] w fun r w' => r = .returned (.int .i64 (num (atB d 0) (atB d 1))) ∧ Rd W w' b (d.drop 2) (sh || decide (d.length < 2)) ∧ Turn XR w w' := by
  have HR := hide hR
  clear hR
  go_enter Tryz.func40, Tryz.ntmps40
  go_wp2_with fail
  refine (rsmall_any W w b d sh HR.out).mono ?_
  rintro _ w1 ⟨rfl, hR1, hT1⟩
  have HR1 := hide hR1
  have HT1 := hide hT1
  clear hR1 hT1
  go_wp2_with fail
  refine (rsmall_any W w1 b _ _ HR1.out).mono ?_
  rintro _ w2 ⟨rfl, hR2, hT2⟩
  have HR2 := hide hR2
  have HT2 := hide (HT1.out.trans hT2)
  clear hR2 hT2
  have hn : wrap64 (IntKind.i16.wrap (bits .or .i64 (wrap64 (((atB d 0).toNat : Int) * 256)) ((atB d.tail 0).toNat : Int))) = num (atB d 0) (atB d 1) := by rw [num_bits, atB_tail]
  have HN := hide hn
  clear hn
  go_wp2_with fail
  go_ret
  refine ⟨ret_int HN.out, ?_, HT2.out⟩
  have := HR2.out
  rw [List.drop_drop] at this
  have e : (sh || decide (d.length < 1) || decide ((d.drop 1).length < 1)) = (sh || decide (d.length < 2)) := by
    rw [List.length_drop, Bool.or_assoc]
    congr 1
    by_cases h1 : d.length < 1 <;> by_cases h2 : d.length < 2 <;> simp [h1, h2] <;> omega
  rw [e] at this
  exact this
end Go.Proofs.YtjebipagehhkjaaGreat
