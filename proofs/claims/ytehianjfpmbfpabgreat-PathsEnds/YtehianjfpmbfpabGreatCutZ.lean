/-
  What l[:k] and l[k:] are, of rows of times and of summaries, wherever they lie.
-/
import Derived.Test.YtehianjfpmbfpabGreatRowVZ
namespace Go.Proofs.YtehianjfpmbfpabGreat
open Go.RowKit
set_option linter.unusedVariables false

/-- Where l[k:] lies. -/
def fromA (a : Option Addr) (cap k K : Nat) : Option Addr := if cap = k then a else a.map (·.add (k * K))
theorem run_headT (a : Option Addr) (n cap k : Nat) (w : World) (h1 : (k : Int) ≤ (cap : Int)) :
    (Instr.slice 45 (.slice a n cap) none (some (.int .i64 (k : Int))) none).run Tryz.prog w = .ok (.slice a k cap) w := by
  have h0 : (0 : Int) ≤ (k : Int) := by omega
  have z := Tryz.sizeOf44
  cases a with
  | none => simp [go_sem, h1]
  | some a =>
    obtain ⟨b, o, s⟩ := a
    by_cases hc : cap = 0
    · have hk : k = 0 := by omega
      subst hk
      simp [go_sem, hc]
    · simp [go_sem, h1, hc]
theorem run_tailT (a : Option Addr) (n cap k : Nat) (w : World) (h1 : (k : Int) ≤ (n : Int)) :
    (Instr.slice 45 (.slice a n cap) (some (.int .i64 (k : Int))) none none).run Tryz.prog w = .ok (.slice (fromA a cap k 5) (n - k) (cap - k)) w := by
  have h0 : (0 : Int) ≤ (k : Int) := by omega
  have z := Tryz.sizeOf44
  unfold fromA
  by_cases hc : cap = k
  · subst hc
    cases a <;> simp [go_sem, h1]
  · cases a <;> simp [go_sem, h1, hc]
theorem IsTms.from' {w : World} {s : Option Addr} {n cap : Nat} {d : List Tm} (h : IsTms w s n cap d) (k : Nat) (hk : k ≤ n) : IsTms w (fromA s cap k 5) (n - k) (cap - k) (d.drop k) := by
  refine ⟨by rw [List.length_drop, h.1], by have := h.2.1; omega, ?_⟩
  by_cases hn : k = n
  · left
    rw [List.drop_of_length_le]
    rw [h.1]; omega
  · rcases h.2.2 with e | ⟨b, o, rfl, r⟩
    · left; rw [e]; simp
    · right
      have hc : ¬ cap = k := by have := h.2.1; omega
      refine ⟨b, o + k * 5, ?_, r.drop' k⟩
      unfold fromA
      rw [if_neg hc]
      simp [addr_add]
theorem run_headM (a : Option Addr) (n cap k : Nat) (w : World) (h1 : (k : Int) ≤ (cap : Int)) :
    (Instr.slice 32 (.slice a n cap) none (some (.int .i64 (k : Int))) none).run Tryz.prog w = .ok (.slice a k cap) w := by
  have h0 : (0 : Int) ≤ (k : Int) := by omega
  have z := Tryz.sizeOf60
  cases a with
  | none => simp [go_sem, h1]
  | some a =>
    obtain ⟨b, o, s⟩ := a
    by_cases hc : cap = 0
    · have hk : k = 0 := by omega
      subst hk
      simp [go_sem, hc]
    · simp [go_sem, h1, hc]
theorem run_tailM (a : Option Addr) (n cap k : Nat) (w : World) (h1 : (k : Int) ≤ (n : Int)) :
    (Instr.slice 32 (.slice a n cap) (some (.int .i64 (k : Int))) none none).run Tryz.prog w = .ok (.slice (fromA a cap k 7) (n - k) (cap - k)) w := by
  have h0 : (0 : Int) ≤ (k : Int) := by omega
  have z := Tryz.sizeOf60
  unfold fromA
  by_cases hc : cap = k
  · subst hc
    cases a <;> simp [go_sem, h1]
  · cases a <;> simp [go_sem, h1, hc]
theorem IsSms.from' {w : World} {s : Option Addr} {n cap : Nat} {d : List Sm} (h : IsSms w s n cap d) (k : Nat) (hk : k ≤ n) : IsSms w (fromA s cap k 7) (n - k) (cap - k) (d.drop k) := by
  refine ⟨by rw [List.length_drop, h.1], by have := h.2.1; omega, ?_⟩
  by_cases hn : k = n
  · left
    rw [List.drop_of_length_le]
    rw [h.1]; omega
  · rcases h.2.2 with e | ⟨b, o, rfl, r⟩
    · left; rw [e]; simp
    · right
      have hc : ¬ cap = k := by have := h.2.1; omega
      refine ⟨b, o + k * 7, ?_, r.drop' k⟩
      unfold fromA
      rw [if_neg hc]
      simp [addr_add]

end Go.Proofs.YtehianjfpmbfpabGreat
