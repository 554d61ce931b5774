/-
  Plain facts of summaries: one that is not less makes more of some time; to go round a loop adds one each time; no program is named in them.
-/
import Derived.Test.YtehianjfpmbfpaaGreatSFacts
namespace Go.Proofs.YtehianjfpmbfpaaGreat
open Go.RowKit
set_option linter.unusedVariables false

def highS (r : Sm) : Bool := decide (500 ≤ r.x) || decide (500 ≤ r.y) || decide (500 ≤ r.z)
def zeroAt (d : Int) : Tm := ⟨0, d, 0, 0, 0⟩
def fiveAt (d : Int) : Tm := ⟨0, d, if 0 < d then 500 else 0, if 1 < d then 500 else 0, if 2 < d then 500 else 0⟩

theorem raw_zero {s : Sm} (h : mayS s = true) (d : Int) : rawT s (zeroAt d) = ⟨s.ep, s.t, s.x, s.y, s.z⟩ := by
  have hm := (mayS_iff s).1 h
  obtain ⟨-, -, -, hx, hy, hz⟩ := hm
  refine tm_eq ?_ rfl ?_ ?_ ?_
  · simp only [rawT, zeroAt]; omega
  · exact compI_zero 0 s.t s.k s.x (fun h => by have := hx.2.2 h; omega)
  · exact compI_zero 1 s.t s.k s.y (fun h => by have := hy.2.2 h; omega)
  · exact compI_zero 2 s.t s.k s.z (fun h => by have := hz.2.2 h; omega)
theorem apply_zero {s : Sm} (h : mayS s = true) : applyE s (zeroAt s.f) = 0 ∧ applyT s (zeroAt s.f) = ⟨s.ep, s.t, s.x, s.y, s.z⟩ := by
  have hm := (mayS_iff s).1 h
  have hr := raw_zero h s.f
  have h1 : mayB (zeroAt s.f) = true := (may_iff' _).2 (by
    obtain ⟨hd, -⟩ := hm
    simp only [zeroAt]; omega)
  have h2 : mayB (rawT s (zeroAt s.f)) = true := by
    rw [hr]
    refine (may_iff' _).2 ?_
    obtain ⟨hd, -, he, hx, hy, hz⟩ := hm
    exact ⟨⟨he.1, he.2, hd.2.2.1, hd.2.2.2⟩, hx, hy, hz⟩
  have := applyE_mk h h1 rfl h2
  rw [hr] at this
  exact this
theorem comp_five (i t sk rk sa ra old : Int) (hi : i < t) (hsk : i < sk) (hrk : rk ≤ i) (ho : old = 500) (ha : 0 ≤ sa) (hr : ra < 500) : ¬ compI i t sk sa old ≤ compI i t rk ra old := by
  unfold compI
  repeat' split
  all_goals omega
/-- P2.4: one that is not less makes more of some time. -/
theorem not_less {s r : Sm} (ms : mayS s = true) (mr : mayS r = true) (hf : s.f = r.f) (ht : s.t = r.t) (hn : leS s r = false)
    (two : leB (applyT s (zeroAt s.f)) (applyT r (zeroAt s.f)) = true) (h : applyE s (fiveAt s.f) = 0) (k : applyE r (fiveAt s.f) = 0)
    (one : leB (applyT s (fiveAt s.f)) (applyT r (fiveAt s.f)) = true) : highS r = true := by
  cases hh : highS r
  · exfalso
    have hh' : r.x < 500 ∧ r.y < 500 ∧ r.z < 500 := by
      have : ¬ highS r = true := by simp [hh]
      simp only [highS, Bool.or_eq_true, decide_eq_true_eq] at this
      omega
    have hm := (mayS_iff s).1 ms
    have a1 := apply_zero ms
    have a2 := apply_zero mr
    rw [← hf] at a2
    rw [a1.2, a2.2, le_iff] at two
    rw [(applyE_ok h).2.2, (applyE_ok k).2.2, le_iff] at one
    dsimp only at two
    obtain ⟨-, -, -, t1, t2, t3, t4⟩ := two
    obtain ⟨-, -, -, -, o2, o3, o4⟩ := one
    have hk := hm.2.1
    have hle : leS s r = true := by
      refine (leS_iff s r).2 ⟨ms, mr, hf, ht, t1, fun c => ⟨fun ⟨p, q⟩ => ?_, t2 c⟩, fun c => ⟨fun ⟨p, q⟩ => ?_, t3 c⟩, fun c => ⟨fun ⟨p, q⟩ => ?_, t4 c⟩⟩
      · have := o2 c
        simp only [rawT] at this
        rw [← ht] at this
        exact comp_five 0 s.t s.k r.k s.x r.x _ c p q (by simp only [fiveAt]; rw [if_pos (by omega)]) hm.2.2.2.1.1 hh'.1 this
      · have := o3 c
        simp only [rawT] at this
        rw [← ht] at this
        exact comp_five 1 s.t s.k r.k s.y r.y _ c p q (by simp only [fiveAt]; rw [if_pos (by omega)]) hm.2.2.2.2.1.1 hh'.2.1 this
      · have := o4 c
        simp only [rawT] at this
        rw [← ht] at this
        exact comp_five 2 s.t s.k r.k s.z r.z _ c p q (by simp only [fiveAt]; rw [if_pos (by omega)]) hm.2.2.2.2.2.1 hh'.2.2 this
    rw [hle] at hn
    cases hn
  · rfl

/-- Having gone round n times. -/
def roundS (d n : Int) : Sm := ⟨d, d + 1, d, 0, if d = 0 then n else 0, if d = 1 then n else 0, if d = 2 then n else 0⟩
theorem enter_round {d : Int} (h0 : 0 ≤ d) (h2 : d ≤ 2) : enterS d = roundS d 0 := by
  have : d = 0 ∨ d = 1 ∨ d = 2 := by omega
  rcases this with rfl | rfl | rfl <;> rfl
theorem feed_round {d n : Int} (h0 : 0 ≤ d) (h2 : d ≤ 2) (hn : 0 ≤ n) (hm : n ≤ 100) : thenE (roundS d n) (feedS (d + 1)) = 0 ∧ thenS (roundS d n) (feedS (d + 1)) = roundS d (n + 1) := by
  have hd : d = 0 ∨ d = 1 ∨ d = 2 := by omega
  have m1 : mayS (roundS d n) = true := (mayS_iff _).2 (by rcases hd with rfl | rfl | rfl <;> simp [roundS] <;> omega)
  have m2 : mayS (feedS (d + 1)) = true := by rcases hd with rfl | rfl | rfl <;> decide
  have e : rawS (roundS d n) (feedS (d + 1)) = roundS d (n + 1) := by
    rcases hd with rfl | rfl | rfl <;> simp [rawS, roundS, feedS, depthB, compI, minI]
  have m3 : mayS (roundS d (n + 1)) = true := (mayS_iff _).2 (by rcases hd with rfl | rfl | rfl <;> simp [roundS] <;> omega)
  have ht : (roundS d n).t = (feedS (d + 1)).f := by rcases hd with rfl | rfl | rfl <;> rfl
  have := thenE_mk m1 m2 ht (by rw [e]; exact m3)
  rw [e] at this
  exact this
theorem leave_round {d n : Int} (h0 : 0 ≤ d) (h2 : d ≤ 2) (hn : 0 ≤ n) (hm : n ≤ 100) : thenE (roundS d n) (leaveS (d + 1)) = 0 ∧ thenS (roundS d n) (leaveS (d + 1)) = sameS d := by
  have hd : d = 0 ∨ d = 1 ∨ d = 2 := by omega
  have m1 : mayS (roundS d n) = true := (mayS_iff _).2 (by rcases hd with rfl | rfl | rfl <;> simp [roundS] <;> omega)
  have m2 : mayS (leaveS (d + 1)) = true := by rcases hd with rfl | rfl | rfl <;> decide
  have e : rawS (roundS d n) (leaveS (d + 1)) = sameS d := by
    rcases hd with rfl | rfl | rfl <;> simp [rawS, roundS, leaveS, sameS, depthB, compI, minI]
  have m3 : mayS (sameS d) = true := by rcases hd with rfl | rfl | rfl <;> decide
  have ht : (roundS d n).t = (leaveS (d + 1)).f := by rcases hd with rfl | rfl | rfl <;> rfl
  have := thenE_mk m1 m2 ht (by rw [e]; exact m3)
  rw [e] at this
  exact this
theorem apply_round {d n : Int} (h0 : 0 ≤ d) (h2 : d ≤ 2) (hn : 0 ≤ n) (hm : n ≤ 100) : applyE (roundS d n) ⟨3, d, 0, 0, 0⟩ = 0 ∧ applyT (roundS d n) ⟨3, d, 0, 0, 0⟩ = ⟨3, d + 1, if d = 0 then n else 0, if d = 1 then n else 0, if d = 2 then n else 0⟩ := by
  have hd : d = 0 ∨ d = 1 ∨ d = 2 := by omega
  have m1 : mayS (roundS d n) = true := (mayS_iff _).2 (by rcases hd with rfl | rfl | rfl <;> simp [roundS] <;> omega)
  have m2 : mayB ⟨3, d, 0, 0, 0⟩ = true := by rcases hd with rfl | rfl | rfl <;> decide
  have e : rawT (roundS d n) ⟨3, d, 0, 0, 0⟩ = ⟨3, d + 1, if d = 0 then n else 0, if d = 1 then n else 0, if d = 2 then n else 0⟩ := by
    rcases hd with rfl | rfl | rfl <;> simp [rawT, roundS, compI]
  have m3 : mayB ⟨3, d + 1, if d = 0 then n else 0, if d = 1 then n else 0, if d = 2 then n else 0⟩ = true := (may_iff' _).2 (by rcases hd with rfl | rfl | rfl <;> simp <;> omega)
  have := applyE_mk m1 m2 rfl (by rw [e]; exact m3)
  rw [e] at this
  exact this

end Go.Proofs.YtehianjfpmbfpaaGreat
