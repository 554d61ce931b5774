/-
  Plain facts: times that may be, of one depth, are a lattice; no program is named in them.
-/
import Derived.Test.YtbohgfcndclbjabFacts2
namespace Go.Proofs.Ytbohgfcndclbjab
open Go.RowKit
set_option linter.unusedVariables false

theorem maxI_comm (x y : Int) : maxI x y = maxI y x := by unfold maxI; split <;> split <;> omega
theorem minI_comm (x y : Int) : minI x y = minI y x := by unfold minI; split <;> split <;> omega
theorem maxI_assoc (x y z : Int) : maxI (maxI x y) z = maxI x (maxI y z) := by unfold maxI; repeat (first | split | omega)
theorem maxI_self (x : Int) : maxI x x = x := by unfold maxI; split <;> rfl
theorem min_max (x y : Int) : minI x (maxI x y) = x := by unfold minI maxI; repeat (first | split | omega)
theorem max_min (x y : Int) : maxI x (minI x y) = x := by unfold minI maxI; repeat (first | split | omega)
theorem eqB_of {a b : Tm} (h : a = b) : eqB a b = true := by subst h; simp [eqB]
theorem tm_ext {a b : Tm} (h1 : a.e = b.e) (h2 : a.d = b.d) (h3 : a.x = b.x) (h4 : a.y = b.y) (h5 : a.z = b.z) : a = b := by
  cases a; cases b; simp_all
theorem may_zero {t : Tm} (h : mayB t = true) : (¬ 0 < t.d → t.x = 0) ∧ (¬ 1 < t.d → t.y = 0) ∧ (¬ 2 < t.d → t.z = 0) := by
  rw [may_iff] at h
  obtain ⟨-, -, -, -, h5, h6, h7, -, h9, -, h11, -, h13⟩ := h
  exact ⟨fun k => by have := h9 (by omega); omega, fun k => by have := h11 (by omega); omega, fun k => by have := h13 (by omega); omega⟩

theorem join_d {a b : Tm} (ha : mayB a = true) (hd : a.d = b.d) : (joinR a b).d = a.d := by rw [join_eq ha hd]; rfl
theorem meet_d {a b : Tm} (ha : mayB a = true) (hd : a.d = b.d) : (meetR a b).d = a.d := by rw [meet_eq ha hd]; rfl

theorem lat_join_comm {a b : Tm} (ha : mayB a = true) (hb : mayB b = true) (hd : a.d = b.d) : joinR a b = joinR b a := by
  rw [join_eq ha hd, join_eq hb hd.symm]
  refine tm_ext ?_ ?_ ?_ ?_ ?_ <;> simp only [joinT, hd] <;> (try split) <;> first | exact maxI_comm _ _ | rfl
theorem lat_meet_comm {a b : Tm} (ha : mayB a = true) (hb : mayB b = true) (hd : a.d = b.d) : meetR a b = meetR b a := by
  rw [meet_eq ha hd, meet_eq hb hd.symm]
  refine tm_ext ?_ ?_ ?_ ?_ ?_ <;> simp only [meetT, hd] <;> (try split) <;> first | exact minI_comm _ _ | rfl
theorem lat_assoc {a b c : Tm} (ha : mayB a = true) (hb : mayB b = true) (hc : mayB c = true) (hd : a.d = b.d) (he : b.d = c.d) : joinR (joinR a b) c = joinR a (joinR b c) := by
  have h1 := may_join (c := c) ha hb hd
  have h2 := may_join (c := c) hb hc he
  have d1 := join_d ha hd
  have d2 := join_d hb he
  rw [join_eq h1 (d1.trans (hd.trans he)), join_eq ha (hd.trans d2.symm), join_eq ha hd, join_eq hb he]
  refine tm_ext ?_ ?_ ?_ ?_ ?_ <;> simp only [joinT, hd] <;> (try split) <;> first | exact maxI_assoc _ _ _ | rfl
theorem lat_self {a : Tm} (ha : mayB a = true) : joinR a a = a := by
  have hz := may_zero ha
  rw [join_eq ha rfl]
  refine tm_ext ?_ ?_ ?_ ?_ ?_ <;> simp only [joinT]
  · exact maxI_self _
  · split
    · exact maxI_self _
    · exact (hz.1 ‹_›).symm
  · split
    · exact maxI_self _
    · exact (hz.2.1 ‹_›).symm
  · split
    · exact maxI_self _
    · exact (hz.2.2 ‹_›).symm
theorem lat_meet_join {a b : Tm} (ha : mayB a = true) (hb : mayB b = true) (hd : a.d = b.d) : meetR a (joinR a b) = a := by
  have hz := may_zero ha
  rw [meet_eq ha (join_d ha hd).symm, join_eq ha hd]
  refine tm_ext ?_ ?_ ?_ ?_ ?_ <;> simp only [joinT, meetT]
  · exact min_max _ _
  · split
    · exact min_max _ _
    · exact (hz.1 ‹_›).symm
  · split
    · exact min_max _ _
    · exact (hz.2.1 ‹_›).symm
  · split
    · exact min_max _ _
    · exact (hz.2.2 ‹_›).symm
theorem lat_join_meet {a b : Tm} (ha : mayB a = true) (hb : mayB b = true) (hd : a.d = b.d) : joinR a (meetR a b) = a := by
  have hz := may_zero ha
  rw [join_eq ha (meet_d ha hd).symm, meet_eq ha hd]
  refine tm_ext ?_ ?_ ?_ ?_ ?_ <;> simp only [joinT, meetT]
  · exact max_min _ _
  · split
    · exact max_min _ _
    · exact (hz.1 ‹_›).symm
  · split
    · exact max_min _ _
    · exact (hz.2.1 ‹_›).symm
  · split
    · exact max_min _ _
    · exact (hz.2.2 ‹_›).symm

end Go.Proofs.Ytbohgfcndclbjab
