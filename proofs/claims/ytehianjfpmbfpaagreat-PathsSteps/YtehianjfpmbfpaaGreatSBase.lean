/-
  Summaries as plain data, what is said of them, and plain facts; no program is named in them.
-/
import Derived.Test.YtehianjfpmbfpaaGreatFacts
namespace Go.Proofs.YtehianjfpmbfpaaGreat
open Go.RowKit
set_option linter.unusedVariables false

/-- A summary: the depths that it leads from and to, how many counters it keeps, the epochs and the counters that it adds. -/
structure Sm where
  f : Int
  t : Int
  k : Int
  ep : Int
  x : Int
  y : Int
  z : Int

def mayS (s : Sm) : Bool :=
  depthB s.f && depthB s.t && decide (0 ≤ s.k) && decide (s.k ≤ s.f) && decide (s.k ≤ s.t) && decide (0 ≤ s.ep) && decide (s.ep ≤ 1048576)
    && decide (0 ≤ s.x) && decide (0 ≤ s.y) && decide (0 ≤ s.z)
    && decide (s.x ≤ if 0 < s.t then 1000 else 0) && decide (s.y ≤ if 1 < s.t then 1000 else 0) && decide (s.z ≤ if 2 < s.t then 1000 else 0)
def eqS (s r : Sm) : Bool := s.f == r.f && s.t == r.t && s.k == r.k && s.ep == r.ep && s.x == r.x && s.y == r.y && s.z == r.z
def sameS (d : Int) : Sm := if depthB d = true then ⟨d, d, d, 0, 0, 0, 0⟩ else ⟨0, 0, 0, 0, 0, 0, 0⟩
def enterS (d : Int) : Sm := if depthB d = true ∧ d ≠ 3 then ⟨d, d + 1, d, 0, 0, 0, 0⟩ else ⟨0, 0, 0, 0, 0, 0, 0⟩
def leaveS (d : Int) : Sm := if depthB d = true ∧ d ≠ 0 then ⟨d, d - 1, d - 1, 0, 0, 0, 0⟩ else ⟨0, 0, 0, 0, 0, 0, 0⟩
def feedS (d : Int) : Sm := if depthB d = true ∧ d ≠ 0 then ⟨d, d, d, 0, if d = 1 then 1 else 0, if d = 2 then 1 else 0, if d = 3 then 1 else 0⟩ else ⟨0, 0, 0, 0, 0, 0, 0⟩
/-- One counter behind a summary: of a time's counter, or of what another summary adds. -/
def compI (i to keep add old : Int) : Int := if i < to then if i < keep then old + add else add else 0
def rawT (s : Sm) (t : Tm) : Tm := ⟨t.e + s.ep, s.t, compI 0 s.t s.k s.x t.x, compI 1 s.t s.k s.y t.y, compI 2 s.t s.k s.z t.z⟩
def fitT (s : Sm) (t : Tm) : Bool := mayS s && mayB t && decide (t.d = s.f)
def applyE (s : Sm) (t : Tm) : Int := if fitT s t = true then if mayB (rawT s t) = true then 0 else 4 else 1
def applyT (s : Sm) (t : Tm) : Tm := if applyE s t = 0 then rawT s t else ⟨0, 0, 0, 0, 0⟩
def rawS (s r : Sm) : Sm := ⟨s.f, r.t, minI s.k r.k, s.ep + r.ep, compI 0 r.t r.k r.x s.x, compI 1 r.t r.k r.y s.y, compI 2 r.t r.k r.z s.z⟩
def fitS (s r : Sm) : Bool := mayS s && mayS r && decide (s.t = r.f)
def thenE (s r : Sm) : Int := if fitS s r = true then if mayS (rawS s r) = true then 0 else 4 else 1
def thenS (s r : Sm) : Sm := if thenE s r = 0 then rawS s r else ⟨0, 0, 0, 0, 0, 0, 0⟩
def leS (s r : Sm) : Bool := mayS s && mayS r && decide (s.f = r.f) && decide (s.t = r.t) && decide (s.ep ≤ r.ep)
    && (decide (s.t ≤ 0) || !(decide (0 < s.k) && decide (r.k ≤ 0)) && decide (s.x ≤ r.x))
    && (decide (s.t ≤ 1) || !(decide (1 < s.k) && decide (r.k ≤ 1)) && decide (s.y ≤ r.y))
    && (decide (s.t ≤ 2) || !(decide (2 < s.k) && decide (r.k ≤ 2)) && decide (s.z ≤ r.z))
def orderS (s r : Sm) : Int :=
  if cmpI s.f r.f ≠ 0 then cmpI s.f r.f else if cmpI s.t r.t ≠ 0 then cmpI s.t r.t else if cmpI s.k r.k ≠ 0 then cmpI s.k r.k else if cmpI s.ep r.ep ≠ 0 then cmpI s.ep r.ep
  else if cmpI s.x r.x ≠ 0 then cmpI s.x r.x else if cmpI s.y r.y ≠ 0 then cmpI s.y r.y else cmpI s.z r.z

theorem cap_iff (x t i : Int) : (x ≤ if i < t then 1000 else 0) ↔ (i < t → x ≤ 1000) ∧ (t ≤ i → x ≤ 0) := by
  split <;> omega
theorem mayS_iff (s : Sm) : mayS s = true ↔ (0 ≤ s.f ∧ s.f ≤ 3 ∧ 0 ≤ s.t ∧ s.t ≤ 3) ∧ (0 ≤ s.k ∧ s.k ≤ s.f ∧ s.k ≤ s.t) ∧ (0 ≤ s.ep ∧ s.ep ≤ 1048576)
    ∧ (0 ≤ s.x ∧ (0 < s.t → s.x ≤ 1000) ∧ (s.t ≤ 0 → s.x ≤ 0)) ∧ (0 ≤ s.y ∧ (1 < s.t → s.y ≤ 1000) ∧ (s.t ≤ 1 → s.y ≤ 0)) ∧ (0 ≤ s.z ∧ (2 < s.t → s.z ≤ 1000) ∧ (s.t ≤ 2 → s.z ≤ 0)) := by
  simp only [mayS, depthB, Bool.and_eq_true, decide_eq_true_eq, cap_iff]
  constructor
  · rintro ⟨⟨⟨⟨⟨⟨⟨⟨⟨⟨⟨⟨⟨h1, h2⟩, h3, h4⟩, h5⟩, h6⟩, h7⟩, h8⟩, h9⟩, h10⟩, h11⟩, h12⟩, h13⟩, h14⟩, h15⟩
    exact ⟨⟨h1, h2, h3, h4⟩, ⟨h5, h6, h7⟩, ⟨h8, h9⟩, ⟨h10, h13⟩, ⟨h11, h14⟩, ⟨h12, h15⟩⟩
  · rintro ⟨⟨h1, h2, h3, h4⟩, ⟨h5, h6, h7⟩, ⟨h8, h9⟩, ⟨h10, h13⟩, ⟨h11, h14⟩, ⟨h12, h15⟩⟩
    exact ⟨⟨⟨⟨⟨⟨⟨⟨⟨⟨⟨⟨⟨h1, h2⟩, h3, h4⟩, h5⟩, h6⟩, h7⟩, h8⟩, h9⟩, h10⟩, h11⟩, h12⟩, h13⟩, h14⟩, h15⟩
theorem may_iff' (t : Tm) : mayB t = true ↔ (0 ≤ t.e ∧ t.e ≤ 1048576 ∧ 0 ≤ t.d ∧ t.d ≤ 3)
    ∧ (0 ≤ t.x ∧ (0 < t.d → t.x ≤ 1000) ∧ (t.d ≤ 0 → t.x ≤ 0)) ∧ (0 ≤ t.y ∧ (1 < t.d → t.y ≤ 1000) ∧ (t.d ≤ 1 → t.y ≤ 0)) ∧ (0 ≤ t.z ∧ (2 < t.d → t.z ≤ 1000) ∧ (t.d ≤ 2 → t.z ≤ 0)) := by
  rw [may_iff]
  constructor
  · rintro ⟨h1, h2, h3, h4, h5, h6, h7, h8, h9, h10, h11, h12, h13⟩
    exact ⟨⟨h1, h2, h3, h4⟩, ⟨h5, h8, h9⟩, ⟨h6, h10, h11⟩, ⟨h7, h12, h13⟩⟩
  · rintro ⟨⟨h1, h2, h3, h4⟩, ⟨h5, h8, h9⟩, ⟨h6, h10, h11⟩, ⟨h7, h12, h13⟩⟩
    exact ⟨h1, h2, h3, h4, h5, h6, h7, h8, h9, h10, h11, h12, h13⟩

theorem fitT_iff (s : Sm) (t : Tm) : fitT s t = true ↔ mayS s = true ∧ mayB t = true ∧ t.d = s.f := by simp [fitT, and_assoc]
theorem fitS_iff (s r : Sm) : fitS s r = true ↔ mayS s = true ∧ mayS r = true ∧ s.t = r.f := by simp [fitS, and_assoc]
theorem applyE_ok {s : Sm} {t : Tm} (h : applyE s t = 0) : (mayS s = true ∧ mayB t = true ∧ t.d = s.f) ∧ mayB (rawT s t) = true ∧ applyT s t = rawT s t := by
  have h' := h
  unfold applyE at h
  by_cases h1 : fitT s t = true
  · rw [if_pos h1] at h
    by_cases h2 : mayB (rawT s t) = true
    · exact ⟨(fitT_iff s t).1 h1, h2, by unfold applyT; rw [if_pos h']⟩
    · rw [if_neg h2] at h; omega
  · rw [if_neg h1] at h; omega
theorem thenE_ok {s r : Sm} (h : thenE s r = 0) : (mayS s = true ∧ mayS r = true ∧ s.t = r.f) ∧ mayS (rawS s r) = true ∧ thenS s r = rawS s r := by
  have h' := h
  unfold thenE at h
  by_cases h1 : fitS s r = true
  · rw [if_pos h1] at h
    by_cases h2 : mayS (rawS s r) = true
    · exact ⟨(fitS_iff s r).1 h1, h2, by unfold thenS; rw [if_pos h']⟩
    · rw [if_neg h2] at h; omega
  · rw [if_neg h1] at h; omega
theorem applyE_mk {s : Sm} {t : Tm} (h1 : mayS s = true) (h2 : mayB t = true) (h3 : t.d = s.f) (h4 : mayB (rawT s t) = true) : applyE s t = 0 ∧ applyT s t = rawT s t := by
  have e : applyE s t = 0 := by
    unfold applyE
    rw [if_pos ((fitT_iff s t).2 ⟨h1, h2, h3⟩), if_pos h4]
  exact ⟨e, (applyE_ok e).2.2⟩
theorem thenE_mk {s r : Sm} (h1 : mayS s = true) (h2 : mayS r = true) (h3 : s.t = r.f) (h4 : mayS (rawS s r) = true) : thenE s r = 0 ∧ thenS s r = rawS s r := by
  have e : thenE s r = 0 := by
    unfold thenE
    rw [if_pos ((fitS_iff s r).2 ⟨h1, h2, h3⟩), if_pos h4]
  exact ⟨e, (thenE_ok e).2.2⟩

theorem tm_eq {a b : Tm} (h1 : a.e = b.e) (h2 : a.d = b.d) (h3 : a.x = b.x) (h4 : a.y = b.y) (h5 : a.z = b.z) : a = b := by cases a; cases b; simp_all
theorem sm_eq {a b : Sm} (h1 : a.f = b.f) (h2 : a.t = b.t) (h3 : a.k = b.k) (h4 : a.ep = b.ep) (h5 : a.x = b.x) (h6 : a.y = b.y) (h7 : a.z = b.z) : a = b := by cases a; cases b; simp_all

/-- One counter: what two summaries do together is what the second does with what the first does. -/
theorem comp_then (i st rt sk rk rf sa ra old : Int) (h0 : 0 ≤ i) (h : rk ≤ rf) (he : st = rf) : compI i rt rk ra (compI i st sk sa old) = compI i rt (minI sk rk) (compI i rt rk ra sa) old := by
  unfold compI minI
  repeat' split
  all_goals omega
theorem comp_assoc (i st rt qt rk qk rf sa ra qa : Int) (h0 : 0 ≤ i) (h1 : qk ≤ rt) : compI i qt qk qa (compI i rt rk ra sa) = compI i qt (minI rk qk) (compI i qt qk qa ra) sa := by
  unfold compI minI
  repeat' split
  all_goals omega
theorem minI_assoc (x y z : Int) : minI (minI x y) z = minI x (minI y z) := by unfold minI; repeat (first | split | omega)

theorem raw_then {s r : Sm} (t : Tm) (hr : mayS r = true) (he : s.t = r.f) : rawT (rawS s r) t = rawT r (rawT s t) := by
  obtain ⟨_, hk, _⟩ := (mayS_iff r).1 hr
  refine tm_eq ?_ rfl ?_ ?_ ?_
  · simp only [rawT, rawS]; omega
  · exact (comp_then 0 s.t r.t s.k r.k r.f s.x r.x t.x (by omega) hk.2.1 he).symm
  · exact (comp_then 1 s.t r.t s.k r.k r.f s.y r.y t.y (by omega) hk.2.1 he).symm
  · exact (comp_then 2 s.t r.t s.k r.k r.f s.z r.z t.z (by omega) hk.2.1 he).symm
/-- P2.4: Apply of Then is Apply of the second of Apply of the first. -/
theorem then_apply {s r : Sm} {t : Tm} (h1 : thenE s r = 0) (h2 : applyE s t = 0) (h3 : applyE r (applyT s t) = 0) : applyE (thenS s r) t = 0 ∧ applyT (thenS s r) t = applyT r (applyT s t) := by
  obtain ⟨⟨ms, mr, hd⟩, mc, ec⟩ := thenE_ok h1
  obtain ⟨⟨_, mt, ht⟩, ma, ea⟩ := applyE_ok h2
  rw [ea] at h3 ⊢
  obtain ⟨_, mb, eb⟩ := applyE_ok h3
  rw [ec, eb]
  have hraw := raw_then t mr hd
  have := applyE_mk (s := rawS s r) (t := t) mc mt (by simp only [rawS]; exact ht) (by rw [hraw]; exact mb)
  rw [hraw] at this
  exact this
theorem raw_assoc {s r q : Sm} (hq : mayS q = true) (he : r.t = q.f) : rawS (rawS s r) q = rawS s (rawS r q) := by
  obtain ⟨_, hk, _⟩ := (mayS_iff q).1 hq
  refine sm_eq rfl rfl ?_ ?_ ?_ ?_ ?_
  · exact minI_assoc _ _ _
  · simp only [rawS]; omega
  · exact comp_assoc 0 s.t r.t q.t r.k q.k r.f s.x r.x q.x (by omega) (by omega)
  · exact comp_assoc 1 s.t r.t q.t r.k q.k r.f s.y r.y q.y (by omega) (by omega)
  · exact comp_assoc 2 s.t r.t q.t r.k q.k r.f s.z r.z q.z (by omega) (by omega)
/-- P2.4: three summaries, whichever two are put together first. -/
theorem then_assoc {a b c : Sm} (h1 : thenE a b = 0) (h2 : thenE b c = 0) (h3 : thenE (thenS a b) c = 0) (h4 : thenE a (thenS b c) = 0) : thenS (thenS a b) c = thenS a (thenS b c) := by
  obtain ⟨⟨ma, mb, hd⟩, mab, eab⟩ := thenE_ok h1
  obtain ⟨⟨_, mc, he⟩, mbc, ebc⟩ := thenE_ok h2
  rw [(thenE_ok h3).2.2, (thenE_ok h4).2.2, eab, ebc]
  exact raw_assoc mc he

end Go.Proofs.YtehianjfpmbfpaaGreat
