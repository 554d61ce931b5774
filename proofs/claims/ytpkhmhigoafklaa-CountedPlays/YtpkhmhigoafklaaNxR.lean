/-
  Rows of numbers that a call has made by append; rows of times likewise, with where they lie; l[:k] and l[k:] of numbers.
  A region that draws its order, some of whose operations take what was there or what others have made (append), and whose last operation is free: walked by what each operation's value is known by. Own text; it speaks of no program.
  The document's own numbers under way: two rows of the call's own behind a pointer of its own; what a store of a longer row leaves.
-/
import Derived.Test.YtpkhmhigoafklaaRepY
import Derived.Test.YtpkhmhigoafklaaCut
import Derived.Test.YtpkhmhigoafklaaEndR
namespace Go.Proofs.Ytpkhmhigoafklaa
set_option maxRecDepth 100000
open Go.ChangeShapes Go.WideShapes Go.ChangeAt Go.RowKit Go.Deep
set_option linter.unusedVariables false

def flatI (d : List Int) : List Value := d.map (Value.int .i64)
/-- The call owns a row of numbers, or it is nil. -/
def OwnIV (w : World) (base : Nat) (s : Option Addr) (n cap : Nat) (d : List Int) : Prop :=
  d.length = n ∧ w.ownsRow base 3 1 (.slice s n cap) n (flatI d) ∧ (s = none → cap = 0)
theorem OwnIV.nil (w : World) (base : Nat) : OwnIV w base none 0 0 [] := ⟨rfl, World.ownsRow_nil w base _ _, fun _ => rfl⟩
theorem OwnIV.keep {w w' : World} {base n cap : Nat} {s : Option Addr} {d : List Int} (h : OwnIV w base s n cap d) (hk : ∀ a, s = some a → w'.heap[a.block]? = w.heap[a.block]?) : OwnIV w' base s n cap d := by
  obtain ⟨h1, h2, h3⟩ := h
  refine ⟨h1, ⟨h2.1, ?_⟩, h3⟩
  rcases h2.2 with h' | ⟨g, cap', cur, h', hb, hg, r⟩
  · exact .inl h'
  · simp only [Value.slice.injEq] at h'
    obtain ⟨rfl, _, rfl⟩ := h'
    exact .inr ⟨g, cap, cur, rfl, hb, (hk _ rfl).trans hg, r⟩
theorem OwnIV.lt {w : World} {base n cap : Nat} {s : Option Addr} {d : List Int} (h : OwnIV w base s n cap d) : ∀ a, s = some a → a.block < w.heap.size ∧ base ≤ a.block := by
  intro a ha
  rcases h.2.1.2 with ⟨h', _⟩ | ⟨g, cap', cur, h', hb, hg, r⟩
  · simp only [Value.slice.injEq] at h'
    rw [ha] at h'; cases h'.1
  · simp only [Value.slice.injEq] at h'
    rw [ha] at h'
    cases h'.1
    exact ⟨(Array.getElem?_eq_some_iff.1 hg).1, hb⟩
theorem OwnIV.later {w w' : World} {base n cap : Nat} {s : Option Addr} {d : List Int} (h : OwnIV w base s n cap d) (hg : Grow w w') : OwnIV w' base s n cap d :=
  h.keep fun a ha => hg.block _ (h.lt a ha).1
theorem OwnIV.is {w : World} {base n cap : Nat} {s : Option Addr} {d : List Int} (h : OwnIV w base s n cap d) : IsIns w s n cap d := by
  obtain ⟨h1, h2, h3⟩ := h
  rcases h2.2 with ⟨h', h''⟩ | ⟨g, cap', cur, h', hb, hg, k1, k2, k3, k4⟩
  · have hn : n = 0 := h''
    refine ⟨h1, by omega, .inl ?_⟩
    exact List.eq_nil_of_length_eq_zero (by omega)
  · simp only [Value.slice.injEq] at h'
    obtain ⟨rfl, _, rfl⟩ := h'
    refine ⟨h1, k1, .inr ⟨g, 0, rfl, fun j hj => ?_⟩⟩
    have := World.ownsRow.cellAt h2 j (by omega)
    rw [Nat.zero_add, this]
    simp [flatI, hj]
theorem info_int : ∃ i, Try.prog.info? 3 = some i ∧ i.zero = some (.int .i64 0) ∧ i.size = 1 ∧ i.bytes = 8 := by
  cases hi : Try.prog.info? 3 with
  | none =>
    have : (Try.prog.info? 3).isSome = true := by kernel_rfl
    rw [hi] at this; cases this
  | some i =>
    have hz : (Try.prog.info? 3).map (·.zero) = some (some (.int .i64 0)) := by kernel_rfl
    have hs : (Try.prog.info? 3).map (·.size) = some 1 := by kernel_rfl
    have hb : (Try.prog.info? 3).map (·.bytes) = some 8 := by kernel_rfl
    rw [hi] at hz hs hb
    simp only [Option.map_some, Option.some.injEq] at hz hs hb
    exact ⟨i, rfl, hz, hs, hb⟩
theorem oneCell_flatI (d : List Int) : ∀ v ∈ flatI d, v.oneCell' = true := by
  intro v hv
  obtain ⟨x, _, rfl⟩ := List.mem_map.1 hv
  rfl
/-- Where the new row lies: in the old one's block, or in a new one. -/
def Lies (w : World) (s s2 : Option Addr) : Prop := ∀ a, s2 = some a → (∃ a0, s = some a0 ∧ a0.block = a.block) ∨ a.block = w.heap.size ∨ a.block = w.heap.size
theorem app_none_int (s : Option Addr) (n cap : Nat) (hn : n ≤ cap) (c : Nat) (rt : TypeId) (w : World) :
    (Builtin.append_ #[31, 31] rt #[.slice s n cap, .slice none 0 c]).run Try.prog w = (Builtin.append_ #[31, 31] rt #[.slice s n cap, .slice (some ⟨0, 0, none⟩) 0 c]).run Try.prog w := by
  obtain ⟨i, hi, hz, hsz, hby⟩ := info_int
  have hl : (loadCells ⟨0, 0, none⟩ 0).run Try.prog w = .ok #[] w := by simpa using run_loadCells_list (P := Try.prog) w ⟨0, 0, none⟩ [] (by simp)
  cases s <;> simp [Builtin.append_, run_underlying Try.underlying31, sizeOf, typeInfo, hi, Builtin.lenOf, Builtin.firstCells, hl, hn]
/-- What append does to rows of numbers. -/
theorem run_api (w : World) (rt : TypeId) (base : Nat) (s : Option Addr) (n cap : Nat) (d e : List Int) (hown : OwnIV w base s n cap d) (s' : Option Addr) (m c : Nat) (he : IsIns w s' m c e) (hlen : n + m ≤ 1000000) (hbase : base ≤ w.heap.size) :
    ∃ s2 c2 w2, (Builtin.append_ #[31, 31] rt #[.slice s n cap, .slice s' m c]).run Try.prog w = .ok (.slice s2 (n + m) c2) w2
      ∧ OwnIV w2 base s2 (n + m) c2 (d ++ e) ∧ w.grownBy w2 (s.map (·.block)) ∧ ∀ a, s2 = some a → s.map (·.block) = some a.block ∨ a.block = w.heap.size := by
  obtain ⟨i, hi, hz, hsz, hby⟩ := info_int
  have hnc := hown.is.cap
  obtain ⟨hn, hr, hz0⟩ := hown
  have key : ∀ (x : Addr), (∀ j u, (flatI e)[j]? = some u → w.cell? (x.add j) = some u) → ∃ s2 c2 w2, (Builtin.append_ #[31, 31] rt #[.slice s n cap, .slice (some x) m c]).run Try.prog w = .ok (.slice s2 (n + m) c2) w2
      ∧ OwnIV w2 base s2 (n + m) c2 (d ++ e) ∧ w.grownBy w2 (s.map (·.block)) ∧ ∀ a, s2 = some a → s.map (·.block) = some a.block ∨ a.block = w.heap.size := by
    intro x hx
    obtain ⟨v', w', h0, h1, h2, h3, h4⟩ := run_append_own_at (P := Try.prog) w base 31 rt 3 i _ 1 8 Try.underlying31 hi hz hsz hby rfl (by omega) _ n (flatI d) hr x m c (flatI e) (by simp [flatI, he.len]) hx (oneCell_flatI e) (by simp [maxLen]; omega) (by omega) hbase
    have hob : (Value.slice s n cap).ownBlock = s.map (·.block) := by cases s <;> rfl
    rw [hob] at h2 h4
    have hl : (d ++ e).length = n + m := by rw [List.length_append, hn, he.len]
    have hfl : flatI d ++ flatI e = flatI (d ++ e) := by simp [flatI]
    rw [hfl] at h1
    rcases h1.2 with ⟨h', h''⟩ | ⟨g', cap', cur, h', hb, hg, k⟩
    · subst h'
      have h5 : n + m = 0 := h''
      refine ⟨none, 0, w', by rw [h0, h5], ⟨hl, ?_, fun _ => rfl⟩, h2, fun a ha => by cases ha⟩
      rw [h5] at h1 ⊢
      exact h1
    · subst h'
      refine ⟨some ⟨g', 0, none⟩, cap', w', h0, ⟨hl, h1, fun k => by cases k⟩, h2, fun a ha => ?_⟩
      cases ha
      rcases h4 with h4 | h4
      · left; rw [← h4]; rfl
      · right
        have : some g' = some w.heap.size := h4
        exact Option.some.inj this
  rcases he.row with hnil | ⟨b, off, rfl, hrw⟩
  · have hm0 : m = 0 := by rw [← he.len, hnil]; rfl
    subst hm0
    cases s' with
    | none =>
      rw [app_none_int _ _ _ hnc]
      exact key _ (fun j v hj => by rw [hnil] at hj; simp [flatI] at hj)
    | some a => exact key a (fun j v hj => by rw [hnil] at hj; simp [flatI] at hj)
  · refine key _ (fun j v hj => ?_)
    have hj' : j < e.length := by have := (List.getElem?_eq_some_iff.1 hj).1; simpa [flatI] using this
    rw [addr_add, hrw j hj']
    simpa [flatI, hj'] using hj
/-- What append does to rows of times, and where the new row lies. -/
theorem run_apt (w : World) (rt : TypeId) (base : Nat) (s : Option Addr) (n cap : Nat) (d e : List Tm) (hown : OwnSV w base s n cap d) (s' : Option Addr) (m c : Nat) (he : IsTms w s' m c e) (hlen : n + m ≤ 1000000) (hbase : base ≤ w.heap.size) :
    ∃ s2 c2 w2, (Builtin.append_ #[30, 30] rt #[.slice s n cap, .slice s' m c]).run Try.prog w = .ok (.slice s2 (n + m) c2) w2
      ∧ OwnSV w2 base s2 (n + m) c2 (d ++ e) ∧ w.grownBy w2 (s.map (·.block)) ∧ ∀ a, s2 = some a → s.map (·.block) = some a.block ∨ a.block = w.heap.size := by
  obtain ⟨i, hi, hz, hsz, hby⟩ := info_tm
  obtain ⟨hm, _, hs⟩ := he
  have hnc := hown.is.2.1
  obtain ⟨hn, hown⟩ := hown
  subst hn
  have hr : w.ownsRow base 25 5 (.slice s d.length cap) d.length (flatT d) := by
    rcases hown with ⟨rfl, rfl, rfl⟩ | ⟨g, rfl, h1⟩
    · exact World.ownsRow_nil w base _ _
    · exact h1
  have key : ∀ (x : Addr), (∀ j v, (flatT e)[j]? = some v → w.cell? (x.add j) = some v) → ∃ s2 c2 w2, (Builtin.append_ #[30, 30] rt #[.slice s d.length cap, .slice (some x) m c]).run Try.prog w = .ok (.slice s2 (d.length + m) c2) w2
      ∧ OwnSV w2 base s2 (d.length + m) c2 (d ++ e) ∧ w.grownBy w2 (s.map (·.block)) ∧ ∀ a, s2 = some a → s.map (·.block) = some a.block ∨ a.block = w.heap.size := by
    intro x hx
    obtain ⟨v', w', h0, h1, h2, h3, h4⟩ := run_append_own_at (P := Try.prog) w base 30 rt 25 i _ 5 40 Try.underlying30 hi hz hsz hby rfl (by omega) _ d.length (flatT d) hr x m c (flatT e) (by rw [flatT_len, hm]) hx (oneCell_flatT e) (by simp [maxLen]; omega) (by omega) hbase
    have hob : (Value.slice s d.length cap).ownBlock = s.map (·.block) := by cases s <;> rfl
    rw [hob] at h2 h4
    have hl : (d ++ e).length = d.length + m := by rw [List.length_append, hm]
    rcases h1.2 with ⟨h', h''⟩ | ⟨g', cap', cur, h', hb, hg, k1, k2, k3, k4⟩
    · subst h'
      have h5 : d.length + m = 0 := h''
      have hl0 : (d ++ e).length = 0 := hl.trans h5
      rw [h5]
      exact ⟨none, 0, w', h0, ⟨hl0, .inl ⟨rfl, rfl, List.eq_nil_of_length_eq_zero hl0⟩⟩, h2, fun a ha => by cases ha⟩
    · subst h'
      refine ⟨some ⟨g', 0, none⟩, cap', w', h0, ⟨hl, .inr ⟨g', rfl, OwnS.mk' hb hg (by rw [hl]; exact k1) k2 k3 (by rw [hl, flatT_append]; exact k4)⟩⟩, h2, fun a ha => ?_⟩
      cases ha
      rcases h4 with h4 | h4
      · left; rw [← h4]; rfl
      · right
        have : some g' = some w.heap.size := h4
        exact Option.some.inj this
  rcases hs with rfl | ⟨b, off, rfl, hrw⟩
  · have hm0 : m = 0 := by simp at hm; omega
    subst hm0
    cases s' with
    | none =>
      rw [app_none_tm _ _ _ hnc]
      exact key _ (fun j v hj => by simp [flatT] at hj)
    | some a => exact key a (fun j v hj => by simp [flatT] at hj)
  · exact key _ (fun j v hj => by rw [addr_add]; exact hrw j v hj)
theorem run_headI (a : Option Addr) (n cap k : Nat) (w : World) (h1 : (k : Int) ≤ (cap : Int)) :
    (Instr.slice 31 (.slice a n cap) none (some (.int .i64 (k : Int))) none).run Try.prog w = .ok (.slice a k cap) w := by
  have h0 : (0 : Int) ≤ (k : Int) := by omega
  have z := Try.sizeOf3
  cases a with
  | none => simp [go_sem, h1]
  | some a =>
    obtain ⟨b, o, s⟩ := a
    by_cases hc : cap = 0
    · have hk : k = 0 := by omega
      subst hk
      simp [go_sem, hc]
    · simp [go_sem, h1, hc]
theorem run_tailI (a : Option Addr) (n cap k : Nat) (w : World) (h1 : (k : Int) ≤ (n : Int)) :
    (Instr.slice 31 (.slice a n cap) (some (.int .i64 (k : Int))) none none).run Try.prog w = .ok (.slice (fromA a cap k 1) (n - k) (cap - k)) w := by
  have h0 : (0 : Int) ≤ (k : Int) := by omega
  have z := Try.sizeOf3
  unfold fromA
  by_cases hc : cap = k
  · subst hc
    cases a <;> simp [go_sem, h1]
  · cases a <;> simp [go_sem, h1, hc]
theorem IsIns.from' {w : World} {s : Option Addr} {n cap : Nat} {d : List Int} (h : IsIns w s n cap d) (k : Nat) (hk : k ≤ n) : IsIns w (fromA s cap k 1) (n - k) (cap - k) (d.drop k) := by
  refine ⟨by rw [List.length_drop, h.len], by have := h.cap; omega, ?_⟩
  by_cases hn : k = n
  · left
    rw [List.drop_of_length_le]
    rw [h.len]; omega
  · rcases h.row with e | ⟨b, o, rfl, r⟩
    · left; rw [e]; simp
    · right
      have hc : ¬ cap = k := by have := h.cap; omega
      refine ⟨b, o + k, ?_, fun j hj => ?_⟩
      · unfold fromA
        rw [if_neg hc]
        simp [addr_add]
      · have hj' : k + j < d.length := by simp at hj; omega
        rw [Nat.add_assoc, r (k + j) hj', List.getElem_drop]
theorem IsIns.take' {w : World} {s : Option Addr} {n cap : Nat} {d : List Int} (h : IsIns w s n cap d) (k : Nat) (hk : k ≤ n) : IsIns w s k cap (d.take k) := by
  refine ⟨by rw [List.length_take, h.len]; omega, by have := h.cap; omega, h.row.imp (fun e => by rw [e]; simp) fun ⟨b, o, e, r⟩ => ⟨b, o, e, fun j hj => ?_⟩⟩
  have hj' : j < d.length := by simp at hj; omega
  rw [r j hj', List.getElem_take]

end Go.Proofs.Ytpkhmhigoafklaa

namespace Go.Proofs.Ytpkhmhigoafklaa
open Go.RowKit
set_option linter.unusedVariables false

/-- Operation i may lean on the initial fact, which operation kB takes. -/
def useB (l : List Oper) (kB i : Nat) : Bool := depB l kB i || i == kB

def StepG (P : Program) (l : List Oper) (kill : Nat → Option Nat) (kB : Nat) (a : Act) (G B : World → Prop) (F : Nat → Value → World → Prop) (Q : Exit → Act → World → Prop) (i : Nat) (o : Oper) : Prop :=
  ∀ a' w', G w' → Same l.toArray a a' → (∀ e ∈ o.after, Region.binds .any e = true → usesB kill i e.on = true → F e.on (valOf l.toArray a' e.on) w') → (useB l kB i = true → B w') →
    if Region.wanted o (yielded l.toArray a'.tmps) = true then o.wp P a' w' (fun a'' w'' => ∃ v, a'' = a'.put o.dst v ∧ G w'' ∧ F i v w'' ∧ (∀ j u, exemptB l kill i j = false → F j u w' → F j u w'') ∧ (i ≠ kB → B w' → B w'')) Q else F i undef w'

def StepMostG (P : Program) (l : List Oper) (kill : Nat → Option Nat) (kB : Nat) (a : Act) (G B : World → Prop) (F : Nat → Value → World → Prop) (Q : Exit → Act → World → Prop) : List Oper → Nat → Prop
  | [], _ => True
  | [_], _ => True
  | o :: r :: m, i => StepG P l kill kB a G B F Q i o ∧ StepMostG P l kill kB a G B F Q (r :: m) (i + 1)

section
variable {P : Program} {l : List Oper} {kill : Nat → Option Nat} {kB : Nat} {a : Act} {G B : World → Prop} {F : Nat → Value → World → Prop} {Q : Exit → Act → World → Prop}

theorem stepMostG_spec : ∀ (r : List Oper) (k : Nat), StepMostG P l kill kB a G B F Q r k → ∀ i o, i + 1 < r.length → r[i]? = some o → StepG P l kill kB a G B F Q (k + i) o
  | [], _, _, i, o, hi, ho => by simp at hi
  | [_], _, _, i, o, hi, ho => by simp at hi
  | x :: r :: m, k, h, 0, o, hi, ho => by simp at ho; subst ho; exact h.1
  | x :: r :: m, k, h, i + 1, o, hi, ho => by
    have := stepMostG_spec (r :: m) (k + 1) h.2 i o (by simpa using hi) (by simpa using ho)
    rwa [show k + 1 + i = k + (i + 1) by omega] at this

theorem wpAny_endG {m : Nat} (hl : l.length = m + 1) (hfit : fitE l a.tmps.size = true) {z : Oper} (hz : l[m]? = some z) (hzg : z.guard = none)
    (hstep : StepMostG P l kill kB a G B F Q l 0)
    (hlast : ∀ a' w', G w' → Same l.toArray a a' → (∀ i, i < m → kill i = none → F i (valOf l.toArray a' i) w') → z.wp P a' w' (fun a'' w'' => Q .normal a'' w'') Q) :
    ∀ (fuel : Nat) (listed : Array Bool) (a' : Act) (w' : World), listed.size = l.length → listed.toList.countP (! ·) ≤ fuel → G w' → Same l.toArray a a' →
      (∀ i o, l[i]? = some o → listed.getD i false = true → ∀ e ∈ o.after, Region.binds .any e = true → listed.getD e.on false = true) →
      listed.getD m false = false → (∀ i, i < m → listed.getD i false = true → (∀ k, kill i = some k → listed.getD k false = false) → F i (valOf l.toArray a' i) w') → (listed.getD kB false = false → B w') → wpAny P .any l.toArray Q fuel listed a' w' := by
  simp only [fitE, Bool.and_eq_true] at hfit
  obtain ⟨⟨⟨⟨ht, hnd⟩, hsome⟩, hin⟩, hsink⟩ := hfit
  rw [List.all_eq_true] at hsome
  have hget : ∀ {i o}, i < m → l[i]? = some o → l.dropLast[i]? = some o := fun {i o} hi ho => by
    rw [List.getElem?_dropLast, if_pos (by omega)]; exact ho
  intro fuel
  induction fuel with
  | zero =>
    intro listed a' w' hsz hc hg hs hcl hmf hF hB
    have hm' : listed.getD m true = false := by
      have hi' : m < listed.size := by omega
      simp [hi'] at hmf ⊢; exact hmf
    have := count_set hm'
    omega
  | succ fuel ih =>
    intro listed a' w' hsz hc hg hs hcl hmf hF hB
    refine ⟨fun hr => ?_, fun i hi => ?_⟩
    · have := all_listed ht hsz hr (m + 1) m (by omega) (by omega)
      rw [hmf] at this; cases this
    obtain ⟨hun, o, ho, hall⟩ := mem_ready.1 hi
    have ho' : l[i]? = some o := by simpa using ho
    have hil : i < l.length := (List.getElem?_eq_some_iff.1 ho').1
    have hcs := count_set hun
    have hunf : listed.getD i false = false := by
      have hi' : i < listed.size := by omega
      simp [hi'] at hun ⊢; exact hun
    have hset : ∀ j, j ≠ i → (listed.setIfInBounds i true).getD j false = listed.getD j false := fun j hj => getD_set_ne false (Ne.symm hj)
    have hseti : (listed.setIfInBounds i true).getD i false = true := by
      have hi' : i < listed.size := by omega
      simp [hi']
    by_cases him : i = m
    · subst him
      rw [hz] at ho'; cases ho'
      have hb := all_before hl hsink hz hcl hall
      have h1 := hlast a' w' hg hs fun j hj hk => hF j hj (hb _ j (Nat.le_refl _) hj) (fun k e => by rw [hk] at e; cases e)
      unfold wpOp
      simp only [ho]
      have hw : Region.wanted z (yielded l.toArray a'.tmps) = true := by unfold Region.wanted; rw [hzg]
      rw [if_pos hw]
      refine .inl (Oper.wp_mono (fun a'' w'' hq => ?_) h1)
      refine wpAny_done (by simp [hsz]) (fun j hj => ?_) _ _ hq _
      by_cases hji : j = i
      · subst hji; exact hseti
      · rw [hset _ hji]; exact hb _ j (Nat.le_refl _) (by omega)
    · have him' : i < m := by omega
      obtain ⟨d, hd⟩ := Option.isSome_iff_exists.1 (hsome o (List.mem_of_getElem? (hget him' ho')))
      have hdn : d < a'.tmps.size := by
        rw [hs.size]
        have := List.all_eq_true.1 hin d (List.mem_filterMap.2 ⟨o, List.mem_of_getElem? ho', hd⟩)
        simpa using this
      have hst := stepMostG_spec l 0 hstep i o (by omega) ho'
      rw [Nat.zero_add] at hst
      have h1 := hst a' w' hg hs (fun e he hb hu => by
        have hlt := topo_spec l 0 ht i o ho' e he hb
        refine hF e.on (by omega) (hall e he hb) fun k hk => ?_
        unfold usesB at hu
        rw [hk] at hu
        have hki : k = i := by simpa using hu
        rw [hki]; exact hunf) (fun hu => by
        refine hB ?_
        unfold useB at hu
        rw [Bool.or_eq_true] at hu
        rcases hu with hu | hu
        · cases hkb : listed.getD kB false
          · rfl
          · exfalso
            unfold depB at hu
            cases hok : l[kB]? with
            | none => rw [hok] at hu; cases hu
            | some ok =>
              rw [hok] at hu
              simp only [List.any_eq_true, Bool.and_eq_true, beq_iff_eq] at hu
              obtain ⟨e, he, hb, heq⟩ := hu
              have := hcl kB ok hok hkb e (by simpa using he) hb
              rw [heq, hunf] at this; cases this
        · have hu' : i = kB := by simpa using hu
          rw [← hu']; exact hunf)
      have hcl' : ∀ i' o', l[i']? = some o' → (listed.setIfInBounds i true).getD i' false = true → ∀ e ∈ o'.after, Region.binds .any e = true → (listed.setIfInBounds i true).getD e.on false = true := by
        intro i' o' hio hli e he hb
        by_cases hei : e.on = i
        · rw [hei]; exact hseti
        · rw [hset _ hei]
          by_cases hii : i' = i
          · subst hii
            rw [ho'] at hio
            cases hio
            exact hall e he hb
          · rw [hset _ hii] at hli
            exact hcl i' o' hio hli e he hb
      have next : ∀ v w'', G w'' → F i v w'' → (∀ j u, exemptB l kill i j = false → F j u w' → F j u w'') → (i ≠ kB → B w' → B w'') → wpAny P .any l.toArray Q fuel (listed.setIfInBounds i true) (a'.put o.dst v) w'' := fun v w'' hg' hv hkeep hkB => by
        refine ih _ _ _ (by simp [hsz]) (by omega) hg' ⟨by rw [put_defers, hs.defers], by rw [put_size, hs.size], fun k hk => ?_⟩ hcl' (by rw [hset _ (Ne.symm him)]; exact hmf) (fun j hjm hj hal => ?_) (fun hkb => ?_)
        · rw [hd, getD_put a' d v k hdn, if_neg, hs.rest k hk]
          intro e
          have := List.all_eq_true.1 hk o (by simpa using List.mem_of_getElem? ho')
          simp [hd, e] at this
        · by_cases hji : j = i
          · subst hji
            have : valOf l.toArray (a'.put o.dst v) j = v := by
              simp only [valOf, ho, Option.bind_some, hd]
              rw [getD_put a' d v d hdn, if_pos rfl]
            rw [this]; exact hv
          · have hj' : listed.getD j false = true := by rwa [hset _ hji] at hj
            have : valOf l.toArray (a'.put o.dst v) j = valOf l.toArray a' j := by
              simp only [valOf]
              cases hoj : l.toArray[j]? with
              | none => rfl
              | some oj =>
                have hoj' : l[j]? = some oj := by simpa using hoj
                obtain ⟨dj, hdj⟩ := Option.isSome_iff_exists.1 (hsome oj (List.mem_of_getElem? (hget hjm hoj')))
                have hne := nodup_spec l.dropLast hnd hsome j i oj o (hget hjm hoj') (hget him' ho') hji
                simp only [Option.bind_some, hdj, hd]
                rw [getD_put a' d v dj hdn, if_neg]
                intro e
                rw [hdj, hd, e] at hne
                exact hne rfl
            rw [this]
            have hki : kill j ≠ some i := fun e => by
              have := hal i e
              rw [hseti] at this; cases this
            have hal' : ∀ k, kill j = some k → listed.getD k false = false := fun k e => by
              have := hal k e
              by_cases hk : k = i
              · subst hk; exact absurd e hki
              · rwa [hset _ hk] at this
            refine hkeep j _ ?_ (hF j hjm hj' hal')
            cases hex : exemptB l kill i j
            · rfl
            · exfalso
              unfold exemptB at hex
              simp only [Bool.or_eq_true, beq_iff_eq] at hex
              rcases hex with ((h | h) | h) | h
              · exact hki h
              · unfold depB at h
                cases hoj : l[j]? with
                | none => rw [hoj] at h; cases h
                | some oj =>
                  rw [hoj] at h
                  simp only [List.any_eq_true, Bool.and_eq_true, beq_iff_eq] at h
                  obtain ⟨e, he, hb, heq⟩ := h
                  have := hcl j oj hoj hj' e (by simpa using he) hb
                  rw [heq, hunf] at this; cases this
              · exact hji h
              · cases hkj : kill j with
                | none => rw [hkj] at h; cases h
                | some k' =>
                  rw [hkj] at h
                  unfold depB at h
                  rw [ho'] at h
                  simp only [List.any_eq_true, Bool.and_eq_true, beq_iff_eq] at h
                  obtain ⟨e, he, hb, heq⟩ := h
                  have h2 := hall e (by simpa using he) hb
                  rw [heq, hal' k' hkj] at h2; cases h2
        · by_cases hik : i = kB
          · exfalso
            rw [← hik, hseti] at hkb; cases hkb
          · refine hkB hik (hB ?_)
            rw [hset _ (Ne.symm hik)] at hkb; exact hkb
      unfold wpOp
      simp only [ho]
      split
      · rename_i hw
        rw [if_pos hw] at h1
        exact .inl (Oper.wp_mono (fun a'' w'' ⟨v, e, hg', hv, hkeep, hkB⟩ => by rw [e]; exact next v w'' hg' hv hkeep hkB) h1)
      · rename_i hw
        rw [if_neg hw] at h1
        exact next undef w' hg h1 (fun _ _ _ h => h) (fun _ h => h)

/-- A REGION THAT DRAWS ITS ORDER, WITH OPERATIONS THAT TAKE WHAT WAS THERE; ITS LAST IS FREE. -/
theorem wp_region_endG {id : Nat} {w : World} (F : Nat → Value → World → Prop) (G B : World → Prop) (kill : Nat → Option Nat) (kB m : Nat) (z : Oper) (hl : l.length = m + 1) (hz : l[m]? = some z) (hzg : z.guard = none) (hm : P.follows .mixedOrders = true) (hfit : fitE l a.tmps.size = true)
    (hG : ∀ w', Grow w w' → w'.heap = w.heap → G w') (hB : ∀ w', Grow w w' → w'.heap = w.heap → B w')
    (hstep : StepMostG P l kill kB a G B F Q l 0)
    (hlast : ∀ a' w', G w' → Same l.toArray a a' → (∀ i, i < m → kill i = none → F i (valOf l.toArray a' i) w') → z.wp P a' w' (fun a'' w'' => Q .normal a'' w'') Q) :
    (Code.region id l.toArray true).wp P Q a w := by
  refine wp_region_any hm (wpAny_endG hl hfit hz hzg hstep hlast _ _ a _ (by simp) ?_ (hG _ ⟨rfl, rfl, rfl, Nat.le_refl _, fun _ _ => rfl⟩ rfl) ⟨rfl, rfl, fun _ _ => rfl⟩ (fun i o _ hi => ?_) (by simp only [Array.getD_eq_getD_getElem?, List.size_toArray, Array.getElem?_replicate]; split <;> rfl) (fun i _ hi => ?_) (fun _ => hB _ ⟨rfl, rfl, rfl, Nat.le_refl _, fun _ _ => rfl⟩ rfl))
  · exact Nat.le_trans (List.countP_le_length) (by simp)
  · by_cases h : i < l.length <;> simp [h] at hi
  · by_cases h : i < l.length <;> simp [h] at hi

/-- An operation that only grows the world. -/
theorem stepG_run {i : Nat} {o : Oper} (hGg : ∀ w1 w2, G w1 → Grow w1 w2 → G w2) (hBg : ∀ w1 w2, Grow w1 w2 → B w1 → B w2) (hstab : ∀ k v w1 w2, Grow w1 w2 → F k v w1 → F k v w2) (hgd : o.guard = none)
    (h : ∀ a' w', G w' → Same l.toArray a a' → (∀ e ∈ o.after, Region.binds .any e = true → usesB kill i e.on = true → F e.on (valOf l.toArray a' e.on) w') → (useB l kB i = true → B w') → o.wp P a' w' (fun a'' w'' => ∃ v, a'' = a'.put o.dst v ∧ Grow w' w'' ∧ F i v w'') Q) :
    StepG P l kill kB a G B F Q i o := by
  intro a' w' hg hs hd hb
  have hw : Region.wanted o (yielded l.toArray a'.tmps) = true := by unfold Region.wanted; rw [hgd]
  rw [if_pos hw]
  exact Oper.wp_mono (fun a'' w'' ⟨v, e, hg', hv⟩ => ⟨v, e, hGg _ _ hg hg', hv, fun j u _ hj => hstab j u _ _ hg' hj, fun _ hb' => hBg _ _ hg' hb'⟩) (h a' w' hg hs hd hb)
theorem stepG_take {i : Nat} {o : Oper} (hgd : o.guard = none)
    (h : ∀ a' w', G w' → Same l.toArray a a' → (∀ e ∈ o.after, Region.binds .any e = true → usesB kill i e.on = true → F e.on (valOf l.toArray a' e.on) w') → (useB l kB i = true → B w') → o.wp P a' w' (fun a'' w'' => ∃ v, a'' = a'.put o.dst v ∧ G w'' ∧ F i v w'' ∧ (∀ j u, exemptB l kill i j = false → F j u w' → F j u w'') ∧ (i ≠ kB → B w' → B w'')) Q) :
    StepG P l kill kB a G B F Q i o := by
  intro a' w' hg hs hd hb
  have hw : Region.wanted o (yielded l.toArray a'.tmps) = true := by unfold Region.wanted; rw [hgd]
  rw [if_pos hw]
  exact h a' w' hg hs hd hb
end

end Go.Proofs.Ytpkhmhigoafklaa

namespace Go.Proofs.Ytpkhmhigoafklaa
set_option maxRecDepth 100000
open Go.RowKit Go.Sort Go.Deep
set_option linter.unusedVariables false
set_option linter.unusedSimpArgs false

structure NextR (w : World) (nb : Nat) (sT : Option Addr) (mT cT : Nat) (LT : List Tm) (sN : Option Addr) (mN cN : Nat) (LN : List Int) : Prop where
  cell0 : w.cell? ⟨nb, 0, none⟩ = some (.slice sT mT cT)
  cell1 : w.cell? ⟨nb, 1, none⟩ = some (.slice sN mN cN)
  free0 : w.frozen? ⟨nb, 0, none⟩ = false
  free1 : w.frozen? ⟨nb, 1, none⟩ = false
  ownT : OwnSV w (nb + 1) sT mT cT LT
  ownN : OwnIV w (nb + 1) sN mN cN LN
  apart : ∀ a a', sT = some a → sN = some a' → a.block ≠ a'.block
section
variable {w w2 : World} {nb : Nat} {sT : Option Addr} {mT cT : Nat} {LT : List Tm} {sN : Option Addr} {mN cN : Nat} {LN : List Int}
theorem NextR.lt (h : NextR w nb sT mT cT LT sN mN cN LN) : nb < w.heap.size := World.block_lt_of_cell? _ _ h.cell0
theorem NextR.later (hg : Grow w w2) (h : NextR w nb sT mT cT LT sN mN cN LN) : NextR w2 nb sT mT cT LT sN mN cN LN :=
  ⟨cell_later hg h.cell0, cell_later hg h.cell1, by rw [hg.frozen (p := ⟨nb, 0, none⟩) h.lt]; exact h.free0, by rw [hg.frozen (p := ⟨nb, 1, none⟩) h.lt]; exact h.free1, h.ownT.later hg, h.ownN.later hg, h.apart⟩
theorem ownSV_le {base n cap : Nat} {s : Option Addr} {d : List Tm} (h : OwnSV w base s n cap d) : ∀ a, s = some a → a.block < w.heap.size ∧ base ≤ a.block := by
  intro a ha
  rcases h.2 with ⟨rfl, _⟩ | ⟨g, rfl, ho⟩
  · cases ha
  · cases ha; exact ⟨ho.lt, ho.le.1⟩
theorem ownSV_keep {base n cap : Nat} {s : Option Addr} {d : List Tm} (h : OwnSV w base s n cap d) (hk : ∀ a, s = some a → w2.heap[a.block]? = w.heap[a.block]?) : OwnSV w2 base s n cap d :=
  ⟨h.1, h.2.imp id fun ⟨g, e, ho⟩ => ⟨g, e, ho.keep (hk _ e)⟩⟩
theorem setCell_block (w : World) (p : Addr) (u : Value) (k : Nat) (h : k ≠ p.block) : (w.setCell p u).heap[k]? = w.heap[k]? := Below.heap_setCell w p u k h
/-- A longer row of times is stored. -/
theorem NextR.setT {s2 : Option Addr} {m2 c2 : Nat} {L2 : List Tm} (h : NextR w nb sT mT cT LT sN mN cN LN) (hg : w.grownBy w2 (sT.map (·.block))) (ho : OwnSV w2 (nb + 1) s2 m2 c2 L2)
    (hl : ∀ a, s2 = some a → sT.map (·.block) = some a.block ∨ w.heap.size ≤ a.block) : NextR (w2.setCell ⟨nb, 0, none⟩ (.slice s2 m2 c2)) nb s2 m2 c2 L2 sN mN cN LN := by
  have hne : some nb ≠ sT.map (·.block) := fun e => by
    cases sT with
    | none => cases e
    | some a => have := (ownSV_le h.ownT a rfl).2; simp at e; omega
  have hc0 := hg.cell (a := ⟨nb, 0, none⟩) h.cell0 hne
  have hc1 := hg.cell (a := ⟨nb, 1, none⟩) h.cell1 hne
  have hf0 : w2.frozen? ⟨nb, 0, none⟩ = false := by rw [World.frozen?_of_block (w := w) (hg.block nb h.lt hne)]; exact h.free0
  have hf1 : w2.frozen? ⟨nb, 1, none⟩ = false := by rw [World.frozen?_of_block (w := w) (hg.block nb h.lt hne)]; exact h.free1
  have hN : OwnIV w2 (nb + 1) sN mN cN LN := h.ownN.keep fun a ha => hg.block _ (h.ownN.lt a ha).1 (fun e => by
    cases sT with
    | none => cases e
    | some b => exact h.apart b a rfl ha (by simpa using e.symm))
  refine ⟨by simp [go_sem, hc0], by simp [go_sem, hc1], by simp [go_sem, hf0], by simp [go_sem, hf1], ownSV_keep ho fun a ha => setCell_block _ _ _ _ (by have := (ownSV_le ho a ha).2; show a.block ≠ nb; omega), hN.keep fun a ha => setCell_block _ _ _ _ (by have := (hN.lt a ha).2; show a.block ≠ nb; omega), fun a a' ha ha' => ?_⟩
  rcases hl a ha with e | e
  · cases sT with
    | none => cases e
    | some b =>
      have := h.apart b a' rfl ha'
      simp at e
      rw [← e]; exact this
  · have := (h.ownN.lt a' ha').1
    omega
theorem NextR.setN {s2 : Option Addr} {m2 c2 : Nat} {L2 : List Int} (h : NextR w nb sT mT cT LT sN mN cN LN) (hg : w.grownBy w2 (sN.map (·.block))) (ho : OwnIV w2 (nb + 1) s2 m2 c2 L2)
    (hl : ∀ a, s2 = some a → sN.map (·.block) = some a.block ∨ w.heap.size ≤ a.block) : NextR (w2.setCell ⟨nb, 1, none⟩ (.slice s2 m2 c2)) nb sT mT cT LT s2 m2 c2 L2 := by
  have hne : some nb ≠ sN.map (·.block) := fun e => by
    cases sN with
    | none => cases e
    | some a => have := (h.ownN.lt a rfl).2; simp at e; omega
  have hc0 := hg.cell (a := ⟨nb, 0, none⟩) h.cell0 hne
  have hc1 := hg.cell (a := ⟨nb, 1, none⟩) h.cell1 hne
  have hf0 : w2.frozen? ⟨nb, 0, none⟩ = false := by rw [World.frozen?_of_block (w := w) (hg.block nb h.lt hne)]; exact h.free0
  have hf1 : w2.frozen? ⟨nb, 1, none⟩ = false := by rw [World.frozen?_of_block (w := w) (hg.block nb h.lt hne)]; exact h.free1
  have hT : OwnSV w2 (nb + 1) sT mT cT LT := ownSV_keep h.ownT fun a ha => hg.block _ (ownSV_le h.ownT a ha).1 (fun e => by
    cases sN with
    | none => cases e
    | some b => exact h.apart a b ha rfl (by simpa using e))
  refine ⟨by simp [go_sem, hc0], by simp [go_sem, hc1], by simp [go_sem, hf0], by simp [go_sem, hf1], ownSV_keep hT fun a ha => setCell_block _ _ _ _ (by have := (ownSV_le hT a ha).2; show a.block ≠ nb; omega), ho.keep fun a ha => setCell_block _ _ _ _ (by have := (ho.lt a ha).2; show a.block ≠ nb; omega), fun a a' ha ha' => ?_⟩
  rcases hl a' ha' with e | e
  · cases sN with
    | none => cases e
    | some b =>
      have := h.apart a b ha rfl
      simp at e
      rw [← e]; exact this
  · have := (ownSV_le h.ownT a ha).1
    omega
theorem NextR.new (w : World) : NextR (w.alloc (.cells #[.slice none 0 0, .slice none 0 0] 33)) w.heap.size none 0 0 [] none 0 0 [] :=
  ⟨by simp [go_sem], by simp [go_sem], by simp [go_sem], by simp [go_sem], OwnSV.nil _ _, OwnIV.nil _ _, fun a a' ha => by cases ha⟩
/-- Behind a row's turn and a store into the call's own block nothing older has turned. -/
theorem grow_turn {W : World} {row : Option Nat} {p : Addr} {u : Value} (h : Grow W w) (hg : w.grownBy w2 row) (hr : ∀ k, row = some k → W.heap.size ≤ k) (hp : W.heap.size ≤ p.block) : Grow W (w2.setCell p u) :=
  Below.setCell (Below.grown h hg h.size hr) hp u
end
/-- What the append in the round yields. -/
def AppT (w0 : World) (base : Nat) (s : Option Addr) (n : Nat) (d : List Tm) (v : Value) (w : World) : Prop := ∃ s2 c2, v = .slice s2 n c2 ∧ OwnSV w base s2 n c2 d ∧ ∀ a, s2 = some a → s.map (·.block) = some a.block ∨ w0.heap.size ≤ a.block
theorem AppT.later {w0 : World} {base : Nat} {s : Option Addr} {n : Nat} {d : List Tm} {v : Value} {w w' : World} (hg : Grow w w') : AppT w0 base s n d v w → AppT w0 base s n d v w' := fun ⟨s2, c2, e, h, l⟩ => ⟨s2, c2, e, h.later hg, l⟩
def AppI (w0 : World) (base : Nat) (s : Option Addr) (n : Nat) (d : List Int) (v : Value) (w : World) : Prop := ∃ s2 c2, v = .slice s2 n c2 ∧ OwnIV w base s2 n c2 d ∧ ∀ a, s2 = some a → s.map (·.block) = some a.block ∨ w0.heap.size ≤ a.block
theorem AppI.later {w0 : World} {base : Nat} {s : Option Addr} {n : Nat} {d : List Int} {v : Value} {w w' : World} (hg : Grow w w') : AppI w0 base s n d v w → AppI w0 base s n d v w' := fun ⟨s2, c2, e, h, l⟩ => ⟨s2, c2, e, h.later hg, l⟩
def IsRowI (d : List Int) (v : Value) (w : World) : Prop := ∃ s n cap, v = .slice s n cap ∧ IsIns w s n cap d
theorem IsRowI.later {d : List Int} {v : Value} {w w' : World} (hg : Grow w w') : IsRowI d v w → IsRowI d v w' := fun ⟨s, n, cap, e, h⟩ => ⟨s, n, cap, e, h.later hg⟩
theorem isRowI_one (w : World) (x : Int) : IsRowI [x] (.slice (some ⟨w.heap.size, 0, none⟩) 1 1) (w.alloc (.cells #[.int .i64 x] 3)) :=
  ⟨_, _, _, rfl, rfl, Nat.le_refl _, .inr ⟨_, _, rfl, fun j hj => by
    have : j = 0 := by simp at hj; omega
    subst this
    simp [go_sem]⟩⟩

def BoxR (x : Tm) (v : Value) (w : World) : Prop := ∃ b, v = .slice (some ⟨b, 0, none⟩) 1 1 ∧ RowT w b 0 [x]
theorem BoxR.later {x : Tm} {v : Value} {w w' : World} (hg : Grow w w') : BoxR x v w → BoxR x v w' := fun ⟨b, e, r⟩ => ⟨b, e, r.later hg⟩
theorem boxR_one (w : World) (t : Tm) : BoxR t (.slice (some ⟨w.heap.size, 0, none⟩) 1 1) (w.alloc (.cells #[.int .i64 t.e, .int .i64 t.d, .int .i64 t.x, .int .i64 t.y, .int .i64 t.z] 25)) := ⟨_, rfl, RowT_one w t⟩
theorem boxR_is {w : World} {b : Nat} {x : Tm} (r : RowT w b 0 [x]) : IsTms w (some ⟨b, 0, none⟩) 1 1 [x] := ⟨rfl, Nat.le_refl _, .inr ⟨_, _, rfl, r⟩⟩
def BoxJ (x : Int) (v : Value) (w : World) : Prop := ∃ b, v = .slice (some ⟨b, 0, none⟩) 1 1 ∧ IsIns w (some ⟨b, 0, none⟩) 1 1 [x]
theorem BoxJ.later {x : Int} {v : Value} {w w' : World} (hg : Grow w w') : BoxJ x v w → BoxJ x v w' := fun ⟨b, e, r⟩ => ⟨b, e, r.later hg⟩
theorem boxJ_one (w : World) (x : Int) : BoxJ x (.slice (some ⟨w.heap.size, 0, none⟩) 1 1) (w.alloc (.cells #[.int .i64 x] 3)) :=
  ⟨_, rfl, rfl, Nat.le_refl _, .inr ⟨_, _, rfl, fun j hj => by
    have : j = 0 := by simp at hj; omega
    subst this
    simp [go_sem]⟩⟩
theorem run_aptG {wc w : World} (hsz : wc.heap.size ≤ w.heap.size) (rt : TypeId) (base : Nat) (s : Option Addr) (n cap : Nat) (d e : List Tm) (hown : OwnSV w base s n cap d) (s' : Option Addr) (m c : Nat) (he : IsTms w s' m c e) (hlen : n + m ≤ 1000000) (hbase : base ≤ w.heap.size) :
    ∃ s2 c2 w2, (Builtin.append_ #[30, 30] rt #[.slice s n cap, .slice s' m c]).run Try.prog w = .ok (.slice s2 (n + m) c2) w2
      ∧ OwnSV w2 base s2 (n + m) c2 (d ++ e) ∧ w.grownBy w2 (s.map (·.block)) ∧ ∀ a, s2 = some a → s.map (·.block) = some a.block ∨ wc.heap.size ≤ a.block := by
  obtain ⟨s2, c2, w2, h1, h2, h3, h4⟩ := run_apt w rt base s n cap d e hown s' m c he hlen hbase
  exact ⟨s2, c2, w2, h1, h2, h3, fun a ha => (h4 a ha).imp id fun k => by omega⟩
theorem run_apiG {wc w : World} (hsz : wc.heap.size ≤ w.heap.size) (rt : TypeId) (base : Nat) (s : Option Addr) (n cap : Nat) (d e : List Int) (hown : OwnIV w base s n cap d) (s' : Option Addr) (m c : Nat) (he : IsIns w s' m c e) (hlen : n + m ≤ 1000000) (hbase : base ≤ w.heap.size) :
    ∃ s2 c2 w2, (Builtin.append_ #[31, 31] rt #[.slice s n cap, .slice s' m c]).run Try.prog w = .ok (.slice s2 (n + m) c2) w2
      ∧ OwnIV w2 base s2 (n + m) c2 (d ++ e) ∧ w.grownBy w2 (s.map (·.block)) ∧ ∀ a, s2 = some a → s.map (·.block) = some a.block ∨ wc.heap.size ≤ a.block := by
  obtain ⟨s2, c2, w2, h1, h2, h3, h4⟩ := run_api w rt base s n cap d e hown s' m c he hlen hbase
  exact ⟨s2, c2, w2, h1, h2, h3, fun a ha => (h4 a ha).imp id fun k => by omega⟩

section
variable {w : World} {ops : Array Oper} {rest : List Oper} {o : Oper} {a : Act} {Q : Exit → Act → World → Prop}
theorem wpList_apT (hgd : o.guard = none) (s x : Operand) (ho : o.op = .call { callee := .builtin .append, args := #[s, x], argTypes := #[30, 30] })
    (base : Nat) (s0 : Option Addr) (n cap : Nat) (d e : List Tm) (hs : a.eval s = .slice s0 n cap) (hown : OwnSV w base s0 n cap d)
    (s' : Option Addr) (m c : Nat) (hx : a.eval x = .slice s' m c) (he : IsTms w s' m c e) (hlen : n + m ≤ 1000000) (hbase : base ≤ w.heap.size)
    (h : ∀ s2 c2 w2, OwnSV w2 base s2 (n + m) c2 (d ++ e) → w.grownBy w2 (s0.map (·.block)) → (∀ a, s2 = some a → s0.map (·.block) = some a.block ∨ w.heap.size ≤ a.block) → wpList Try.prog ops Q rest (a.put o.dst (.slice s2 (n + m) c2)) w2) :
    wpList Try.prog ops Q (o :: rest) a w := by
  obtain ⟨s2, c2, w2, h0, h1, h2, h3⟩ := run_aptG (Nat.le_refl w.heap.size) o.type base s0 n cap d e hown s' m c he hlen hbase
  refine wpList_plain hgd fun K hK => ?_
  unfold Oper.wp execOp
  simp only [ho, resolve, invoke, builtin, Sem.run_bind, Sem.run_pure, Result.andThen_ok, List.map_toArray, List.map_cons, List.map_nil, hs, hx, h0]
  exact hK _ _ (h s2 c2 w2 h1 h2 h3)
theorem wpList_apI (hgd : o.guard = none) (s x : Operand) (ho : o.op = .call { callee := .builtin .append, args := #[s, x], argTypes := #[31, 31] })
    (base : Nat) (s0 : Option Addr) (n cap : Nat) (d e : List Int) (hs : a.eval s = .slice s0 n cap) (hown : OwnIV w base s0 n cap d)
    (s' : Option Addr) (m c : Nat) (hx : a.eval x = .slice s' m c) (he : IsIns w s' m c e) (hlen : n + m ≤ 1000000) (hbase : base ≤ w.heap.size)
    (h : ∀ s2 c2 w2, OwnIV w2 base s2 (n + m) c2 (d ++ e) → w.grownBy w2 (s0.map (·.block)) → (∀ a, s2 = some a → s0.map (·.block) = some a.block ∨ w.heap.size ≤ a.block) → wpList Try.prog ops Q rest (a.put o.dst (.slice s2 (n + m) c2)) w2) :
    wpList Try.prog ops Q (o :: rest) a w := by
  obtain ⟨s2, c2, w2, h0, h1, h2, h3⟩ := run_apiG (Nat.le_refl w.heap.size) o.type base s0 n cap d e hown s' m c he hlen hbase
  refine wpList_plain hgd fun K hK => ?_
  unfold Oper.wp execOp
  simp only [ho, resolve, invoke, builtin, Sem.run_bind, Sem.run_pure, Result.andThen_ok, List.map_toArray, List.map_cons, List.map_nil, hs, hx, h0]
  exact hK _ _ (h s2 c2 w2 h1 h2 h3)
end
theorem OwnIV.lit0 (w : World) (base : Nat) (hb : base ≤ w.heap.size) : OwnIV (w.alloc (.cells #[] 3)) base (some ⟨w.heap.size, 0, none⟩) 0 0 [] :=
  ⟨rfl, ⟨rfl, .inr ⟨w.heap.size, 0, #[], rfl, hb, (MapKept.heap_alloc w _).1, Nat.le_refl _, by simp [maxLen], rfl, rfl⟩⟩, fun h => by cases h⟩
theorem OwnIV.rebase {w : World} {base base' n cap : Nat} {s : Option Addr} {d : List Int} (h : OwnIV w base s n cap d) (hb : base' ≤ base) : OwnIV w base' s n cap d := by
  obtain ⟨h1, h2, h3⟩ := h
  refine ⟨h1, ⟨h2.1, ?_⟩, h3⟩
  rcases h2.2 with h' | ⟨g, cap', cur, h', hb', hg, r⟩
  · exact .inl h'
  · exact .inr ⟨g, cap', cur, h', Nat.le_trans hb hb', hg, r⟩
/-- The rows that are ready become the numbers. -/
theorem RepY.put {w : World} {y nb : Nat} {s s2 : Cs} {sT sN sF sK : Option Addr} {cT cN mF cF cK : Nat} {LN : List Int} (hR : RepY w y s sT cT sN cN) (hN : NextR w nb sF mF cF s2.T sK mF cK LN) (hy : y < nb) (hL : LN = s2.T.map s2.f) :
    RepY ((w.setCell ⟨y, 0, none⟩ (.slice sF mF cF)).setCell ⟨y, 1, none⟩ (.slice sK mF cK)) y s2 sF cF sK cK ∧ w.grownBy ((w.setCell ⟨y, 0, none⟩ (.slice sF mF cF)).setCell ⟨y, 1, none⟩ (.slice sK mF cK)) (some y) := by
  have hm : s2.T.length = mF := hN.ownT.1
  have hk : ∀ k, k ≠ y → ((w.setCell ⟨y, 0, none⟩ (.slice sF mF cF)).setCell ⟨y, 1, none⟩ (.slice sK mF cK)).heap[k]? = w.heap[k]? := fun k hk => by
    rw [setCell_block _ _ _ _ (show k ≠ y from hk), setCell_block _ _ _ _ (show k ≠ y from hk)]
  have hc0 := hR.cell0
  have hc1 := hR.cell1
  have hf0 := hR.free0
  have hf1 := hR.free1
  subst hL
  refine ⟨⟨by rw [hm]; simp [go_sem, hc0, hc1], by rw [hm]; simp [go_sem, hc0, hc1], by simp [go_sem, hf0], by simp [go_sem, hf1], fun off ho => ?_, ?_, ?_⟩, ⟨rfl, rfl, rfl, by simp, fun k hk' hne => hk k (fun e => hne (by rw [e]))⟩⟩
  · have := hR.two off ho
    have e0 : ¬ off = 0 := by omega
    have e1 : ¬ off = 1 := by omega
    simp [go_sem, this, e0, e1]
  · rw [hm]
    exact (ownSV_keep hN.ownT fun a ha => hk _ (by have := (ownSV_le hN.ownT a ha).2; omega)).is
  · rw [hm]
    exact (hN.ownN.keep fun a ha => hk _ (by have := (hN.ownN.lt a ha).2; omega)).is

def AppN (base n : Nat) (d : List Tm) (v : Value) (w : World) : Prop := ∃ s2 c2, v = .slice s2 n c2 ∧ OwnSV w base s2 n c2 d ∧ True
theorem AppN.later {base n : Nat} {d : List Tm} {v : Value} {w w' : World} (hg : Grow w w') : AppN base n d v w → AppN base n d v w' := fun ⟨s2, c2, e, h, l⟩ => ⟨s2, c2, e, h.later hg, l⟩
theorem run_aptN {ws w : World} (hg : Grow ws w) (rt : TypeId) (s : Option Addr) (n cap : Nat) (d e : List Tm) (hown : OwnSV w ws.heap.size s n cap d) (s' : Option Addr) (m c : Nat) (he : IsTms w s' m c e) (hlen : n + m ≤ 1000000) :
    ∃ s2 c2 w2, (Builtin.append_ #[30, 30] rt #[.slice s n cap, .slice s' m c]).run Try.prog w = .ok (.slice s2 (n + m) c2) w2
      ∧ OwnSV w2 ws.heap.size s2 (n + m) c2 (d ++ e) ∧ Grow ws w2 ∧ True := by
  obtain ⟨s2, c2, w2, h1, h2, h3, h4⟩ := run_apt w rt ws.heap.size s n cap d e hown s' m c he hlen hg.size
  refine ⟨s2, c2, w2, h1, h2, Below.grown hg h3 hg.size (fun k hk => ?_), trivial⟩
  cases s with
  | none => cases hk
  | some a => have := (ownSV_le hown a rfl).2; simp at hk; omega
/-- Where a time is put. -/
theorem ins_at {D : List Tm} {t : Tm} {j : Nat} (hj : j ≤ D.length) (h1 : ∀ q (h : q < D.length), q < j → kinT.ord D[q] t < 0) (h2 : ∀ h : j < D.length, ¬ kinT.ord D[j] t < 0) : insO kinT D t = D.take j ++ [t] ++ D.drop j := by
  have key : ∀ (l : List Tm) (m : Nat), m ≤ l.length → (∀ q (h : q < l.length), q < m → kinT.ord l[q] t < 0) → (∀ h : m < l.length, ¬ kinT.ord l[m] t < 0) →
      l.takeWhile (fun y => decide (kinT.ord y t < 0)) = l.take m ∧ l.dropWhile (fun y => decide (kinT.ord y t < 0)) = l.drop m := by
    intro l
    induction l with
    | nil => intro m hm _ _; simp at hm; subst hm; simp
    | cons x l ih =>
      intro m hm a1 a2
      cases m with
      | zero =>
        have := a2 (by simp)
        simp at this
        simp [this]
      | succ m =>
        have hx := a1 0 (by simp) (by omega)
        simp at hx
        obtain ⟨i1, i2⟩ := ih m (by simpa using hm) (fun q hq hqm => by have := a1 (q + 1) (by simpa using hq) (by omega); simpa using this) (fun hm' => by have := a2 (by simpa using hm'); simpa using this)
        simp [hx, i1, i2]
  obtain ⟨i1, i2⟩ := key D j hj h1 h2
  unfold insO
  rw [i1, i2]

end Go.Proofs.Ytpkhmhigoafklaa
