import Derived.Test.YtehianjfpmbfpaaGreatInv
section
/-
  A region that draws its order, some of whose operations change what an earlier one has made (append): walked by what each operation's value is known by, till another operation takes it. Own text; it speaks of no program.
-/
namespace Go.Proofs.YtehianjfpmbfpaaGreat
open Go.RowKit
set_option linter.unusedVariables false

/-- Operation k waits for operation i. -/
def depB (l : List Oper) (k i : Nat) : Bool :=
  match l[k]? with
  | some o => o.after.toList.any fun e => Region.binds .any e && e.on == i
  | none => false
/-- What operation k need not keep: what it takes itself, what comes behind it, what was taken before. -/
def exemptB (l : List Oper) (kill : Nat → Option Nat) (k j : Nat) : Bool :=
  kill j == some k || depB l j k || j == k || (match kill j with | some k' => depB l k k' | none => false)
/-- Operation k may lean on what i has made. -/
def usesB (kill : Nat → Option Nat) (k i : Nat) : Bool := match kill i with | none => true | some k' => k' == k

def StepK (P : Program) (l : List Oper) (kill : Nat → Option Nat) (a : Act) (w : World) (F : Nat → Value → World → Prop) (Q : Exit → Act → World → Prop) (i : Nat) (o : Oper) : Prop :=
  ∀ a' w', Grow w w' → Same l.toArray a a' → (∀ e ∈ o.after, Region.binds .any e = true → usesB kill i e.on = true → F e.on (valOf l.toArray a' e.on) w') →
    if Region.wanted o (yielded l.toArray a'.tmps) = true then o.wp P a' w' (fun a'' w'' => ∃ v, a'' = a'.put o.dst v ∧ Grow w w'' ∧ F i v w'' ∧ ∀ j u, exemptB l kill i j = false → F j u w' → F j u w'') Q else F i undef w'

def StepAllK (P : Program) (l : List Oper) (kill : Nat → Option Nat) (a : Act) (w : World) (F : Nat → Value → World → Prop) (Q : Exit → Act → World → Prop) : List Oper → Nat → Prop
  | [], _ => True
  | o :: r, i => StepK P l kill a w F Q i o ∧ StepAllK P l kill a w F Q r (i + 1)

theorem stepAllK_spec {P : Program} {l : List Oper} {kill : Nat → Option Nat} {a : Act} {w : World} {F : Nat → Value → World → Prop} {Q : Exit → Act → World → Prop} :
    ∀ (m : List Oper) (k : Nat), StepAllK P l kill a w F Q m k → ∀ i o, m[i]? = some o → StepK P l kill a w F Q (k + i) o
  | [], _, _, i, o, ho => by simp at ho
  | x :: r, k, h, 0, o, ho => by simp at ho; subst ho; exact h.1
  | x :: r, k, h, i + 1, o, ho => by
    have := stepAllK_spec r (k + 1) h.2 i o (by simpa using ho)
    rwa [show k + 1 + i = k + (i + 1) by omega] at this

section
variable {P : Program} {l : List Oper} {kill : Nat → Option Nat} {a : Act} {w : World} {F : Nat → Value → World → Prop} {Q : Exit → Act → World → Prop}

theorem wpAny_invK (hfit : fitB l a.tmps.size = true)
    (hstep : StepAllK P l kill a w F Q l 0) (hend : ∀ a' w', Grow w w' → Same l.toArray a a' → (∀ i, i < l.length → (∀ k, kill i = some k → ¬ k < l.length) → F i (valOf l.toArray a' i) w') → Q .normal a' w') :
    ∀ (fuel : Nat) (listed : Array Bool) (a' : Act) (w' : World), listed.size = l.length → listed.toList.countP (! ·) ≤ fuel → Grow w w' → Same l.toArray a a' →
      (∀ i o, l[i]? = some o → listed.getD i false = true → ∀ e ∈ o.after, Region.binds .any e = true → listed.getD e.on false = true) →
      (∀ i, listed.getD i false = true → (∀ k, kill i = some k → listed.getD k false = false) → F i (valOf l.toArray a' i) w') → wpAny P .any l.toArray Q fuel listed a' w' := by
  simp only [fitB, Bool.and_eq_true] at hfit
  obtain ⟨⟨⟨ht, hnd⟩, hsome⟩, hin⟩ := hfit
  rw [List.all_eq_true] at hsome
  have fin : ∀ (listed : Array Bool) (a' : Act) (w' : World), listed.size = l.length → Grow w w' → Same l.toArray a a' → (∀ i, listed.getD i false = true → (∀ k, kill i = some k → listed.getD k false = false) → F i (valOf l.toArray a' i) w') →
      Region.ready .any l.toArray listed = [] → Q .normal a' w' := fun listed a' w' hsz hg hs hF hr =>
    hend a' w' hg hs fun i hi hk => hF i (all_listed ht hsz hr (i + 1) i (by omega) hi) fun k e => by
      have := hk k e
      simp only [Array.getD]
      rw [dif_neg (by omega)]
  intro fuel
  induction fuel with
  | zero =>
    intro listed a' w' hsz hc hg hs hcl hF
    have hr : Region.ready .any l.toArray listed = [] := by
      cases hrr : Region.ready .any l.toArray listed with
      | nil => rfl
      | cons i r =>
        have hm : i ∈ Region.ready .any l.toArray listed := by rw [hrr]; simp
        have := count_set (mem_ready.1 hm).1
        omega
    exact ⟨hr, fin listed a' w' hsz hg hs hF hr⟩
  | succ fuel ih =>
    intro listed a' w' hsz hc hg hs hcl hF
    refine ⟨fin listed a' w' hsz hg hs hF, fun i hi => ?_⟩
    obtain ⟨hun, o, ho, hall⟩ := mem_ready.1 hi
    have ho' : l[i]? = some o := by simpa using ho
    have hil : i < l.length := (List.getElem?_eq_some_iff.1 ho').1
    have hunf : listed.getD i false = false := by
      have hi' : i < listed.size := by omega
      simp [hi'] at hun ⊢; exact hun
    have hcs := count_set hun
    obtain ⟨d, hd⟩ := Option.isSome_iff_exists.1 (hsome o (List.mem_of_getElem? ho'))
    have hdn : d < a'.tmps.size := by
      rw [hs.size]
      have := List.all_eq_true.1 hin d (List.mem_filterMap.2 ⟨o, List.mem_of_getElem? ho', hd⟩)
      simpa using this
    have h1 := stepAllK_spec l 0 hstep i o ho' a' w' hg hs (fun e he hb hu => hF e.on (hall e he hb) fun k hk => by
      unfold usesB at hu
      rw [hk] at hu
      have hki : k = i := by simpa using hu
      rw [hki]; exact hunf)
    rw [show 0 + i = i by omega] at h1
    have hset : ∀ j, j ≠ i → (listed.setIfInBounds i true).getD j false = listed.getD j false := fun j hj => getD_set_ne false (Ne.symm hj)
    have hseti : (listed.setIfInBounds i true).getD i false = true := by
      have hi' : i < listed.size := by omega
      simp [hi']
    have hcl' : ∀ i' o', l[i']? = some o' → (listed.setIfInBounds i true).getD i' false = true → ∀ e ∈ o'.after, Region.binds .any e = true → (listed.setIfInBounds i true).getD e.on false = true := by
      intro i' o' hio hli e he hb
      by_cases hei : e.on = i
      · rw [hei]; exact hseti
      · rw [hset _ hei]
        by_cases hii : i' = i
        · subst hii
          rw [ho'] at hio
          cases hio
          exact hall e he hb
        · rw [hset _ hii] at hli
          exact hcl i' o' hio hli e he hb
    have next : ∀ v w'', Grow w w'' → F i v w'' → (∀ j u, exemptB l kill i j = false → F j u w' → F j u w'') → wpAny P .any l.toArray Q fuel (listed.setIfInBounds i true) (a'.put o.dst v) w'' := fun v w'' hg' hv hkeep => by
      refine ih _ _ _ (by simp [hsz]) (by omega) hg' ⟨by rw [put_defers, hs.defers], by rw [put_size, hs.size], fun k hk => ?_⟩ hcl' (fun j hj hal => ?_)
      · rw [hd, getD_put a' d v k hdn, if_neg, hs.rest k hk]
        intro e
        have := List.all_eq_true.1 hk o (by simpa using List.mem_of_getElem? ho')
        simp [hd, e] at this
      · by_cases hji : j = i
        · subst hji
          have : valOf l.toArray (a'.put o.dst v) j = v := by
            simp only [valOf, ho, Option.bind_some, hd]
            rw [getD_put a' d v d hdn, if_pos rfl]
          rw [this]; exact hv
        · have hj' : listed.getD j false = true := by rwa [hset _ hji] at hj
          have : valOf l.toArray (a'.put o.dst v) j = valOf l.toArray a' j := by
            simp only [valOf]
            cases hoj : l.toArray[j]? with
            | none => rfl
            | some oj =>
              have hoj' : l[j]? = some oj := by simpa using hoj
              obtain ⟨dj, hdj⟩ := Option.isSome_iff_exists.1 (hsome oj (List.mem_of_getElem? hoj'))
              have hne := nodup_spec l hnd hsome j i oj o hoj' ho' hji
              simp only [Option.bind_some, hdj, hd]
              rw [getD_put a' d v dj hdn, if_neg]
              intro e
              rw [hdj, hd, e] at hne
              exact hne rfl
          rw [this]
          have hki : kill j ≠ some i := fun e => by
            have := hal i e
            rw [hseti] at this; cases this
          have hal' : ∀ k, kill j = some k → listed.getD k false = false := fun k e => by
            have := hal k e
            by_cases hk : k = i
            · subst hk; exact absurd e hki
            · rwa [hset _ hk] at this
          refine hkeep j _ ?_ (hF j hj' hal')
          cases hex : exemptB l kill i j
          · rfl
          · exfalso
            unfold exemptB at hex
            simp only [Bool.or_eq_true, beq_iff_eq] at hex
            rcases hex with ((h | h) | h) | h
            · exact hki h
            · unfold depB at h
              cases hoj : l[j]? with
              | none => rw [hoj] at h; cases h
              | some oj =>
                rw [hoj] at h
                simp only [List.any_eq_true, Bool.and_eq_true, beq_iff_eq] at h
                obtain ⟨e, he, hb, heq⟩ := h
                have := hcl j oj hoj hj' e (by simpa using he) hb
                rw [heq, hunf] at this; cases this
            · exact hji h
            · cases hkj : kill j with
              | none => rw [hkj] at h; cases h
              | some k' =>
                rw [hkj] at h
                unfold depB at h
                rw [ho'] at h
                simp only [List.any_eq_true, Bool.and_eq_true, beq_iff_eq] at h
                obtain ⟨e, he, hb, heq⟩ := h
                have h2 := hall e (by simpa using he) hb
                rw [heq, hal' k' hkj] at h2; cases h2
    unfold wpOp
    simp only [ho]
    split
    · rename_i hw
      rw [if_pos hw] at h1
      exact .inl (Oper.wp_mono (fun a'' w'' ⟨v, e, hg', hv, hkeep⟩ => by rw [e]; exact next v w'' hg' hv hkeep) h1)
    · rename_i hw
      rw [if_neg hw] at h1
      exact next undef w' hg h1 (fun _ _ _ h => h)

/-- A REGION THAT DRAWS ITS ORDER, WITH OPERATIONS THAT TAKE WHAT OTHERS HAVE MADE. -/
theorem wp_region_invK {id : Nat} (F : Nat → Value → World → Prop) (kill : Nat → Option Nat) (hm : P.follows .mixedOrders = true) (hfit : fitB l a.tmps.size = true)
    (hstep : StepAllK P l kill a w F Q l 0) (hend : ∀ a' w', Grow w w' → Same l.toArray a a' → (∀ i, i < l.length → (∀ k, kill i = some k → ¬ k < l.length) → F i (valOf l.toArray a' i) w') → Q .normal a' w') :
    (Code.region id l.toArray true).wp P Q a w := by
  refine wp_region_any hm (wpAny_invK hfit hstep hend _ _ a _ (by simp) ?_ ⟨rfl, rfl, rfl, Nat.le_refl _, fun _ _ => rfl⟩ ⟨rfl, rfl, fun _ _ => rfl⟩ (fun i o _ hi => ?_) (fun i hi => ?_))
  · exact Nat.le_trans (List.countP_le_length) (by simp)
  · by_cases h : i < l.length <;> simp [h] at hi
  · by_cases h : i < l.length <;> simp [h] at hi
end

/-- An operation that only grows the world. -/
theorem stepK_run {P : Program} {l : List Oper} {kill : Nat → Option Nat} {a : Act} {w : World} {F : Nat → Value → World → Prop} {Q : Exit → Act → World → Prop} {i : Nat} {o : Oper} (hstab : ∀ k v w1 w2, Grow w1 w2 → F k v w1 → F k v w2) (hgt : GuardT F o)
    (hgu : ∀ j b, o.guard = some (j, b) → usesB kill i j = true)
    (h : ∀ a' w', Grow w w' → Same l.toArray a a' → (∀ e ∈ o.after, Region.binds .any e = true → usesB kill i e.on = true → F e.on (valOf l.toArray a' e.on) w') → o.wp P a' w' (fun a'' w'' => ∃ v, a'' = a'.put o.dst v ∧ Grow w' w'' ∧ F i v w'') Q) :
    StepK P l kill a w F Q i o := by
  intro a' w' hg hs hd
  have hw : Region.wanted o (yielded l.toArray a'.tmps) = true := by
    unfold GuardT at hgt
    unfold Region.wanted
    cases hgd : o.guard with
    | none => rfl
    | some jb =>
      obtain ⟨j, b⟩ := jb
      rw [hgd] at hgt
      obtain ⟨⟨e, he, hj, hb⟩, hv⟩ := hgt
      have := hd e he hb (by rw [hj]; exact hgu j b hgd)
      rw [hj] at this
      simp [yielded_of (hv _ _ this)]
  rw [if_pos hw]
  exact Oper.wp_mono (fun a'' w'' ⟨v, e, hg', hv⟩ => ⟨v, e, hg.trans' hg', hv, fun j u _ hj => hstab j u _ _ hg' hj⟩) (h a' w' hg hs hd)
/-- An operation without a guard that takes what another has made. -/
theorem stepK_take {P : Program} {l : List Oper} {kill : Nat → Option Nat} {a : Act} {w : World} {F : Nat → Value → World → Prop} {Q : Exit → Act → World → Prop} {i : Nat} {o : Oper} (hgd : o.guard = none)
    (h : ∀ a' w', Grow w w' → Same l.toArray a a' → (∀ e ∈ o.after, Region.binds .any e = true → usesB kill i e.on = true → F e.on (valOf l.toArray a' e.on) w') → o.wp P a' w' (fun a'' w'' => ∃ v, a'' = a'.put o.dst v ∧ Grow w w'' ∧ F i v w'' ∧ ∀ j u, exemptB l kill i j = false → F j u w' → F j u w'') Q) :
    StepK P l kill a w F Q i o := by
  intro a' w' hg hs hd
  have hw : Region.wanted o (yielded l.toArray a'.tmps) = true := by unfold Region.wanted; rw [hgd]
  rw [if_pos hw]
  exact h a' w' hg hs hd
/-- An operation that is not run: its guard's operation is known to yield the other. -/
theorem stepK_skip {P : Program} {l : List Oper} {kill : Nat → Option Nat} {a : Act} {w : World} {F : Nat → Value → World → Prop} {Q : Exit → Act → World → Prop} {i : Nat} {o : Oper} {j : Nat} {b : Bool} (hgd : o.guard = some (j, b))
    (he : ∃ e ∈ o.after, e.on = j ∧ Region.binds .any e = true) (hu : usesB kill i j = true) (hv : ∀ v w, F j v w → v = .bool !b) (hF : ∀ v w, F i v w) : StepK P l kill a w F Q i o := by
  intro a' w' hg hs hd
  obtain ⟨e, he, hj, hb⟩ := he
  have h1 := hd e he hb (by rw [hj]; exact hu)
  rw [hj] at h1
  have hw : ¬ Region.wanted o (yielded l.toArray a'.tmps) = true := by
    unfold Region.wanted
    rw [hgd]
    simp [yielded_of (hv _ _ h1)]
  rw [if_neg hw]
  exact hF _ _

end Go.Proofs.YtehianjfpmbfpaaGreat
end

section
/-
  A region that draws its order, whose last operation (it waits for all others) may turn what was there: walked by what each operation's value is known by. Own text; it speaks of no program.
-/
namespace Go.Proofs.YtehianjfpmbfpaaGreat
open Go.RowKit
set_option linter.unusedVariables false

/-- Each operation but the last has one behind it that waits for it. -/
def sinkB (l : List Oper) : Bool := (List.range (l.length - 1)).all fun i => (List.range l.length).any fun k => decide (i < k) && depB l k i
def fitE (l : List Oper) (n : Nat) : Bool := topoFrom l 0 && nodupB (dsts l.dropLast) && (l.dropLast.all fun o => o.dst.isSome) && ((dsts l).all fun d => decide (d < n)) && sinkB l

def StepMost (P : Program) (ops : Array Oper) (a : Act) (w : World) (F : Nat → Value → World → Prop) (Q : Exit → Act → World → Prop) : List Oper → Nat → Prop
  | [], _ => True
  | [_], _ => True
  | o :: r :: m, i => StepOne P ops a w F Q i o ∧ StepMost P ops a w F Q (r :: m) (i + 1)

theorem stepMost_spec {P : Program} {ops : Array Oper} {a : Act} {w : World} {F : Nat → Value → World → Prop} {Q : Exit → Act → World → Prop} :
    ∀ (l : List Oper) (k : Nat), StepMost P ops a w F Q l k → ∀ i o, i + 1 < l.length → l[i]? = some o → StepOne P ops a w F Q (k + i) o
  | [], _, _, i, o, hi, ho => by simp at hi
  | [_], _, _, i, o, hi, ho => by simp at hi
  | x :: r :: m, k, h, 0, o, hi, ho => by simp at ho; subst ho; exact h.1
  | x :: r :: m, k, h, i + 1, o, hi, ho => by
    have := stepMost_spec (r :: m) (k + 1) h.2 i o (by simpa using hi) (by simpa using ho)
    rwa [show k + 1 + i = k + (i + 1) by omega] at this

section
variable {P : Program} {l : List Oper} {a : Act} {w : World} {F : Nat → Value → World → Prop} {Q : Exit → Act → World → Prop}

theorem wpAny_done {listed : Array Bool} (hsz : listed.size = l.length) (hall : ∀ i, i < l.length → listed.getD i false = true) (a : Act) (w : World) (hQ : Q .normal a w) : ∀ fuel, wpAny P .any l.toArray Q fuel listed a w := by
  have hr : Region.ready .any l.toArray listed = [] := by
    cases hrr : Region.ready .any l.toArray listed with
    | nil => rfl
    | cons i r =>
      have hm : i ∈ Region.ready .any l.toArray listed := by rw [hrr]; simp
      obtain ⟨hun, o, ho, _⟩ := mem_ready.1 hm
      have ho' : l[i]? = some o := by simpa using ho
      have hil : i < l.length := (List.getElem?_eq_some_iff.1 ho').1
      have := hall i hil
      have hi' : i < listed.size := by omega
      simp [hi'] at hun this
      rw [hun] at this; cases this
  intro fuel
  cases fuel with
  | zero => exact ⟨hr, hQ⟩
  | succ f => exact ⟨fun _ => hQ, fun i hi => by rw [hr] at hi; cases hi⟩

theorem all_before {m : Nat} (hl : l.length = m + 1) (hsink : sinkB l = true) {z : Oper} (hz : l[m]? = some z) {listed : Array Bool}
    (hcl : ∀ i o, l[i]? = some o → listed.getD i false = true → ∀ e ∈ o.after, Region.binds .any e = true → listed.getD e.on false = true)
    (hall : ∀ e ∈ z.after, Region.binds .any e = true → listed.getD e.on false = true) : ∀ d i, m - i ≤ d → i < m → listed.getD i false = true := by
  intro d
  induction d with
  | zero => intro i h1 h2; omega
  | succ d ih =>
    intro i h1 h2
    unfold sinkB at hsink
    rw [List.all_eq_true] at hsink
    have h3 := hsink i (List.mem_range.2 (by omega))
    rw [List.any_eq_true] at h3
    obtain ⟨k, hk, h4⟩ := h3
    have hkl := List.mem_range.1 hk
    simp only [Bool.and_eq_true, decide_eq_true_eq] at h4
    obtain ⟨hik, hdep⟩ := h4
    unfold depB at hdep
    obtain ⟨o, ho⟩ : ∃ o, l[k]? = some o := ⟨l[k], List.getElem?_eq_getElem hkl⟩
    rw [ho] at hdep
    simp only [List.any_eq_true, Bool.and_eq_true, beq_iff_eq] at hdep
    obtain ⟨e, he, hb, heq⟩ := hdep
    by_cases hkm : k = m
    · subst hkm
      rw [hz] at ho; cases ho
      rw [← heq]; exact hall e (by simpa using he) hb
    · have := ih k (by omega) (by omega)
      rw [← heq]; exact hcl k o ho this e (by simpa using he) hb

theorem wpAny_end {m : Nat} (hl : l.length = m + 1) (hfit : fitE l a.tmps.size = true) {z : Oper} (hz : l[m]? = some z) (hzg : z.guard = none) (hstab : ∀ k v w1 w2, Grow w1 w2 → F k v w1 → F k v w2)
    (hstep : StepMost P l.toArray a w F Q l 0)
    (hlast : ∀ a' w', Grow w w' → Same l.toArray a a' → (∀ i, i < m → F i (valOf l.toArray a' i) w') → z.wp P a' w' (fun a'' w'' => Q .normal a'' w'') Q) :
    ∀ (fuel : Nat) (listed : Array Bool) (a' : Act) (w' : World), listed.size = l.length → listed.toList.countP (! ·) ≤ fuel → Grow w w' → Same l.toArray a a' →
      (∀ i o, l[i]? = some o → listed.getD i false = true → ∀ e ∈ o.after, Region.binds .any e = true → listed.getD e.on false = true) →
      listed.getD m false = false → (∀ i, i < m → listed.getD i false = true → F i (valOf l.toArray a' i) w') → wpAny P .any l.toArray Q fuel listed a' w' := by
  simp only [fitE, Bool.and_eq_true] at hfit
  obtain ⟨⟨⟨⟨ht, hnd⟩, hsome⟩, hin⟩, hsink⟩ := hfit
  rw [List.all_eq_true] at hsome
  have hget : ∀ {i o}, i < m → l[i]? = some o → l.dropLast[i]? = some o := fun {i o} hi ho => by
    rw [List.getElem?_dropLast, if_pos (by omega)]; exact ho
  intro fuel
  induction fuel with
  | zero =>
    intro listed a' w' hsz hc hg hs hcl hmf hF
    have hm' : listed.getD m true = false := by
      have hi' : m < listed.size := by omega
      simp [hi'] at hmf ⊢; exact hmf
    have := count_set hm'
    omega
  | succ fuel ih =>
    intro listed a' w' hsz hc hg hs hcl hmf hF
    refine ⟨fun hr => ?_, fun i hi => ?_⟩
    · have := all_listed ht hsz hr (m + 1) m (by omega) (by omega)
      rw [hmf] at this; cases this
    obtain ⟨hun, o, ho, hall⟩ := mem_ready.1 hi
    have ho' : l[i]? = some o := by simpa using ho
    have hil : i < l.length := (List.getElem?_eq_some_iff.1 ho').1
    have hcs := count_set hun
    have hset : ∀ j, j ≠ i → (listed.setIfInBounds i true).getD j false = listed.getD j false := fun j hj => getD_set_ne false (Ne.symm hj)
    have hseti : (listed.setIfInBounds i true).getD i false = true := by
      have hi' : i < listed.size := by omega
      simp [hi']
    by_cases him : i = m
    · subst him
      rw [hz] at ho'; cases ho'
      have hb := all_before hl hsink hz hcl hall
      have h1 := hlast a' w' hg hs fun j hj => hF j hj (hb _ j (Nat.le_refl _) hj)
      unfold wpOp
      simp only [ho]
      have hw : Region.wanted z (yielded l.toArray a'.tmps) = true := by unfold Region.wanted; rw [hzg]
      rw [if_pos hw]
      refine .inl (Oper.wp_mono (fun a'' w'' hq => ?_) h1)
      refine wpAny_done (by simp [hsz]) (fun j hj => ?_) _ _ hq _
      by_cases hji : j = i
      · subst hji; exact hseti
      · rw [hset _ hji]; exact hb _ j (Nat.le_refl _) (by omega)
    · have him' : i < m := by omega
      obtain ⟨d, hd⟩ := Option.isSome_iff_exists.1 (hsome o (List.mem_of_getElem? (hget him' ho')))
      have hdn : d < a'.tmps.size := by
        rw [hs.size]
        have := List.all_eq_true.1 hin d (List.mem_filterMap.2 ⟨o, List.mem_of_getElem? ho', hd⟩)
        simpa using this
      have h1 := stepMost_spec l 0 hstep i o (by omega) ho' a' w' hg hs (fun e he hb => by
        have hlt := topo_spec l 0 ht i o ho' e he hb
        exact hF e.on (by omega) (hall e he hb))
      rw [show 0 + i = i by omega] at h1
      have hcl' : ∀ i' o', l[i']? = some o' → (listed.setIfInBounds i true).getD i' false = true → ∀ e ∈ o'.after, Region.binds .any e = true → (listed.setIfInBounds i true).getD e.on false = true := by
        intro i' o' hio hli e he hb
        by_cases hei : e.on = i
        · rw [hei]; exact hseti
        · rw [hset _ hei]
          by_cases hii : i' = i
          · subst hii
            rw [ho'] at hio
            cases hio
            exact hall e he hb
          · rw [hset _ hii] at hli
            exact hcl i' o' hio hli e he hb
      have next : ∀ v w'', Grow w' w'' → F i v w'' → wpAny P .any l.toArray Q fuel (listed.setIfInBounds i true) (a'.put o.dst v) w'' := fun v w'' hg' hv => by
        refine ih _ _ _ (by simp [hsz]) (by omega) (hg.trans' hg') ⟨by rw [put_defers, hs.defers], by rw [put_size, hs.size], fun k hk => ?_⟩ hcl' (by rw [hset _ (Ne.symm him)]; exact hmf) (fun j hjm hj => ?_)
        · rw [hd, getD_put a' d v k hdn, if_neg, hs.rest k hk]
          intro e
          have := List.all_eq_true.1 hk o (by simpa using List.mem_of_getElem? ho')
          simp [hd, e] at this
        · by_cases hji : j = i
          · subst hji
            have : valOf l.toArray (a'.put o.dst v) j = v := by
              simp only [valOf, ho, Option.bind_some, hd]
              rw [getD_put a' d v d hdn, if_pos rfl]
            rw [this]; exact hv
          · have hj' : listed.getD j false = true := by rwa [hset _ hji] at hj
            have : valOf l.toArray (a'.put o.dst v) j = valOf l.toArray a' j := by
              simp only [valOf]
              cases hoj : l.toArray[j]? with
              | none => rfl
              | some oj =>
                have hoj' : l[j]? = some oj := by simpa using hoj
                obtain ⟨dj, hdj⟩ := Option.isSome_iff_exists.1 (hsome oj (List.mem_of_getElem? (hget hjm hoj')))
                have hne := nodup_spec l.dropLast hnd hsome j i oj o (hget hjm hoj') (hget him' ho') hji
                simp only [Option.bind_some, hdj, hd]
                rw [getD_put a' d v dj hdn, if_neg]
                intro e
                rw [hdj, hd, e] at hne
                exact hne rfl
            rw [this]
            exact hstab _ _ _ _ hg' (hF j hjm hj')
      unfold wpOp
      simp only [ho]
      split
      · rename_i hw
        rw [if_pos hw] at h1
        exact .inl (Oper.wp_mono (fun a'' w'' ⟨v, e, hg', hv⟩ => by rw [e]; exact next v w'' hg' hv) h1)
      · rename_i hw
        rw [if_neg hw] at h1
        exact next undef w' (Grow.rfl' _) h1

/-- A REGION THAT DRAWS ITS ORDER; ITS LAST OPERATION IS FREE. -/
theorem wp_region_end {id : Nat} (F : Nat → Value → World → Prop) (m : Nat) (z : Oper) (hl : l.length = m + 1) (hz : l[m]? = some z) (hzg : z.guard = none) (hm : P.follows .mixedOrders = true) (hfit : fitE l a.tmps.size = true) (hstab : ∀ k v w1 w2, Grow w1 w2 → F k v w1 → F k v w2)
    (hstep : StepMost P l.toArray a w F Q l 0)
    (hlast : ∀ a' w', Grow w w' → Same l.toArray a a' → (∀ i, i < m → F i (valOf l.toArray a' i) w') → z.wp P a' w' (fun a'' w'' => Q .normal a'' w'') Q) :
    (Code.region id l.toArray true).wp P Q a w := by
  refine wp_region_any hm (wpAny_end hl hfit hz hzg hstab hstep hlast _ _ a _ (by simp) ?_ ⟨rfl, rfl, rfl, Nat.le_refl _, fun _ _ => rfl⟩ ⟨rfl, rfl, fun _ _ => rfl⟩ (fun i o _ hi => ?_) (by simp only [Array.getD_eq_getD_getElem?, List.size_toArray, Array.getElem?_replicate]; split <;> rfl) (fun i _ hi => ?_))
  · exact Nat.le_trans (List.countP_le_length) (by simp)
  · by_cases h : i < l.length <;> simp [h] at hi
  · by_cases h : i < l.length <;> simp [h] at hi
end

theorem wps {P : Program} {o : Oper} {a : Act} {w w' : World} {K : Act → World → Prop} {Q : Exit → Act → World → Prop} (h : (execOp a.eval o).run P w = .ok .skip w') (hk : K (a.put o.dst undef) w') : o.wp P a w K Q := by
  unfold Oper.wp; rw [h]; exact hk

/-- The frame behind a region: slots that it does not write are as they were. -/
def mergeL (T : Array Value) : List Value → List Bool → Nat → List Value
  | [], _, _ => []
  | _ :: r, true :: m, i => T.getD i undef :: mergeL T r m (i + 1)
  | v :: r, false :: m, i => v :: mergeL T r m (i + 1)
  | v :: r, [], i => v :: mergeL T r [] (i + 1)
theorem mergeL_get (T : Array Value) : ∀ (l : List Value) (m : List Bool) (k i : Nat) (h : i < l.length), (mergeL T l m k)[i]? = some (if m.getD i false = true then T.getD (k + i) undef else l[i])
  | [], _, _, i, h => by simp at h
  | v :: r, true :: m, k, 0, h => by simp [mergeL]
  | v :: r, false :: m, k, 0, h => by simp [mergeL]
  | v :: r, [], k, 0, h => by simp [mergeL]
  | v :: r, true :: m, k, i + 1, h => by
    have := mergeL_get T r m (k + 1) i (by simpa using h)
    simp only [mergeL, List.getElem?_cons_succ, this, List.getD_cons_succ, List.getElem_cons_succ, show k + 1 + i = k + (i + 1) by omega]
  | v :: r, false :: m, k, i + 1, h => by
    have := mergeL_get T r m (k + 1) i (by simpa using h)
    simp only [mergeL, List.getElem?_cons_succ, this, List.getD_cons_succ, List.getElem_cons_succ, show k + 1 + i = k + (i + 1) by omega]
  | v :: r, [], k, i + 1, h => by
    have := mergeL_get T r [] (k + 1) i (by simpa using h)
    simp only [mergeL, List.getElem?_cons_succ, this, List.getElem_cons_succ, show k + 1 + i = k + (i + 1) by omega]
    simp
theorem mergeL_len (T : Array Value) : ∀ (l : List Value) (m : List Bool) (k : Nat), (mergeL T l m k).length = l.length
  | [], _, _ => rfl
  | v :: r, true :: m, k => by simp [mergeL, mergeL_len T r m]
  | v :: r, false :: m, k => by simp [mergeL, mergeL_len T r m]
  | v :: r, [], k => by simp [mergeL, mergeL_len T r []]
theorem frame_eq {ops : Array Oper} {a a' : Act} (h : Same ops a a') (m : List Bool) (hm : ((List.range a.tmps.size).all fun i => m.getD i false || ops.toList.all fun o => decide (o.dst ≠ some i)) = true) :
    a' = ⟨(mergeL a'.tmps a.tmps.toList m 0).toArray, a.defers⟩ := by
  obtain ⟨T, D⟩ := a'
  have h1 : D = a.defers := h.defers
  have h2 : T.size = a.tmps.size := h.size
  subst h1
  congr 1
  apply Array.ext_getElem?
  intro i
  by_cases hi : i < a.tmps.size
  · have e := mergeL_get T a.tmps.toList m 0 i (by simpa using hi)
    have e2 : (mergeL T a.tmps.toList m 0).toArray[i]? = (mergeL T a.tmps.toList m 0)[i]? := by simp
    show T[i]? = _
    rw [e2, e]
    have hT : T[i]? = some (T.getD i undef) := by simp [Array.getD, h2, hi]
    rw [hT]
    congr 1
    split
    · rw [Nat.zero_add]
    · rename_i hf
      have h3 := List.all_eq_true.1 hm i (List.mem_range.2 hi)
      rw [Bool.or_eq_true] at h3
      have h4 := h.rest i (h3.resolve_left hf)
      have h5 : T.getD i undef = a.tmps.getD i undef := h4
      rw [h5]
      simp [Array.getD, hi]
  · have e2 : (mergeL T a.tmps.toList m 0).toArray[i]? = (mergeL T a.tmps.toList m 0)[i]? := by simp
    show T[i]? = _
    rw [e2, Array.getElem?_eq_none (by omega), List.getElem?_eq_none (by rw [mergeL_len]; simp; omega)]

end Go.Proofs.YtehianjfpmbfpaaGreat
end

section
/-
  A region that draws its order, some of whose operations take what was there or what others have made, and whose last operation is free: walked by what each operation's value is known by. Own text; it speaks of no program.
-/
namespace Go.Proofs.YtehianjfpmbfpaaGreat
open Go.RowKit
set_option linter.unusedVariables false

/-- Operation i may lean on the initial fact, which operation kB takes. -/
def useB (l : List Oper) (kB i : Nat) : Bool := depB l kB i || i == kB

def StepG (P : Program) (l : List Oper) (kill : Nat → Option Nat) (kB : Nat) (a : Act) (G B : World → Prop) (F : Nat → Value → World → Prop) (Q : Exit → Act → World → Prop) (i : Nat) (o : Oper) : Prop :=
  ∀ a' w', G w' → Same l.dropLast.toArray a a' → (∀ e ∈ o.after, Region.binds .any e = true → usesB kill i e.on = true → F e.on (valOf l.toArray a' e.on) w') → (useB l kB i = true → B w') →
    if Region.wanted o (yielded l.toArray a'.tmps) = true then o.wp P a' w' (fun a'' w'' => ∃ v, a'' = a'.put o.dst v ∧ G w'' ∧ F i v w'' ∧ (∀ j u, exemptB l kill i j = false → F j u w' → F j u w'') ∧ (i ≠ kB → B w' → B w'')) Q else F i undef w'

def StepMostG (P : Program) (l : List Oper) (kill : Nat → Option Nat) (kB : Nat) (a : Act) (G B : World → Prop) (F : Nat → Value → World → Prop) (Q : Exit → Act → World → Prop) : List Oper → Nat → Prop
  | [], _ => True
  | [_], _ => True
  | o :: r :: m, i => StepG P l kill kB a G B F Q i o ∧ StepMostG P l kill kB a G B F Q (r :: m) (i + 1)

section
variable {P : Program} {l : List Oper} {kill : Nat → Option Nat} {kB : Nat} {a : Act} {G B : World → Prop} {F : Nat → Value → World → Prop} {Q : Exit → Act → World → Prop}

theorem stepMostG_spec : ∀ (r : List Oper) (k : Nat), StepMostG P l kill kB a G B F Q r k → ∀ i o, i + 1 < r.length → r[i]? = some o → StepG P l kill kB a G B F Q (k + i) o
  | [], _, _, i, o, hi, ho => by simp at hi
  | [_], _, _, i, o, hi, ho => by simp at hi
  | x :: r :: m, k, h, 0, o, hi, ho => by simp at ho; subst ho; exact h.1
  | x :: r :: m, k, h, i + 1, o, hi, ho => by
    have := stepMostG_spec (r :: m) (k + 1) h.2 i o (by simpa using hi) (by simpa using ho)
    rwa [show k + 1 + i = k + (i + 1) by omega] at this

theorem wpAny_endG {m : Nat} (hl : l.length = m + 1) (hfit : fitE l a.tmps.size = true) {z : Oper} (hz : l[m]? = some z) (hzg : z.guard = none)
    (hstep : StepMostG P l kill kB a G B F Q l 0)
    (hlast : ∀ a' w', G w' → Same l.dropLast.toArray a a' → (∀ i, i < m → kill i = none → F i (valOf l.toArray a' i) w') → z.wp P a' w' (fun a'' w'' => Q .normal a'' w'') Q) :
    ∀ (fuel : Nat) (listed : Array Bool) (a' : Act) (w' : World), listed.size = l.length → listed.toList.countP (! ·) ≤ fuel → G w' → Same l.dropLast.toArray a a' →
      (∀ i o, l[i]? = some o → listed.getD i false = true → ∀ e ∈ o.after, Region.binds .any e = true → listed.getD e.on false = true) →
      listed.getD m false = false → (∀ i, i < m → listed.getD i false = true → (∀ k, kill i = some k → listed.getD k false = false) → F i (valOf l.toArray a' i) w') → (listed.getD kB false = false → B w') → wpAny P .any l.toArray Q fuel listed a' w' := by
  simp only [fitE, Bool.and_eq_true] at hfit
  obtain ⟨⟨⟨⟨ht, hnd⟩, hsome⟩, hin⟩, hsink⟩ := hfit
  rw [List.all_eq_true] at hsome
  have hget : ∀ {i o}, i < m → l[i]? = some o → l.dropLast[i]? = some o := fun {i o} hi ho => by
    rw [List.getElem?_dropLast, if_pos (by omega)]; exact ho
  intro fuel
  induction fuel with
  | zero =>
    intro listed a' w' hsz hc hg hs hcl hmf hF hB
    have hm' : listed.getD m true = false := by
      have hi' : m < listed.size := by omega
      simp [hi'] at hmf ⊢; exact hmf
    have := count_set hm'
    omega
  | succ fuel ih =>
    intro listed a' w' hsz hc hg hs hcl hmf hF hB
    refine ⟨fun hr => ?_, fun i hi => ?_⟩
    · have := all_listed ht hsz hr (m + 1) m (by omega) (by omega)
      rw [hmf] at this; cases this
    obtain ⟨hun, o, ho, hall⟩ := mem_ready.1 hi
    have ho' : l[i]? = some o := by simpa using ho
    have hil : i < l.length := (List.getElem?_eq_some_iff.1 ho').1
    have hcs := count_set hun
    have hunf : listed.getD i false = false := by
      have hi' : i < listed.size := by omega
      simp [hi'] at hun ⊢; exact hun
    have hset : ∀ j, j ≠ i → (listed.setIfInBounds i true).getD j false = listed.getD j false := fun j hj => getD_set_ne false (Ne.symm hj)
    have hseti : (listed.setIfInBounds i true).getD i false = true := by
      have hi' : i < listed.size := by omega
      simp [hi']
    by_cases him : i = m
    · subst him
      rw [hz] at ho'; cases ho'
      have hb := all_before hl hsink hz hcl hall
      have h1 := hlast a' w' hg hs fun j hj hk => hF j hj (hb _ j (Nat.le_refl _) hj) (fun k e => by rw [hk] at e; cases e)
      unfold wpOp
      simp only [ho]
      have hw : Region.wanted z (yielded l.toArray a'.tmps) = true := by unfold Region.wanted; rw [hzg]
      rw [if_pos hw]
      refine .inl (Oper.wp_mono (fun a'' w'' hq => ?_) h1)
      refine wpAny_done (by simp [hsz]) (fun j hj => ?_) _ _ hq _
      by_cases hji : j = i
      · subst hji; exact hseti
      · rw [hset _ hji]; exact hb _ j (Nat.le_refl _) (by omega)
    · have him' : i < m := by omega
      obtain ⟨d, hd⟩ := Option.isSome_iff_exists.1 (hsome o (List.mem_of_getElem? (hget him' ho')))
      have hdn : d < a'.tmps.size := by
        rw [hs.size]
        have := List.all_eq_true.1 hin d (List.mem_filterMap.2 ⟨o, List.mem_of_getElem? ho', hd⟩)
        simpa using this
      have hst := stepMostG_spec l 0 hstep i o (by omega) ho'
      rw [Nat.zero_add] at hst
      have h1 := hst a' w' hg hs (fun e he hb hu => by
        have hlt := topo_spec l 0 ht i o ho' e he hb
        refine hF e.on (by omega) (hall e he hb) fun k hk => ?_
        unfold usesB at hu
        rw [hk] at hu
        have hki : k = i := by simpa using hu
        rw [hki]; exact hunf) (fun hu => by
        refine hB ?_
        unfold useB at hu
        rw [Bool.or_eq_true] at hu
        rcases hu with hu | hu
        · cases hkb : listed.getD kB false
          · rfl
          · exfalso
            unfold depB at hu
            cases hok : l[kB]? with
            | none => rw [hok] at hu; cases hu
            | some ok =>
              rw [hok] at hu
              simp only [List.any_eq_true, Bool.and_eq_true, beq_iff_eq] at hu
              obtain ⟨e, he, hb, heq⟩ := hu
              have := hcl kB ok hok hkb e (by simpa using he) hb
              rw [heq, hunf] at this; cases this
        · have hu' : i = kB := by simpa using hu
          rw [← hu']; exact hunf)
      have hcl' : ∀ i' o', l[i']? = some o' → (listed.setIfInBounds i true).getD i' false = true → ∀ e ∈ o'.after, Region.binds .any e = true → (listed.setIfInBounds i true).getD e.on false = true := by
        intro i' o' hio hli e he hb
        by_cases hei : e.on = i
        · rw [hei]; exact hseti
        · rw [hset _ hei]
          by_cases hii : i' = i
          · subst hii
            rw [ho'] at hio
            cases hio
            exact hall e he hb
          · rw [hset _ hii] at hli
            exact hcl i' o' hio hli e he hb
      have next : ∀ v w'', G w'' → F i v w'' → (∀ j u, exemptB l kill i j = false → F j u w' → F j u w'') → (i ≠ kB → B w' → B w'') → wpAny P .any l.toArray Q fuel (listed.setIfInBounds i true) (a'.put o.dst v) w'' := fun v w'' hg' hv hkeep hkB => by
        refine ih _ _ _ (by simp [hsz]) (by omega) hg' ⟨by rw [put_defers, hs.defers], by rw [put_size, hs.size], fun k hk => ?_⟩ hcl' (by rw [hset _ (Ne.symm him)]; exact hmf) (fun j hjm hj hal => ?_) (fun hkb => ?_)
        · rw [hd, getD_put a' d v k hdn, if_neg, hs.rest k hk]
          intro e
          have := List.all_eq_true.1 hk o (by simpa using List.mem_of_getElem? (hget him' ho'))
          simp [hd, e] at this
        · by_cases hji : j = i
          · subst hji
            have : valOf l.toArray (a'.put o.dst v) j = v := by
              simp only [valOf, ho, Option.bind_some, hd]
              rw [getD_put a' d v d hdn, if_pos rfl]
            rw [this]; exact hv
          · have hj' : listed.getD j false = true := by rwa [hset _ hji] at hj
            have : valOf l.toArray (a'.put o.dst v) j = valOf l.toArray a' j := by
              simp only [valOf]
              cases hoj : l.toArray[j]? with
              | none => rfl
              | some oj =>
                have hoj' : l[j]? = some oj := by simpa using hoj
                obtain ⟨dj, hdj⟩ := Option.isSome_iff_exists.1 (hsome oj (List.mem_of_getElem? (hget hjm hoj')))
                have hne := nodup_spec l.dropLast hnd hsome j i oj o (hget hjm hoj') (hget him' ho') hji
                simp only [Option.bind_some, hdj, hd]
                rw [getD_put a' d v dj hdn, if_neg]
                intro e
                rw [hdj, hd, e] at hne
                exact hne rfl
            rw [this]
            have hki : kill j ≠ some i := fun e => by
              have := hal i e
              rw [hseti] at this; cases this
            have hal' : ∀ k, kill j = some k → listed.getD k false = false := fun k e => by
              have := hal k e
              by_cases hk : k = i
              · subst hk; exact absurd e hki
              · rwa [hset _ hk] at this
            refine hkeep j _ ?_ (hF j hjm hj' hal')
            cases hex : exemptB l kill i j
            · rfl
            · exfalso
              unfold exemptB at hex
              simp only [Bool.or_eq_true, beq_iff_eq] at hex
              rcases hex with ((h | h) | h) | h
              · exact hki h
              · unfold depB at h
                cases hoj : l[j]? with
                | none => rw [hoj] at h; cases h
                | some oj =>
                  rw [hoj] at h
                  simp only [List.any_eq_true, Bool.and_eq_true, beq_iff_eq] at h
                  obtain ⟨e, he, hb, heq⟩ := h
                  have := hcl j oj hoj hj' e (by simpa using he) hb
                  rw [heq, hunf] at this; cases this
              · exact hji h
              · cases hkj : kill j with
                | none => rw [hkj] at h; cases h
                | some k' =>
                  rw [hkj] at h
                  unfold depB at h
                  rw [ho'] at h
                  simp only [List.any_eq_true, Bool.and_eq_true, beq_iff_eq] at h
                  obtain ⟨e, he, hb, heq⟩ := h
                  have h2 := hall e (by simpa using he) hb
                  rw [heq, hal' k' hkj] at h2; cases h2
        · by_cases hik : i = kB
          · exfalso
            rw [← hik, hseti] at hkb; cases hkb
          · refine hkB hik (hB ?_)
            rw [hset _ (Ne.symm hik)] at hkb; exact hkb
      unfold wpOp
      simp only [ho]
      split
      · rename_i hw
        rw [if_pos hw] at h1
        exact .inl (Oper.wp_mono (fun a'' w'' ⟨v, e, hg', hv, hkeep, hkB⟩ => by rw [e]; exact next v w'' hg' hv hkeep hkB) h1)
      · rename_i hw
        rw [if_neg hw] at h1
        exact next undef w' hg h1 (fun _ _ _ h => h) (fun _ h => h)

/-- A REGION THAT DRAWS ITS ORDER, WITH OPERATIONS THAT TAKE WHAT WAS THERE; ITS LAST IS FREE. -/
theorem wp_region_endG {id : Nat} {w : World} (F : Nat → Value → World → Prop) (G B : World → Prop) (kill : Nat → Option Nat) (kB m : Nat) (z : Oper) (hl : l.length = m + 1) (hz : l[m]? = some z) (hzg : z.guard = none) (hm : P.follows .mixedOrders = true) (hfit : fitE l a.tmps.size = true)
    (hG : ∀ w', Grow w w' → w'.heap = w.heap → G w') (hB : ∀ w', Grow w w' → w'.heap = w.heap → B w')
    (hstep : StepMostG P l kill kB a G B F Q l 0)
    (hlast : ∀ a' w', G w' → Same l.dropLast.toArray a a' → (∀ i, i < m → kill i = none → F i (valOf l.toArray a' i) w') → z.wp P a' w' (fun a'' w'' => Q .normal a'' w'') Q) :
    (Code.region id l.toArray true).wp P Q a w := by
  refine wp_region_any hm (wpAny_endG hl hfit hz hzg hstep hlast _ _ a _ (by simp) ?_ (hG _ ⟨rfl, rfl, rfl, Nat.le_refl _, fun _ _ => rfl⟩ rfl) ⟨rfl, rfl, fun _ _ => rfl⟩ (fun i o _ hi => ?_) (by simp only [Array.getD_eq_getD_getElem?, List.size_toArray, Array.getElem?_replicate]; split <;> rfl) (fun i _ hi => ?_) (fun _ => hB _ ⟨rfl, rfl, rfl, Nat.le_refl _, fun _ _ => rfl⟩ rfl))
  · exact Nat.le_trans (List.countP_le_length) (by simp)
  · by_cases h : i < l.length <;> simp [h] at hi
  · by_cases h : i < l.length <;> simp [h] at hi

/-- An operation that only grows the world. -/
theorem stepG_run {i : Nat} {o : Oper} (hGg : ∀ w1 w2, G w1 → Grow w1 w2 → G w2) (hBg : ∀ w1 w2, Grow w1 w2 → B w1 → B w2) (hstab : ∀ k v w1 w2, Grow w1 w2 → F k v w1 → F k v w2) (hgd : o.guard = none)
    (h : ∀ a' w', G w' → Same l.dropLast.toArray a a' → (∀ e ∈ o.after, Region.binds .any e = true → usesB kill i e.on = true → F e.on (valOf l.toArray a' e.on) w') → (useB l kB i = true → B w') → o.wp P a' w' (fun a'' w'' => ∃ v, a'' = a'.put o.dst v ∧ Grow w' w'' ∧ F i v w'') Q) :
    StepG P l kill kB a G B F Q i o := by
  intro a' w' hg hs hd hb
  have hw : Region.wanted o (yielded l.toArray a'.tmps) = true := by unfold Region.wanted; rw [hgd]
  rw [if_pos hw]
  exact Oper.wp_mono (fun a'' w'' ⟨v, e, hg', hv⟩ => ⟨v, e, hGg _ _ hg hg', hv, fun j u _ hj => hstab j u _ _ hg' hj, fun _ hb' => hBg _ _ hg' hb'⟩) (h a' w' hg hs hd hb)
theorem stepG_take {i : Nat} {o : Oper} (hgd : o.guard = none)
    (h : ∀ a' w', G w' → Same l.dropLast.toArray a a' → (∀ e ∈ o.after, Region.binds .any e = true → usesB kill i e.on = true → F e.on (valOf l.toArray a' e.on) w') → (useB l kB i = true → B w') → o.wp P a' w' (fun a'' w'' => ∃ v, a'' = a'.put o.dst v ∧ G w'' ∧ F i v w'' ∧ (∀ j u, exemptB l kill i j = false → F j u w' → F j u w'') ∧ (i ≠ kB → B w' → B w'')) Q) :
    StepG P l kill kB a G B F Q i o := by
  intro a' w' hg hs hd hb
  have hw : Region.wanted o (yielded l.toArray a'.tmps) = true := by unfold Region.wanted; rw [hgd]
  rw [if_pos hw]
  exact h a' w' hg hs hd hb
end

end Go.Proofs.YtehianjfpmbfpaaGreat
end
