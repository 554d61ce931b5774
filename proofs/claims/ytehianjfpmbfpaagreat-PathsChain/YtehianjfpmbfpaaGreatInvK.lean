/-
  A region that draws its order, some of whose operations change what an earlier one has made (append): walked by what each operation's value is known by, till another operation takes it. Own text; it speaks of no program.
-/
import Derived.Test.YtehianjfpmbfpaaGreatInv
namespace Go.Proofs.YtehianjfpmbfpaaGreat
open Go.RowKit
set_option linter.unusedVariables false

/-- Operation k waits for operation i. -/
def depB (l : List Oper) (k i : Nat) : Bool :=
  match l[k]? with
  | some o => o.after.toList.any fun e => Region.binds .any e && e.on == i
  | none => false
/-- What operation k need not keep: what it takes itself, what comes behind it, what was taken before. -/
def exemptB (l : List Oper) (kill : Nat → Option Nat) (k j : Nat) : Bool :=
  kill j == some k || depB l j k || j == k || (match kill j with | some k' => depB l k k' | none => false)
/-- Operation k may lean on what i has made. -/
def usesB (kill : Nat → Option Nat) (k i : Nat) : Bool := match kill i with | none => true | some k' => k' == k

def StepK (P : Program) (l : List Oper) (kill : Nat → Option Nat) (a : Act) (w : World) (F : Nat → Value → World → Prop) (Q : Exit → Act → World → Prop) (i : Nat) (o : Oper) : Prop :=
  ∀ a' w', Grow w w' → Same l.toArray a a' → (∀ e ∈ o.after, Region.binds .any e = true → usesB kill i e.on = true → F e.on (valOf l.toArray a' e.on) w') →
    if Region.wanted o (yielded l.toArray a'.tmps) = true then o.wp P a' w' (fun a'' w'' => ∃ v, a'' = a'.put o.dst v ∧ Grow w w'' ∧ F i v w'' ∧ ∀ j u, exemptB l kill i j = false → F j u w' → F j u w'') Q else F i undef w'

def StepAllK (P : Program) (l : List Oper) (kill : Nat → Option Nat) (a : Act) (w : World) (F : Nat → Value → World → Prop) (Q : Exit → Act → World → Prop) : List Oper → Nat → Prop
  | [], _ => True
  | o :: r, i => StepK P l kill a w F Q i o ∧ StepAllK P l kill a w F Q r (i + 1)

theorem stepAllK_spec {P : Program} {l : List Oper} {kill : Nat → Option Nat} {a : Act} {w : World} {F : Nat → Value → World → Prop} {Q : Exit → Act → World → Prop} :
    ∀ (m : List Oper) (k : Nat), StepAllK P l kill a w F Q m k → ∀ i o, m[i]? = some o → StepK P l kill a w F Q (k + i) o
  | [], _, _, i, o, ho => by simp at ho
  | x :: r, k, h, 0, o, ho => by simp at ho; subst ho; exact h.1
  | x :: r, k, h, i + 1, o, ho => by
    have := stepAllK_spec r (k + 1) h.2 i o (by simpa using ho)
    rwa [show k + 1 + i = k + (i + 1) by omega] at this

section
variable {P : Program} {l : List Oper} {kill : Nat → Option Nat} {a : Act} {w : World} {F : Nat → Value → World → Prop} {Q : Exit → Act → World → Prop}

theorem wpAny_invK (hfit : fitB l a.tmps.size = true)
    (hstep : StepAllK P l kill a w F Q l 0) (hend : ∀ a' w', Grow w w' → Same l.toArray a a' → (∀ i, i < l.length → (∀ k, kill i = some k → ¬ k < l.length) → F i (valOf l.toArray a' i) w') → Q .normal a' w') :
    ∀ (fuel : Nat) (listed : Array Bool) (a' : Act) (w' : World), listed.size = l.length → listed.toList.countP (! ·) ≤ fuel → Grow w w' → Same l.toArray a a' →
      (∀ i o, l[i]? = some o → listed.getD i false = true → ∀ e ∈ o.after, Region.binds .any e = true → listed.getD e.on false = true) →
      (∀ i, listed.getD i false = true → (∀ k, kill i = some k → listed.getD k false = false) → F i (valOf l.toArray a' i) w') → wpAny P .any l.toArray Q fuel listed a' w' := by
  simp only [fitB, Bool.and_eq_true] at hfit
  obtain ⟨⟨⟨ht, hnd⟩, hsome⟩, hin⟩ := hfit
  rw [List.all_eq_true] at hsome
  have fin : ∀ (listed : Array Bool) (a' : Act) (w' : World), listed.size = l.length → Grow w w' → Same l.toArray a a' → (∀ i, listed.getD i false = true → (∀ k, kill i = some k → listed.getD k false = false) → F i (valOf l.toArray a' i) w') →
      Region.ready .any l.toArray listed = [] → Q .normal a' w' := fun listed a' w' hsz hg hs hF hr =>
    hend a' w' hg hs fun i hi hk => hF i (all_listed ht hsz hr (i + 1) i (by omega) hi) fun k e => by
      have := hk k e
      simp only [Array.getD]
      rw [dif_neg (by omega)]
  intro fuel
  induction fuel with
  | zero =>
    intro listed a' w' hsz hc hg hs hcl hF
    have hr : Region.ready .any l.toArray listed = [] := by
      cases hrr : Region.ready .any l.toArray listed with
      | nil => rfl
      | cons i r =>
        have hm : i ∈ Region.ready .any l.toArray listed := by rw [hrr]; simp
        have := count_set (mem_ready.1 hm).1
        omega
    exact ⟨hr, fin listed a' w' hsz hg hs hF hr⟩
  | succ fuel ih =>
    intro listed a' w' hsz hc hg hs hcl hF
    refine ⟨fin listed a' w' hsz hg hs hF, fun i hi => ?_⟩
    obtain ⟨hun, o, ho, hall⟩ := mem_ready.1 hi
    have ho' : l[i]? = some o := by simpa using ho
    have hil : i < l.length := (List.getElem?_eq_some_iff.1 ho').1
    have hunf : listed.getD i false = false := by
      have hi' : i < listed.size := by omega
      simp [hi'] at hun ⊢; exact hun
    have hcs := count_set hun
    obtain ⟨d, hd⟩ := Option.isSome_iff_exists.1 (hsome o (List.mem_of_getElem? ho'))
    have hdn : d < a'.tmps.size := by
      rw [hs.size]
      have := List.all_eq_true.1 hin d (List.mem_filterMap.2 ⟨o, List.mem_of_getElem? ho', hd⟩)
      simpa using this
    have h1 := stepAllK_spec l 0 hstep i o ho' a' w' hg hs (fun e he hb hu => hF e.on (hall e he hb) fun k hk => by
      unfold usesB at hu
      rw [hk] at hu
      have hki : k = i := by simpa using hu
      rw [hki]; exact hunf)
    rw [show 0 + i = i by omega] at h1
    have hset : ∀ j, j ≠ i → (listed.setIfInBounds i true).getD j false = listed.getD j false := fun j hj => getD_set_ne false (Ne.symm hj)
    have hseti : (listed.setIfInBounds i true).getD i false = true := by
      have hi' : i < listed.size := by omega
      simp [hi']
    have hcl' : ∀ i' o', l[i']? = some o' → (listed.setIfInBounds i true).getD i' false = true → ∀ e ∈ o'.after, Region.binds .any e = true → (listed.setIfInBounds i true).getD e.on false = true := by
      intro i' o' hio hli e he hb
      by_cases hei : e.on = i
      · rw [hei]; exact hseti
      · rw [hset _ hei]
        by_cases hii : i' = i
        · subst hii
          rw [ho'] at hio
          cases hio
          exact hall e he hb
        · rw [hset _ hii] at hli
          exact hcl i' o' hio hli e he hb
    have next : ∀ v w'', Grow w w'' → F i v w'' → (∀ j u, exemptB l kill i j = false → F j u w' → F j u w'') → wpAny P .any l.toArray Q fuel (listed.setIfInBounds i true) (a'.put o.dst v) w'' := fun v w'' hg' hv hkeep => by
      refine ih _ _ _ (by simp [hsz]) (by omega) hg' ⟨by rw [put_defers, hs.defers], by rw [put_size, hs.size], fun k hk => ?_⟩ hcl' (fun j hj hal => ?_)
      · rw [hd, getD_put a' d v k hdn, if_neg, hs.rest k hk]
        intro e
        have := List.all_eq_true.1 hk o (by simpa using List.mem_of_getElem? ho')
        simp [hd, e] at this
      · by_cases hji : j = i
        · subst hji
          have : valOf l.toArray (a'.put o.dst v) j = v := by
            simp only [valOf, ho, Option.bind_some, hd]
            rw [getD_put a' d v d hdn, if_pos rfl]
          rw [this]; exact hv
        · have hj' : listed.getD j false = true := by rwa [hset _ hji] at hj
          have : valOf l.toArray (a'.put o.dst v) j = valOf l.toArray a' j := by
            simp only [valOf]
            cases hoj : l.toArray[j]? with
            | none => rfl
            | some oj =>
              have hoj' : l[j]? = some oj := by simpa using hoj
              obtain ⟨dj, hdj⟩ := Option.isSome_iff_exists.1 (hsome oj (List.mem_of_getElem? hoj'))
              have hne := nodup_spec l hnd hsome j i oj o hoj' ho' hji
              simp only [Option.bind_some, hdj, hd]
              rw [getD_put a' d v dj hdn, if_neg]
              intro e
              rw [hdj, hd, e] at hne
              exact hne rfl
          rw [this]
          have hki : kill j ≠ some i := fun e => by
            have := hal i e
            rw [hseti] at this; cases this
          have hal' : ∀ k, kill j = some k → listed.getD k false = false := fun k e => by
            have := hal k e
            by_cases hk : k = i
            · subst hk; exact absurd e hki
            · rwa [hset _ hk] at this
          refine hkeep j _ ?_ (hF j hj' hal')
          cases hex : exemptB l kill i j
          · rfl
          · exfalso
            unfold exemptB at hex
            simp only [Bool.or_eq_true, beq_iff_eq] at hex
            rcases hex with ((h | h) | h) | h
            · exact hki h
            · unfold depB at h
              cases hoj : l[j]? with
              | none => rw [hoj] at h; cases h
              | some oj =>
                rw [hoj] at h
                simp only [List.any_eq_true, Bool.and_eq_true, beq_iff_eq] at h
                obtain ⟨e, he, hb, heq⟩ := h
                have := hcl j oj hoj hj' e (by simpa using he) hb
                rw [heq, hunf] at this; cases this
            · exact hji h
            · cases hkj : kill j with
              | none => rw [hkj] at h; cases h
              | some k' =>
                rw [hkj] at h
                unfold depB at h
                rw [ho'] at h
                simp only [List.any_eq_true, Bool.and_eq_true, beq_iff_eq] at h
                obtain ⟨e, he, hb, heq⟩ := h
                have h2 := hall e (by simpa using he) hb
                rw [heq, hal' k' hkj] at h2; cases h2
    unfold wpOp
    simp only [ho]
    split
    · rename_i hw
      rw [if_pos hw] at h1
      exact .inl (Oper.wp_mono (fun a'' w'' ⟨v, e, hg', hv, hkeep⟩ => by rw [e]; exact next v w'' hg' hv hkeep) h1)
    · rename_i hw
      rw [if_neg hw] at h1
      exact next undef w' hg h1 (fun _ _ _ h => h)

/-- A REGION THAT DRAWS ITS ORDER, WITH OPERATIONS THAT TAKE WHAT OTHERS HAVE MADE. -/
theorem wp_region_invK {id : Nat} (F : Nat → Value → World → Prop) (kill : Nat → Option Nat) (hm : P.follows .mixedOrders = true) (hfit : fitB l a.tmps.size = true)
    (hstep : StepAllK P l kill a w F Q l 0) (hend : ∀ a' w', Grow w w' → Same l.toArray a a' → (∀ i, i < l.length → (∀ k, kill i = some k → ¬ k < l.length) → F i (valOf l.toArray a' i) w') → Q .normal a' w') :
    (Code.region id l.toArray true).wp P Q a w := by
  refine wp_region_any hm (wpAny_invK hfit hstep hend _ _ a _ (by simp) ?_ ⟨rfl, rfl, rfl, Nat.le_refl _, fun _ _ => rfl⟩ ⟨rfl, rfl, fun _ _ => rfl⟩ (fun i o _ hi => ?_) (fun i hi => ?_))
  · exact Nat.le_trans (List.countP_le_length) (by simp)
  · by_cases h : i < l.length <;> simp [h] at hi
  · by_cases h : i < l.length <;> simp [h] at hi
end

/-- An operation that only grows the world. -/
theorem stepK_run {P : Program} {l : List Oper} {kill : Nat → Option Nat} {a : Act} {w : World} {F : Nat → Value → World → Prop} {Q : Exit → Act → World → Prop} {i : Nat} {o : Oper} (hstab : ∀ k v w1 w2, Grow w1 w2 → F k v w1 → F k v w2) (hgt : GuardT F o)
    (hgu : ∀ j b, o.guard = some (j, b) → usesB kill i j = true)
    (h : ∀ a' w', Grow w w' → Same l.toArray a a' → (∀ e ∈ o.after, Region.binds .any e = true → usesB kill i e.on = true → F e.on (valOf l.toArray a' e.on) w') → o.wp P a' w' (fun a'' w'' => ∃ v, a'' = a'.put o.dst v ∧ Grow w' w'' ∧ F i v w'') Q) :
    StepK P l kill a w F Q i o := by
  intro a' w' hg hs hd
  have hw : Region.wanted o (yielded l.toArray a'.tmps) = true := by
    unfold GuardT at hgt
    unfold Region.wanted
    cases hgd : o.guard with
    | none => rfl
    | some jb =>
      obtain ⟨j, b⟩ := jb
      rw [hgd] at hgt
      obtain ⟨⟨e, he, hj, hb⟩, hv⟩ := hgt
      have := hd e he hb (by rw [hj]; exact hgu j b hgd)
      rw [hj] at this
      simp [yielded_of (hv _ _ this)]
  rw [if_pos hw]
  exact Oper.wp_mono (fun a'' w'' ⟨v, e, hg', hv⟩ => ⟨v, e, hg.trans' hg', hv, fun j u _ hj => hstab j u _ _ hg' hj⟩) (h a' w' hg hs hd)
/-- An operation without a guard that takes what another has made. -/
theorem stepK_take {P : Program} {l : List Oper} {kill : Nat → Option Nat} {a : Act} {w : World} {F : Nat → Value → World → Prop} {Q : Exit → Act → World → Prop} {i : Nat} {o : Oper} (hgd : o.guard = none)
    (h : ∀ a' w', Grow w w' → Same l.toArray a a' → (∀ e ∈ o.after, Region.binds .any e = true → usesB kill i e.on = true → F e.on (valOf l.toArray a' e.on) w') → o.wp P a' w' (fun a'' w'' => ∃ v, a'' = a'.put o.dst v ∧ Grow w w'' ∧ F i v w'' ∧ ∀ j u, exemptB l kill i j = false → F j u w' → F j u w'') Q) :
    StepK P l kill a w F Q i o := by
  intro a' w' hg hs hd
  have hw : Region.wanted o (yielded l.toArray a'.tmps) = true := by unfold Region.wanted; rw [hgd]
  rw [if_pos hw]
  exact h a' w' hg hs hd
/-- An operation that is not run: its guard's operation is known to yield the other. -/
theorem stepK_skip {P : Program} {l : List Oper} {kill : Nat → Option Nat} {a : Act} {w : World} {F : Nat → Value → World → Prop} {Q : Exit → Act → World → Prop} {i : Nat} {o : Oper} {j : Nat} {b : Bool} (hgd : o.guard = some (j, b))
    (he : ∃ e ∈ o.after, e.on = j ∧ Region.binds .any e = true) (hu : usesB kill i j = true) (hv : ∀ v w, F j v w → v = .bool !b) (hF : ∀ v w, F i v w) : StepK P l kill a w F Q i o := by
  intro a' w' hg hs hd
  obtain ⟨e, he, hj, hb⟩ := he
  have h1 := hd e he hb (by rw [hj]; exact hu)
  rw [hj] at h1
  have hw : ¬ Region.wanted o (yielded l.toArray a'.tmps) = true := by
    unfold Region.wanted
    rw [hgd]
    simp [yielded_of (hv _ _ h1)]
  rw [if_neg hw]
  exact hF _ _

end Go.Proofs.YtehianjfpmbfpaaGreat
