/-
  A region that draws its order, one of whose operations may turn what was there: it waits for all ahead of it, and all behind it wait for it. Walked by what each operation's value is known by, ahead of it and behind it. Own text; it speaks of no program.
-/
import Derived.Test.YtpkhmhigoafklaaEndR
namespace Go.Proofs.Ytpkhmhigoafklaa
open Go.RowKit
set_option linter.unusedVariables false

/-- Each operation ahead of number m has one behind it, at most m, that waits for it; each behind m waits for one from m on. -/
def pivotB (l : List Oper) (m : Nat) : Bool :=
  ((List.range m).all fun i => (List.range (m + 1)).any fun k => decide (i < k) && depB l k i) && ((List.range l.length).all fun j => decide (j ≤ m) || ((List.range j).any fun k => decide (m ≤ k) && depB l j k))

/-- The steps from number m on. -/
def StepFrom (P : Program) (ops : Array Oper) (a : Act) (w : World) (F : Nat → Value → World → Prop) (Q : Exit → Act → World → Prop) : List Oper → Nat → Prop
  | [], _ => True
  | o :: r, i => StepOne P ops a w F Q i o ∧ StepFrom P ops a w F Q r (i + 1)
theorem stepFrom_spec {P : Program} {ops : Array Oper} {a : Act} {w : World} {F : Nat → Value → World → Prop} {Q : Exit → Act → World → Prop} :
    ∀ (l : List Oper) (k : Nat), StepFrom P ops a w F Q l k → ∀ i o, l[i]? = some o → StepOne P ops a w F Q (k + i) o
  | [], _, _, i, o, ho => by simp at ho
  | x :: r, k, h, 0, o, ho => by simp at ho; subst ho; exact h.1
  | x :: r, k, h, i + 1, o, ho => by
    have := stepFrom_spec r (k + 1) h.2 i o (by simpa using ho)
    rwa [show k + 1 + i = k + (i + 1) by omega] at this

section
variable {P : Program} {l : List Oper} {a : Act} {w : World} {F : Nat → Value → World → Prop} {Q : Exit → Act → World → Prop}

/-- The rest of a region, when all ahead of number m0 are done. -/
theorem wpAny_from {m0 : Nat} (hfit : fitB l a.tmps.size = true) (hstab : ∀ k v w1 w2, Grow w1 w2 → F k v w1 → F k v w2)
    (hstep : ∀ i o, m0 ≤ i → l[i]? = some o → StepOne P l.toArray a w F Q i o) (hend : ∀ a' w', Grow w w' → Same l.toArray a a' → (∀ i, i < l.length → F i (valOf l.toArray a' i) w') → Q .normal a' w') :
    ∀ (fuel : Nat) (listed : Array Bool) (a' : Act) (w' : World), listed.size = l.length → listed.toList.countP (! ·) ≤ fuel → Grow w w' → Same l.toArray a a' → (∀ i, i < m0 → listed.getD i false = true) →
      (∀ i, listed.getD i false = true → F i (valOf l.toArray a' i) w') → wpAny P .any l.toArray Q fuel listed a' w' := by
  simp only [fitB, Bool.and_eq_true] at hfit
  obtain ⟨⟨⟨ht, hnd⟩, hsome⟩, hin⟩ := hfit
  rw [List.all_eq_true] at hsome
  have fin : ∀ (listed : Array Bool) (a' : Act) (w' : World), listed.size = l.length → Grow w w' → Same l.toArray a a' → (∀ i, listed.getD i false = true → F i (valOf l.toArray a' i) w') →
      Region.ready .any l.toArray listed = [] → Q .normal a' w' := fun listed a' w' hsz hg hs hF hr =>
    hend a' w' hg hs fun i hi => hF i (all_listed ht hsz hr (i + 1) i (by omega) hi)
  intro fuel
  induction fuel with
  | zero =>
    intro listed a' w' hsz hc hg hs hpre hF
    have hr : Region.ready .any l.toArray listed = [] := by
      cases hrr : Region.ready .any l.toArray listed with
      | nil => rfl
      | cons i r =>
        have hm : i ∈ Region.ready .any l.toArray listed := by rw [hrr]; simp
        have := count_set (mem_ready.1 hm).1
        omega
    exact ⟨hr, fin listed a' w' hsz hg hs hF hr⟩
  | succ fuel ih =>
    intro listed a' w' hsz hc hg hs hpre hF
    refine ⟨fin listed a' w' hsz hg hs hF, fun i hi => ?_⟩
    obtain ⟨hun, o, ho, hall⟩ := mem_ready.1 hi
    have ho' : l[i]? = some o := by simpa using ho
    have hil : i < l.length := (List.getElem?_eq_some_iff.1 ho').1
    have hm0 : m0 ≤ i := by
      refine Nat.le_of_not_lt fun hlt => ?_
      have := hpre i hlt
      have hi' : i < listed.size := by omega
      simp [hi'] at hun this
      rw [hun] at this; cases this
    have hcs := count_set hun
    obtain ⟨d, hd⟩ := Option.isSome_iff_exists.1 (hsome o (List.mem_of_getElem? ho'))
    have hdn : d < a'.tmps.size := by
      rw [hs.size]
      have := List.all_eq_true.1 hin d (List.mem_filterMap.2 ⟨o, List.mem_of_getElem? ho', hd⟩)
      simpa using this
    have h1 := hstep i o hm0 ho' a' w' hg hs (fun e he hb => hF e.on (hall e he hb))
    have next : ∀ v w'', Grow w' w'' → F i v w'' → wpAny P .any l.toArray Q fuel (listed.setIfInBounds i true) (a'.put o.dst v) w'' := fun v w'' hg' hv => by
      refine ih _ _ _ (by simp [hsz]) (by omega) (hg.trans' hg') ⟨by rw [put_defers, hs.defers], by rw [put_size, hs.size], fun k hk => ?_⟩ (fun j hj => ?_) (fun j hj => ?_)
      · rw [hd, getD_put a' d v k hdn, if_neg, hs.rest k hk]
        intro e
        have := List.all_eq_true.1 hk o (by simpa using List.mem_of_getElem? ho')
        simp [hd, e] at this
      · rw [getD_set_ne false (show i ≠ j by omega)]; exact hpre j hj
      · by_cases hji : j = i
        · subst hji
          have : valOf l.toArray (a'.put o.dst v) j = v := by
            simp only [valOf, ho, Option.bind_some, hd]
            rw [getD_put a' d v d hdn, if_pos rfl]
          rw [this]; exact hv
        · have hj' : listed.getD j false = true := by rwa [getD_set_ne false (Ne.symm hji)] at hj
          have : valOf l.toArray (a'.put o.dst v) j = valOf l.toArray a' j := by
            simp only [valOf]
            cases hoj : l.toArray[j]? with
            | none => rfl
            | some oj =>
              have hoj' : l[j]? = some oj := by simpa using hoj
              obtain ⟨dj, hdj⟩ := Option.isSome_iff_exists.1 (hsome oj (List.mem_of_getElem? hoj'))
              have hne := nodup_spec l hnd hsome j i oj o hoj' ho' hji
              simp only [Option.bind_some, hdj, hd]
              rw [getD_put a' d v dj hdn, if_neg]
              intro e
              rw [hdj, hd, e] at hne
              exact hne rfl
          rw [this]
          exact hstab _ _ _ _ hg' (hF j hj')
    unfold wpOp
    simp only [ho]
    split
    · rename_i hw
      rw [if_pos hw] at h1
      exact .inl (Oper.wp_mono (fun a'' w'' ⟨v, e, hg', hv⟩ => by rw [e]; exact next v w'' hg' hv) h1)
    · rename_i hw
      rw [if_neg hw] at h1
      exact next undef w' (Grow.rfl' _) h1

/-- What is to be shown behind the operation that may turn what was there. -/
def Behind (P : Program) (l : List Oper) (m : Nat) (a : Act) (Q : Exit → Act → World → Prop) (v : Value) (w : World) : Prop :=
  ∃ F : Nat → Value → World → Prop, (∀ k v w1 w2, Grow w1 w2 → F k v w1 → F k v w2) ∧ (∀ i u w', i < m → F i u w') ∧ F m v w ∧ StepFrom P l.toArray a w F Q (l.drop (m + 1)) (m + 1) ∧
    ∀ a' w', Grow w w' → Same l.toArray a a' → (∀ i, i < l.length → F i (valOf l.toArray a' i) w') → Q .normal a' w'

theorem wpAny_pivot {m : Nat} (hfit : fitB l a.tmps.size = true) (hpiv : pivotB l m = true) {z : Oper} (hz : l[m]? = some z) (hzg : z.guard = none) (hstab : ∀ k v w1 w2, Grow w1 w2 → F k v w1 → F k v w2)
    (hstep : ∀ i o, i < m → l[i]? = some o → StepOne P l.toArray a w F Q i o)
    (hturn : ∀ a' w', Grow w w' → Same l.toArray a a' → (∀ i, i < m → F i (valOf l.toArray a' i) w') → z.wp P a' w' (fun a'' w'' => ∃ v, a'' = a'.put z.dst v ∧ Behind P l m a Q v w'') Q) :
    ∀ (fuel : Nat) (listed : Array Bool) (a' : Act) (w' : World), listed.size = l.length → listed.toList.countP (! ·) ≤ fuel → Grow w w' → Same l.toArray a a' →
      (∀ i o, l[i]? = some o → listed.getD i false = true → ∀ e ∈ o.after, Region.binds .any e = true → listed.getD e.on false = true) →
      (∀ i, m ≤ i → listed.getD i false = false) → (∀ i, i < m → listed.getD i false = true → F i (valOf l.toArray a' i) w') → wpAny P .any l.toArray Q fuel listed a' w' := by
  have hfit0 := hfit
  simp only [fitB, Bool.and_eq_true] at hfit
  obtain ⟨⟨⟨ht, hnd⟩, hsome⟩, hin⟩ := hfit
  rw [List.all_eq_true] at hsome
  simp only [pivotB, Bool.and_eq_true, List.all_eq_true, List.any_eq_true, Bool.or_eq_true, decide_eq_true_eq, List.mem_range] at hpiv
  obtain ⟨hsink, hsrc⟩ := hpiv
  have hml : m < l.length := (List.getElem?_eq_some_iff.1 hz).1
  have dep_spec : ∀ {k i o}, l[k]? = some o → depB l k i = true → ∃ e ∈ o.after, Region.binds .any e = true ∧ e.on = i := fun {k i o} ho h => by
    unfold depB at h
    rw [ho] at h
    simp only [List.any_eq_true, Bool.and_eq_true, beq_iff_eq] at h
    obtain ⟨e, he, hb, heq⟩ := h
    exact ⟨e, by simpa using he, hb, heq⟩
  intro fuel
  induction fuel with
  | zero =>
    intro listed a' w' hsz hc hg hs hcl hmf hF
    have hm' : listed.getD m true = false := by
      have hi' : m < listed.size := by omega
      have := hmf m (Nat.le_refl _)
      simp [hi'] at this ⊢; exact this
    have := count_set hm'
    omega
  | succ fuel ih =>
    intro listed a' w' hsz hc hg hs hcl hmf hF
    refine ⟨fun hr => ?_, fun i hi => ?_⟩
    · have := all_listed ht hsz hr (m + 1) m (by omega) hml
      rw [hmf m (Nat.le_refl _)] at this; cases this
    obtain ⟨hun, o, ho, hall⟩ := mem_ready.1 hi
    have ho' : l[i]? = some o := by simpa using ho
    have hil : i < l.length := (List.getElem?_eq_some_iff.1 ho').1
    have hcs := count_set hun
    have hset : ∀ j, j ≠ i → (listed.setIfInBounds i true).getD j false = listed.getD j false := fun j hj => getD_set_ne false (Ne.symm hj)
    have hseti : (listed.setIfInBounds i true).getD i false = true := by
      have hi' : i < listed.size := by omega
      simp [hi']
    have him : i ≤ m := by
      refine Nat.le_of_not_lt fun hlt => ?_
      rcases hsrc i hil with h | ⟨k, hk, hmk, hd⟩
      · omega
      · obtain ⟨e, he, hb, heq⟩ := dep_spec ho' hd
        have := hall e he hb
        rw [heq, hmf k hmk] at this; cases this
    obtain ⟨d, hd⟩ := Option.isSome_iff_exists.1 (hsome o (List.mem_of_getElem? ho'))
    have hdn : d < a'.tmps.size := by
      rw [hs.size]
      have := List.all_eq_true.1 hin d (List.mem_filterMap.2 ⟨o, List.mem_of_getElem? ho', hd⟩)
      simpa using this
    have hcl' : ∀ i' o', l[i']? = some o' → (listed.setIfInBounds i true).getD i' false = true → ∀ e ∈ o'.after, Region.binds .any e = true → (listed.setIfInBounds i true).getD e.on false = true := by
      intro i' o' hio hli e he hb
      by_cases hei : e.on = i
      · rw [hei]; exact hseti
      · rw [hset _ hei]
        by_cases hii : i' = i
        · subst hii
          rw [ho'] at hio
          cases hio
          exact hall e he hb
        · rw [hset _ hii] at hli
          exact hcl i' o' hio hli e he hb
    have hsame : ∀ v, Same l.toArray a (a'.put o.dst v) := fun v => ⟨by rw [put_defers, hs.defers], by rw [put_size, hs.size], fun k hk => by
      rw [hd, getD_put a' d v k hdn, if_neg, hs.rest k hk]
      intro e
      have := List.all_eq_true.1 hk o (by simpa using List.mem_of_getElem? ho')
      simp [hd, e] at this⟩
    have hvi : ∀ v, valOf l.toArray (a'.put o.dst v) i = v := fun v => by
      simp only [valOf, ho, Option.bind_some, hd]
      rw [getD_put a' d v d hdn, if_pos rfl]
    by_cases hie : i = m
    · subst hie
      rw [hz] at ho'; cases ho'
      have hbefore : ∀ dd j, i - j ≤ dd → j < i → listed.getD j false = true := by
        intro dd
        induction dd with
        | zero => intro j h1 h2; omega
        | succ dd ih2 =>
          intro j h1 h2
          obtain ⟨k, hk, hjk, hdep⟩ := hsink j h2
          obtain ⟨ok, hok⟩ : ∃ ok, l[k]? = some ok := ⟨l[k], List.getElem?_eq_getElem (by omega)⟩
          obtain ⟨e, he, hb, heq⟩ := dep_spec hok hdep
          by_cases hki : k = i
          · subst hki
            rw [hz] at hok; cases hok
            rw [← heq]; exact hall e he hb
          · have := ih2 k (by omega) (by omega)
            rw [← heq]; exact hcl k ok hok this e he hb
      have h1 := hturn a' w' hg hs fun j hj => hF j hj (hbefore _ j (Nat.le_refl _) hj)
      unfold wpOp
      simp only [ho]
      have hw : Region.wanted z (yielded l.toArray a'.tmps) = true := by unfold Region.wanted; rw [hzg]
      rw [if_pos hw]
      refine .inl (Oper.wp_mono (fun a'' w'' ⟨v, e, F2, hst2, hlow, hF2, hsteps, hend⟩ => ?_) h1)
      rw [e]
      refine wpAny_from (m0 := i + 1) (F := F2) (w := w'') hfit0 hst2 (fun j oj hj hoj => ?_) hend _ _ _ _ (by simp [hsz]) (by omega) (Grow.rfl' _) (hsame v) (fun j hj => ?_) (fun j hj => ?_)
      · have := stepFrom_spec (l.drop (i + 1)) (i + 1) hsteps (j - (i + 1)) oj (by rw [List.getElem?_drop, show i + 1 + (j - (i + 1)) = j by omega]; exact hoj)
        rwa [show i + 1 + (j - (i + 1)) = j by omega] at this
      · by_cases hji : j = i
        · rw [hji]; exact hseti
        · rw [hset _ hji]; exact hbefore _ j (Nat.le_refl _) (by omega)
      · by_cases hji : j = i
        · subst hji; rw [hvi]; exact hF2
        · rw [hset _ hji] at hj
          have : j < i := by
            refine Nat.lt_of_not_le fun hle => ?_
            rw [hmf j hle] at hj; cases hj
          exact hlow j _ _ this
    · have him' : i < m := by omega
      have h1 := hstep i o him' ho' a' w' hg hs (fun e he hb => by
        have hlt := topo_spec l 0 ht i o ho' e he hb
        exact hF e.on (by omega) (hall e he hb))
      have next : ∀ v w'', Grow w' w'' → F i v w'' → wpAny P .any l.toArray Q fuel (listed.setIfInBounds i true) (a'.put o.dst v) w'' := fun v w'' hg' hv => by
        refine ih _ _ _ (by simp [hsz]) (by omega) (hg.trans' hg') (hsame v) hcl' (fun j hj => by rw [hset _ (by omega)]; exact hmf j hj) (fun j hjm hj => ?_)
        by_cases hji : j = i
        · subst hji; rw [hvi]; exact hv
        · have hj' : listed.getD j false = true := by rwa [hset _ hji] at hj
          have : valOf l.toArray (a'.put o.dst v) j = valOf l.toArray a' j := by
            simp only [valOf]
            cases hoj : l.toArray[j]? with
            | none => rfl
            | some oj =>
              have hoj' : l[j]? = some oj := by simpa using hoj
              obtain ⟨dj, hdj⟩ := Option.isSome_iff_exists.1 (hsome oj (List.mem_of_getElem? hoj'))
              have hne := nodup_spec l hnd hsome j i oj o hoj' ho' hji
              simp only [Option.bind_some, hdj, hd]
              rw [getD_put a' d v dj hdn, if_neg]
              intro e
              rw [hdj, hd, e] at hne
              exact hne rfl
          rw [this]
          exact hstab _ _ _ _ hg' (hF j hjm hj')
      unfold wpOp
      simp only [ho]
      split
      · rename_i hw
        rw [if_pos hw] at h1
        exact .inl (Oper.wp_mono (fun a'' w'' ⟨v, e, hg', hv⟩ => by rw [e]; exact next v w'' hg' hv) h1)
      · rename_i hw
        rw [if_neg hw] at h1
        exact next undef w' (Grow.rfl' _) h1

/-- A REGION THAT DRAWS ITS ORDER; ONE OPERATION, WITH ALL OTHERS AHEAD OF IT OR BEHIND IT, IS FREE. -/
theorem wp_region_pivot {id : Nat} (F : Nat → Value → World → Prop) (m : Nat) (z : Oper) (hz : l[m]? = some z) (hzg : z.guard = none) (hm : P.follows .mixedOrders = true) (hfit : fitB l a.tmps.size = true) (hpiv : pivotB l m = true) (hstab : ∀ k v w1 w2, Grow w1 w2 → F k v w1 → F k v w2)
    (hstep : StepFrom P l.toArray a w F Q (l.take m) 0)
    (hturn : ∀ a' w', Grow w w' → Same l.toArray a a' → (∀ i, i < m → F i (valOf l.toArray a' i) w') → z.wp P a' w' (fun a'' w'' => ∃ v, a'' = a'.put z.dst v ∧ Behind P l m a Q v w'') Q) :
    (Code.region id l.toArray true).wp P Q a w := by
  refine wp_region_any hm (wpAny_pivot hfit hpiv hz hzg hstab (fun i o hi ho => ?_) hturn _ _ a _ (by simp) ?_ ⟨rfl, rfl, rfl, Nat.le_refl _, fun _ _ => rfl⟩ ⟨rfl, rfl, fun _ _ => rfl⟩ (fun i o _ hi => ?_) (fun i _ => by simp only [Array.getD_eq_getD_getElem?, List.size_toArray, Array.getElem?_replicate]; split <;> rfl) (fun i _ hi => ?_))
  · have := stepFrom_spec (l.take m) 0 hstep i o (by rw [List.getElem?_take, if_pos hi]; exact ho)
    rwa [Nat.zero_add] at this
  · exact Nat.le_trans (List.countP_le_length) (by simp)
  · by_cases h : i < l.length <;> simp [h] at hi
  · by_cases h : i < l.length <;> simp [h] at hi
end

end Go.Proofs.Ytpkhmhigoafklaa
