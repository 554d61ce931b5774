/-
  A region that draws its order, some of whose operations take what was there or what others have made, and whose last operation is free: walked by what each operation's value is known by. Own text; it speaks of no program.
-/
import Derived.Test.YtehianjfpmbfpaaGreatEndR
namespace Go.Proofs.YtehianjfpmbfpaaGreat
open Go.RowKit
set_option linter.unusedVariables false

/-- Operation i may lean on the initial fact, which operation kB takes. -/
def useB (l : List Oper) (kB i : Nat) : Bool := depB l kB i || i == kB

def StepG (P : Program) (l : List Oper) (kill : Nat → Option Nat) (kB : Nat) (a : Act) (G B : World → Prop) (F : Nat → Value → World → Prop) (Q : Exit → Act → World → Prop) (i : Nat) (o : Oper) : Prop :=
  ∀ a' w', G w' → Same l.dropLast.toArray a a' → (∀ e ∈ o.after, Region.binds .any e = true → usesB kill i e.on = true → F e.on (valOf l.toArray a' e.on) w') → (useB l kB i = true → B w') →
    if Region.wanted o (yielded l.toArray a'.tmps) = true then o.wp P a' w' (fun a'' w'' => ∃ v, a'' = a'.put o.dst v ∧ G w'' ∧ F i v w'' ∧ (∀ j u, exemptB l kill i j = false → F j u w' → F j u w'') ∧ (i ≠ kB → B w' → B w'')) Q else F i undef w'

def StepMostG (P : Program) (l : List Oper) (kill : Nat → Option Nat) (kB : Nat) (a : Act) (G B : World → Prop) (F : Nat → Value → World → Prop) (Q : Exit → Act → World → Prop) : List Oper → Nat → Prop
  | [], _ => True
  | [_], _ => True
  | o :: r :: m, i => StepG P l kill kB a G B F Q i o ∧ StepMostG P l kill kB a G B F Q (r :: m) (i + 1)

section
variable {P : Program} {l : List Oper} {kill : Nat → Option Nat} {kB : Nat} {a : Act} {G B : World → Prop} {F : Nat → Value → World → Prop} {Q : Exit → Act → World → Prop}

theorem stepMostG_spec : ∀ (r : List Oper) (k : Nat), StepMostG P l kill kB a G B F Q r k → ∀ i o, i + 1 < r.length → r[i]? = some o → StepG P l kill kB a G B F Q (k + i) o
  | [], _, _, i, o, hi, ho => by simp at hi
  | [_], _, _, i, o, hi, ho => by simp at hi
  | x :: r :: m, k, h, 0, o, hi, ho => by simp at ho; subst ho; exact h.1
  | x :: r :: m, k, h, i + 1, o, hi, ho => by
    have := stepMostG_spec (r :: m) (k + 1) h.2 i o (by simpa using hi) (by simpa using ho)
    rwa [show k + 1 + i = k + (i + 1) by omega] at this

theorem wpAny_endG {m : Nat} (hl : l.length = m + 1) (hfit : fitE l a.tmps.size = true) {z : Oper} (hz : l[m]? = some z) (hzg : z.guard = none)
    (hstep : StepMostG P l kill kB a G B F Q l 0)
    (hlast : ∀ a' w', G w' → Same l.dropLast.toArray a a' → (∀ i, i < m → kill i = none → F i (valOf l.toArray a' i) w') → z.wp P a' w' (fun a'' w'' => Q .normal a'' w'') Q) :
    ∀ (fuel : Nat) (listed : Array Bool) (a' : Act) (w' : World), listed.size = l.length → listed.toList.countP (! ·) ≤ fuel → G w' → Same l.dropLast.toArray a a' →
      (∀ i o, l[i]? = some o → listed.getD i false = true → ∀ e ∈ o.after, Region.binds .any e = true → listed.getD e.on false = true) →
      listed.getD m false = false → (∀ i, i < m → listed.getD i false = true → (∀ k, kill i = some k → listed.getD k false = false) → F i (valOf l.toArray a' i) w') → (listed.getD kB false = false → B w') → wpAny P .any l.toArray Q fuel listed a' w' := by
  simp only [fitE, Bool.and_eq_true] at hfit
  obtain ⟨⟨⟨⟨ht, hnd⟩, hsome⟩, hin⟩, hsink⟩ := hfit
  rw [List.all_eq_true] at hsome
  have hget : ∀ {i o}, i < m → l[i]? = some o → l.dropLast[i]? = some o := fun {i o} hi ho => by
    rw [List.getElem?_dropLast, if_pos (by omega)]; exact ho
  intro fuel
  induction fuel with
  | zero =>
    intro listed a' w' hsz hc hg hs hcl hmf hF hB
    have hm' : listed.getD m true = false := by
      have hi' : m < listed.size := by omega
      simp [hi'] at hmf ⊢; exact hmf
    have := count_set hm'
    omega
  | succ fuel ih =>
    intro listed a' w' hsz hc hg hs hcl hmf hF hB
    refine ⟨fun hr => ?_, fun i hi => ?_⟩
    · have := all_listed ht hsz hr (m + 1) m (by omega) (by omega)
      rw [hmf] at this; cases this
    obtain ⟨hun, o, ho, hall⟩ := mem_ready.1 hi
    have ho' : l[i]? = some o := by simpa using ho
    have hil : i < l.length := (List.getElem?_eq_some_iff.1 ho').1
    have hcs := count_set hun
    have hunf : listed.getD i false = false := by
      have hi' : i < listed.size := by omega
      simp [hi'] at hun ⊢; exact hun
    have hset : ∀ j, j ≠ i → (listed.setIfInBounds i true).getD j false = listed.getD j false := fun j hj => getD_set_ne false (Ne.symm hj)
    have hseti : (listed.setIfInBounds i true).getD i false = true := by
      have hi' : i < listed.size := by omega
      simp [hi']
    by_cases him : i = m
    · subst him
      rw [hz] at ho'; cases ho'
      have hb := all_before hl hsink hz hcl hall
      have h1 := hlast a' w' hg hs fun j hj hk => hF j hj (hb _ j (Nat.le_refl _) hj) (fun k e => by rw [hk] at e; cases e)
      unfold wpOp
      simp only [ho]
      have hw : Region.wanted z (yielded l.toArray a'.tmps) = true := by unfold Region.wanted; rw [hzg]
      rw [if_pos hw]
      refine .inl (Oper.wp_mono (fun a'' w'' hq => ?_) h1)
      refine wpAny_done (by simp [hsz]) (fun j hj => ?_) _ _ hq _
      by_cases hji : j = i
      · subst hji; exact hseti
      · rw [hset _ hji]; exact hb _ j (Nat.le_refl _) (by omega)
    · have him' : i < m := by omega
      obtain ⟨d, hd⟩ := Option.isSome_iff_exists.1 (hsome o (List.mem_of_getElem? (hget him' ho')))
      have hdn : d < a'.tmps.size := by
        rw [hs.size]
        have := List.all_eq_true.1 hin d (List.mem_filterMap.2 ⟨o, List.mem_of_getElem? ho', hd⟩)
        simpa using this
      have hst := stepMostG_spec l 0 hstep i o (by omega) ho'
      rw [Nat.zero_add] at hst
      have h1 := hst a' w' hg hs (fun e he hb hu => by
        have hlt := topo_spec l 0 ht i o ho' e he hb
        refine hF e.on (by omega) (hall e he hb) fun k hk => ?_
        unfold usesB at hu
        rw [hk] at hu
        have hki : k = i := by simpa using hu
        rw [hki]; exact hunf) (fun hu => by
        refine hB ?_
        unfold useB at hu
        rw [Bool.or_eq_true] at hu
        rcases hu with hu | hu
        · cases hkb : listed.getD kB false
          · rfl
          · exfalso
            unfold depB at hu
            cases hok : l[kB]? with
            | none => rw [hok] at hu; cases hu
            | some ok =>
              rw [hok] at hu
              simp only [List.any_eq_true, Bool.and_eq_true, beq_iff_eq] at hu
              obtain ⟨e, he, hb, heq⟩ := hu
              have := hcl kB ok hok hkb e (by simpa using he) hb
              rw [heq, hunf] at this; cases this
        · have hu' : i = kB := by simpa using hu
          rw [← hu']; exact hunf)
      have hcl' : ∀ i' o', l[i']? = some o' → (listed.setIfInBounds i true).getD i' false = true → ∀ e ∈ o'.after, Region.binds .any e = true → (listed.setIfInBounds i true).getD e.on false = true := by
        intro i' o' hio hli e he hb
        by_cases hei : e.on = i
        · rw [hei]; exact hseti
        · rw [hset _ hei]
          by_cases hii : i' = i
          · subst hii
            rw [ho'] at hio
            cases hio
            exact hall e he hb
          · rw [hset _ hii] at hli
            exact hcl i' o' hio hli e he hb
      have next : ∀ v w'', G w'' → F i v w'' → (∀ j u, exemptB l kill i j = false → F j u w' → F j u w'') → (i ≠ kB → B w' → B w'') → wpAny P .any l.toArray Q fuel (listed.setIfInBounds i true) (a'.put o.dst v) w'' := fun v w'' hg' hv hkeep hkB => by
        refine ih _ _ _ (by simp [hsz]) (by omega) hg' ⟨by rw [put_defers, hs.defers], by rw [put_size, hs.size], fun k hk => ?_⟩ hcl' (by rw [hset _ (Ne.symm him)]; exact hmf) (fun j hjm hj hal => ?_) (fun hkb => ?_)
        · rw [hd, getD_put a' d v k hdn, if_neg, hs.rest k hk]
          intro e
          have := List.all_eq_true.1 hk o (by simpa using List.mem_of_getElem? (hget him' ho'))
          simp [hd, e] at this
        · by_cases hji : j = i
          · subst hji
            have : valOf l.toArray (a'.put o.dst v) j = v := by
              simp only [valOf, ho, Option.bind_some, hd]
              rw [getD_put a' d v d hdn, if_pos rfl]
            rw [this]; exact hv
          · have hj' : listed.getD j false = true := by rwa [hset _ hji] at hj
            have : valOf l.toArray (a'.put o.dst v) j = valOf l.toArray a' j := by
              simp only [valOf]
              cases hoj : l.toArray[j]? with
              | none => rfl
              | some oj =>
                have hoj' : l[j]? = some oj := by simpa using hoj
                obtain ⟨dj, hdj⟩ := Option.isSome_iff_exists.1 (hsome oj (List.mem_of_getElem? (hget hjm hoj')))
                have hne := nodup_spec l.dropLast hnd hsome j i oj o (hget hjm hoj') (hget him' ho') hji
                simp only [Option.bind_some, hdj, hd]
                rw [getD_put a' d v dj hdn, if_neg]
                intro e
                rw [hdj, hd, e] at hne
                exact hne rfl
            rw [this]
            have hki : kill j ≠ some i := fun e => by
              have := hal i e
              rw [hseti] at this; cases this
            have hal' : ∀ k, kill j = some k → listed.getD k false = false := fun k e => by
              have := hal k e
              by_cases hk : k = i
              · subst hk; exact absurd e hki
              · rwa [hset _ hk] at this
            refine hkeep j _ ?_ (hF j hjm hj' hal')
            cases hex : exemptB l kill i j
            · rfl
            · exfalso
              unfold exemptB at hex
              simp only [Bool.or_eq_true, beq_iff_eq] at hex
              rcases hex with ((h | h) | h) | h
              · exact hki h
              · unfold depB at h
                cases hoj : l[j]? with
                | none => rw [hoj] at h; cases h
                | some oj =>
                  rw [hoj] at h
                  simp only [List.any_eq_true, Bool.and_eq_true, beq_iff_eq] at h
                  obtain ⟨e, he, hb, heq⟩ := h
                  have := hcl j oj hoj hj' e (by simpa using he) hb
                  rw [heq, hunf] at this; cases this
              · exact hji h
              · cases hkj : kill j with
                | none => rw [hkj] at h; cases h
                | some k' =>
                  rw [hkj] at h
                  unfold depB at h
                  rw [ho'] at h
                  simp only [List.any_eq_true, Bool.and_eq_true, beq_iff_eq] at h
                  obtain ⟨e, he, hb, heq⟩ := h
                  have h2 := hall e (by simpa using he) hb
                  rw [heq, hal' k' hkj] at h2; cases h2
        · by_cases hik : i = kB
          · exfalso
            rw [← hik, hseti] at hkb; cases hkb
          · refine hkB hik (hB ?_)
            rw [hset _ (Ne.symm hik)] at hkb; exact hkb
      unfold wpOp
      simp only [ho]
      split
      · rename_i hw
        rw [if_pos hw] at h1
        exact .inl (Oper.wp_mono (fun a'' w'' ⟨v, e, hg', hv, hkeep, hkB⟩ => by rw [e]; exact next v w'' hg' hv hkeep hkB) h1)
      · rename_i hw
        rw [if_neg hw] at h1
        exact next undef w' hg h1 (fun _ _ _ h => h) (fun _ h => h)

/-- A REGION THAT DRAWS ITS ORDER, WITH OPERATIONS THAT TAKE WHAT WAS THERE; ITS LAST IS FREE. -/
theorem wp_region_endG {id : Nat} {w : World} (F : Nat → Value → World → Prop) (G B : World → Prop) (kill : Nat → Option Nat) (kB m : Nat) (z : Oper) (hl : l.length = m + 1) (hz : l[m]? = some z) (hzg : z.guard = none) (hm : P.follows .mixedOrders = true) (hfit : fitE l a.tmps.size = true)
    (hG : ∀ w', Grow w w' → w'.heap = w.heap → G w') (hB : ∀ w', Grow w w' → w'.heap = w.heap → B w')
    (hstep : StepMostG P l kill kB a G B F Q l 0)
    (hlast : ∀ a' w', G w' → Same l.dropLast.toArray a a' → (∀ i, i < m → kill i = none → F i (valOf l.toArray a' i) w') → z.wp P a' w' (fun a'' w'' => Q .normal a'' w'') Q) :
    (Code.region id l.toArray true).wp P Q a w := by
  refine wp_region_any hm (wpAny_endG hl hfit hz hzg hstep hlast _ _ a _ (by simp) ?_ (hG _ ⟨rfl, rfl, rfl, Nat.le_refl _, fun _ _ => rfl⟩ rfl) ⟨rfl, rfl, fun _ _ => rfl⟩ (fun i o _ hi => ?_) (by simp only [Array.getD_eq_getD_getElem?, List.size_toArray, Array.getElem?_replicate]; split <;> rfl) (fun i _ hi => ?_) (fun _ => hB _ ⟨rfl, rfl, rfl, Nat.le_refl _, fun _ _ => rfl⟩ rfl))
  · exact Nat.le_trans (List.countP_le_length) (by simp)
  · by_cases h : i < l.length <;> simp [h] at hi
  · by_cases h : i < l.length <;> simp [h] at hi

/-- An operation that only grows the world. -/
theorem stepG_run {i : Nat} {o : Oper} (hGg : ∀ w1 w2, G w1 → Grow w1 w2 → G w2) (hBg : ∀ w1 w2, Grow w1 w2 → B w1 → B w2) (hstab : ∀ k v w1 w2, Grow w1 w2 → F k v w1 → F k v w2) (hgd : o.guard = none)
    (h : ∀ a' w', G w' → Same l.dropLast.toArray a a' → (∀ e ∈ o.after, Region.binds .any e = true → usesB kill i e.on = true → F e.on (valOf l.toArray a' e.on) w') → (useB l kB i = true → B w') → o.wp P a' w' (fun a'' w'' => ∃ v, a'' = a'.put o.dst v ∧ Grow w' w'' ∧ F i v w'') Q) :
    StepG P l kill kB a G B F Q i o := by
  intro a' w' hg hs hd hb
  have hw : Region.wanted o (yielded l.toArray a'.tmps) = true := by unfold Region.wanted; rw [hgd]
  rw [if_pos hw]
  exact Oper.wp_mono (fun a'' w'' ⟨v, e, hg', hv⟩ => ⟨v, e, hGg _ _ hg hg', hv, fun j u _ hj => hstab j u _ _ hg' hj, fun _ hb' => hBg _ _ hg' hb'⟩) (h a' w' hg hs hd hb)
theorem stepG_take {i : Nat} {o : Oper} (hgd : o.guard = none)
    (h : ∀ a' w', G w' → Same l.dropLast.toArray a a' → (∀ e ∈ o.after, Region.binds .any e = true → usesB kill i e.on = true → F e.on (valOf l.toArray a' e.on) w') → (useB l kB i = true → B w') → o.wp P a' w' (fun a'' w'' => ∃ v, a'' = a'.put o.dst v ∧ G w'' ∧ F i v w'' ∧ (∀ j u, exemptB l kill i j = false → F j u w' → F j u w'') ∧ (i ≠ kB → B w' → B w'')) Q) :
    StepG P l kill kB a G B F Q i o := by
  intro a' w' hg hs hd hb
  have hw : Region.wanted o (yielded l.toArray a'.tmps) = true := by unfold Region.wanted; rw [hgd]
  rw [if_pos hw]
  exact h a' w' hg hs hd hb
end

end Go.Proofs.YtehianjfpmbfpaaGreat
