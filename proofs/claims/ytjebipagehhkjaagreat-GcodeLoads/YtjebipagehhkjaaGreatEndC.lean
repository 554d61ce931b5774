/-
  A region that draws its order, in which a row of operations, each behind the one ahead of it, turns what was there; its last operation is free. Walked by what each other operation yields, and by what stands when so many of the row are done. Own text; it speaks of no program.
-/
import Derived.Test.YtjebipagehhkjaaGreatEndR
namespace Go.Proofs.YtjebipagehhkjaaGreat
open Go.RowKit
set_option linter.unusedVariables false

/-- Each of the row waits for the one ahead of it; none of them is the last operation. -/
def chainB (l : List Oper) (m : Nat) (chs : List Nat) : Bool :=
  ((List.range chs.length).all fun q => q == 0 || depB l (chs.getD q 0) (chs.getD (q - 1) 0)) && (chs.all fun c => decide (c < m)) && nodupB chs
theorem nodupB_spec : ∀ (l : List Nat), nodupB l = true → ∀ (i j : Nat) (c : Nat), l[i]? = some c → l[j]? = some c → i = j
  | [], _, i, _, c, hi, _ => by simp at hi
  | x :: r, h, i, j, c, hi, hj => by
    simp only [nodupB, Bool.and_eq_true, Bool.not_eq_true'] at h
    have h1 := h.1
    rw [← Bool.not_eq_true, List.contains_iff_mem] at h1
    cases i with
    | zero =>
      cases j with
      | zero => rfl
      | succ j =>
        simp at hi hj
        subst hi
        exact absurd (List.mem_of_getElem? hj) h1
    | succ i =>
      cases j with
      | zero =>
        simp at hi hj
        subst hj
        exact absurd (List.mem_of_getElem? hi) h1
      | succ j =>
        have := nodupB_spec r h.2 i j c (by simpa using hi) (by simpa using hj)
        omega

/-- What operation i has to keep to: as number q of the row, or as another one. -/
def StepC (P : Program) (l : List Oper) (chs : List Nat) (a : Act) (F : Nat → Value → Prop) (C : Nat → Value → World → Prop) (Q : Exit → Act → World → Prop) (i : Nat) (o : Oper) : Prop :=
  o.guard = none ∧ ∀ a' w' p u, C p u w' → Same l.dropLast.toArray a a' → (∀ e ∈ o.after, Region.binds .any e = true → F e.on (valOf l.toArray a' e.on)) →
    (∀ q, chs[q]? = some i → q = p ∧ ∀ j c, p = j + 1 → chs[j]? = some c → u = valOf l.toArray a' c) →
    o.wp P a' w' (fun a'' w'' => ∃ v, a'' = a'.put o.dst v ∧ F i v ∧ (chs.contains i = true → C (p + 1) v w'') ∧ (chs.contains i = false → C p u w'')) Q

def StepMostC (P : Program) (l : List Oper) (chs : List Nat) (a : Act) (F : Nat → Value → Prop) (C : Nat → Value → World → Prop) (Q : Exit → Act → World → Prop) : List Oper → Nat → Prop
  | [], _ => True
  | [_], _ => True
  | o :: r :: m, i => StepC P l chs a F C Q i o ∧ StepMostC P l chs a F C Q (r :: m) (i + 1)

section
variable {P : Program} {l : List Oper} {chs : List Nat} {a : Act} {F : Nat → Value → Prop} {C : Nat → Value → World → Prop} {Q : Exit → Act → World → Prop}

theorem stepMostC_spec : ∀ (r : List Oper) (k : Nat), StepMostC P l chs a F C Q r k → ∀ i o, i + 1 < r.length → r[i]? = some o → StepC P l chs a F C Q (k + i) o
  | [], _, _, i, o, hi, ho => by simp at hi
  | [_], _, _, i, o, hi, ho => by simp at hi
  | x :: r :: m, k, h, 0, o, hi, ho => by simp at ho; subst ho; exact h.1
  | x :: r :: m, k, h, i + 1, o, hi, ho => by
    have := stepMostC_spec (r :: m) (k + 1) h.2 i o (by simpa using hi) (by simpa using ho)
    rwa [show k + 1 + i = k + (i + 1) by omega] at this

/-- So many of the row are done, and this stands. -/
def Done (l : List Oper) (chs : List Nat) (C : Nat → Value → World → Prop) (listed : Array Bool) (a' : Act) (w' : World) : Prop :=
  ∃ p u, p ≤ chs.length ∧ C p u w' ∧ (∀ q c, chs[q]? = some c → listed.getD c false = decide (q < p)) ∧ ∀ j c, p = j + 1 → chs[j]? = some c → u = valOf l.toArray a' c

theorem wpAny_endC {m : Nat} (hl : l.length = m + 1) (hfit : fitE l a.tmps.size = true) (hch : chainB l m chs = true) {z : Oper} (hz : l[m]? = some z) (hzg : z.guard = none)
    (hstep : StepMostC P l chs a F C Q l 0)
    (hlast : ∀ a' w' u, C chs.length u w' → Same l.dropLast.toArray a a' → (∀ i, i < m → F i (valOf l.toArray a' i)) → (∀ c, chs[chs.length - 1]? = some c → u = valOf l.toArray a' c) → z.wp P a' w' (fun a'' w'' => Q .normal a'' w'') Q) :
    ∀ (fuel : Nat) (listed : Array Bool) (a' : Act) (w' : World), listed.size = l.length → listed.toList.countP (! ·) ≤ fuel → Same l.dropLast.toArray a a' →
      (∀ i o, l[i]? = some o → listed.getD i false = true → ∀ e ∈ o.after, Region.binds .any e = true → listed.getD e.on false = true) →
      listed.getD m false = false → (∀ i, i < m → listed.getD i false = true → F i (valOf l.toArray a' i)) → Done l chs C listed a' w' → wpAny P .any l.toArray Q fuel listed a' w' := by
  simp only [fitE, Bool.and_eq_true] at hfit
  obtain ⟨⟨⟨⟨ht, hnd⟩, hsome⟩, hin⟩, hsink⟩ := hfit
  rw [List.all_eq_true] at hsome
  simp only [chainB, Bool.and_eq_true, List.all_eq_true, Bool.or_eq_true, beq_iff_eq, List.mem_range, decide_eq_true_eq] at hch
  obtain ⟨⟨hdep, hlow⟩, hnodup⟩ := hch
  have huniq := nodupB_spec chs hnodup
  have hget : ∀ {i o}, i < m → l[i]? = some o → l.dropLast[i]? = some o := fun {i o} hi ho => by
    rw [List.getElem?_dropLast, if_pos (by omega)]; exact ho
  intro fuel
  induction fuel with
  | zero =>
    intro listed a' w' hsz hc hs hcl hmf hF hD
    have hm' : listed.getD m true = false := by
      have hi' : m < listed.size := by omega
      simp [hi'] at hmf ⊢; exact hmf
    have := count_set hm'
    omega
  | succ fuel ih =>
    intro listed a' w' hsz hc hs hcl hmf hF hD
    refine ⟨fun hr => ?_, fun i hi => ?_⟩
    · have := all_listed ht hsz hr (m + 1) m (by omega) (by omega)
      rw [hmf] at this; cases this
    obtain ⟨hun, o, ho, hall⟩ := mem_ready.1 hi
    have ho' : l[i]? = some o := by simpa using ho
    have hil : i < l.length := (List.getElem?_eq_some_iff.1 ho').1
    have hcs := count_set hun
    have hunf : listed.getD i false = false := by
      have hi' : i < listed.size := by omega
      simp [hi'] at hun ⊢; exact hun
    have hset : ∀ j, j ≠ i → (listed.setIfInBounds i true).getD j false = listed.getD j false := fun j hj => getD_set_ne false (Ne.symm hj)
    have hseti : (listed.setIfInBounds i true).getD i false = true := by
      have hi' : i < listed.size := by omega
      simp [hi']
    obtain ⟨p, u, hp, hC, hpre, hu⟩ := hD
    by_cases him : i = m
    · subst him
      rw [hz] at ho'; cases ho'
      have hb := all_before hl hsink hz hcl hall
      have hpl : p = chs.length := by
        by_cases hlt : p < chs.length
        · obtain ⟨c, hc'⟩ : ∃ c, chs[p]? = some c := ⟨chs[p], List.getElem?_eq_getElem hlt⟩
          have h1 := hpre p c hc'
          have h2 := hb _ c (Nat.le_refl _) (hlow c (List.mem_of_getElem? hc'))
          rw [h2] at h1
          simp at h1
        · omega
      subst hpl
      have h1 := hlast a' w' u hC hs (fun j hj => hF j hj (hb _ j (Nat.le_refl _) hj)) (fun c hc' => hu (chs.length - 1) c (by have := (List.getElem?_eq_some_iff.1 hc').1; omega) hc')
      unfold wpOp
      simp only [ho]
      have hw : Region.wanted z (yielded l.toArray a'.tmps) = true := by unfold Region.wanted; rw [hzg]
      rw [if_pos hw]
      refine .inl (Oper.wp_mono (fun a'' w'' hq => ?_) h1)
      refine wpAny_done (by simp [hsz]) (fun j hj => ?_) _ _ hq _
      by_cases hji : j = i
      · subst hji; exact hseti
      · rw [hset _ hji]; exact hb _ j (Nat.le_refl _) (by omega)
    · have him' : i < m := by omega
      obtain ⟨d, hd⟩ := Option.isSome_iff_exists.1 (hsome o (List.mem_of_getElem? (hget him' ho')))
      have hdn : d < a'.tmps.size := by
        rw [hs.size]
        have := List.all_eq_true.1 hin d (List.mem_filterMap.2 ⟨o, List.mem_of_getElem? ho', hd⟩)
        simpa using this
      have hst := stepMostC_spec l 0 hstep i o (by omega) ho'
      rw [Nat.zero_add] at hst
      have hq : ∀ q, chs[q]? = some i → q = p := fun q hq => by
        have h1 := hpre q i hq
        rw [hunf] at h1
        have h2 : ¬ q < p := by simpa using h1.symm
        rcases hdep q (List.getElem?_eq_some_iff.1 hq).1 with h3 | h3
        · omega
        · have hlt := (List.getElem?_eq_some_iff.1 hq).1
          rw [List.getD_eq_getElem?_getD, hq, Option.getD_some] at h3
          by_cases hq0 : q = 0
          · omega
          obtain ⟨c, hc'⟩ : ∃ c, chs[q - 1]? = some c := ⟨chs[q - 1], List.getElem?_eq_getElem (by omega)⟩
          rw [List.getD_eq_getElem?_getD, hc', Option.getD_some] at h3
          unfold depB at h3
          rw [ho'] at h3
          simp only [List.any_eq_true, Bool.and_eq_true, beq_iff_eq] at h3
          obtain ⟨e, he, hb, heq⟩ := h3
          have h4 := hall e (by simpa using he) hb
          rw [heq, hpre (q - 1) c hc'] at h4
          have : q - 1 < p := by simpa using h4
          omega
      have h1 := hst.2 a' w' p u hC hs (fun e he hb => by
        have hlt := topo_spec l 0 ht i o ho' e he hb
        exact hF e.on (by omega) (hall e he hb)) (fun q hq' => ⟨hq q hq', fun j c hj hc' => hu j c hj hc'⟩)
      have hcl' : ∀ i' o', l[i']? = some o' → (listed.setIfInBounds i true).getD i' false = true → ∀ e ∈ o'.after, Region.binds .any e = true → (listed.setIfInBounds i true).getD e.on false = true := by
        intro i' o' hio hli e he hb
        by_cases hei : e.on = i
        · rw [hei]; exact hseti
        · rw [hset _ hei]
          by_cases hii : i' = i
          · subst hii
            rw [ho'] at hio
            cases hio
            exact hall e he hb
          · rw [hset _ hii] at hli
            exact hcl i' o' hio hli e he hb
      have hval : ∀ v, valOf l.toArray (a'.put o.dst v) i = v := fun v => by
        simp only [valOf, ho, Option.bind_some, hd]
        rw [getD_put a' d v d hdn, if_pos rfl]
      have hvalj : ∀ v j, j ≠ i → j < m → valOf l.toArray (a'.put o.dst v) j = valOf l.toArray a' j := fun v j hji hjm => by
        simp only [valOf]
        cases hoj : l.toArray[j]? with
        | none => rfl
        | some oj =>
          have hoj' : l[j]? = some oj := by simpa using hoj
          obtain ⟨dj, hdj⟩ := Option.isSome_iff_exists.1 (hsome oj (List.mem_of_getElem? (hget hjm hoj')))
          have hne := nodup_spec l.dropLast hnd hsome j i oj o (hget hjm hoj') (hget him' ho') hji
          simp only [Option.bind_some, hdj, hd]
          rw [getD_put a' d v dj hdn, if_neg]
          intro e
          rw [hdj, hd, e] at hne
          exact hne rfl
      have next : ∀ v w'', F i v → (chs.contains i = true → C (p + 1) v w'') → (chs.contains i = false → C p u w'') → wpAny P .any l.toArray Q fuel (listed.setIfInBounds i true) (a'.put o.dst v) w'' := fun v w'' hv hc1 hc2 => by
        refine ih _ _ _ (by simp [hsz]) (by omega) ⟨by rw [put_defers, hs.defers], by rw [put_size, hs.size], fun k hk => ?_⟩ hcl' (by rw [hset _ (Ne.symm him)]; exact hmf) (fun j hjm hj => ?_) ?_
        · rw [hd, getD_put a' d v k hdn, if_neg, hs.rest k hk]
          intro e
          have := List.all_eq_true.1 hk o (by simpa using List.mem_of_getElem? (hget him' ho'))
          simp [hd, e] at this
        · by_cases hji : j = i
          · subst hji
            rw [hval]; exact hv
          · have hj' : listed.getD j false = true := by rwa [hset _ hji] at hj
            rw [hvalj v j hji hjm]
            exact hF j hjm hj'
        · cases hcon : chs.contains i with
          | true =>
            have hmem : i ∈ chs := by rw [← List.contains_iff_mem]; exact hcon
            obtain ⟨q, hql, hqe⟩ := List.getElem_of_mem hmem
            have hqi : chs[q]? = some i := by rw [List.getElem?_eq_getElem hql, hqe]
            have hqp := hq q hqi
            subst hqp
            refine ⟨q + 1, v, by omega, hc1 hcon, fun q' c hc' => ?_, fun j c hj hc' => ?_⟩
            · by_cases hci : c = i
              · subst hci
                have := huniq q' q _ hc' hqi
                subst this
                rw [hseti]; simp
              · rw [hset _ hci, hpre q' c hc']
                have : q' ≠ q := fun e => by
                  subst e
                  rw [hqi] at hc'
                  exact hci (Option.some.inj hc').symm
                simp only [decide_eq_decide]
                omega
            · have : j = q := by omega
              subst this
              rw [hqi] at hc'
              cases hc'
              exact (hval v).symm
          | false =>
            have hnm : ∀ q c, chs[q]? = some c → c ≠ i := fun q c hc' e => by
              subst e
              have : chs.contains c = true := by rw [List.contains_iff_mem]; exact List.mem_of_getElem? hc'
              rw [hcon] at this; cases this
            refine ⟨p, u, hp, hc2 hcon, fun q' c hc' => ?_, fun j c hj hc' => ?_⟩
            · rw [hset _ (hnm q' c hc')]; exact hpre q' c hc'
            · rw [hvalj v c (hnm j c hc') (hlow c (List.mem_of_getElem? hc'))]
              exact hu j c hj hc'
      unfold wpOp
      simp only [ho]
      have hw : Region.wanted o (yielded l.toArray a'.tmps) = true := by unfold Region.wanted; rw [hst.1]
      rw [if_pos hw]
      exact .inl (Oper.wp_mono (fun a'' w'' ⟨v, e, hv, hc1, hc2⟩ => by rw [e]; exact next v w'' hv hc1 hc2) h1)

/-- A REGION THAT DRAWS ITS ORDER, WITH A ROW OF OPERATIONS THAT TURN WHAT WAS THERE; ITS LAST IS FREE. -/
theorem wp_region_endC {id : Nat} {w : World} (F : Nat → Value → Prop) (C : Nat → Value → World → Prop) (chs : List Nat) (m : Nat) (z : Oper) (hl : l.length = m + 1) (hz : l[m]? = some z) (hzg : z.guard = none) (hm : P.follows .mixedOrders = true) (hfit : fitE l a.tmps.size = true) (hch : chainB l m chs = true)
    (hC : ∀ w', Grow w w' → w'.heap = w.heap → C 0 undef w')
    (hstep : StepMostC P l chs a F C Q l 0)
    (hlast : ∀ a' w' u, C chs.length u w' → Same l.dropLast.toArray a a' → (∀ i, i < m → F i (valOf l.toArray a' i)) → (∀ c, chs[chs.length - 1]? = some c → u = valOf l.toArray a' c) → z.wp P a' w' (fun a'' w'' => Q .normal a'' w'') Q) :
    (Code.region id l.toArray true).wp P Q a w := by
  have hno : ∀ i, (Array.replicate l.toArray.size false).getD i false = false := fun i => by
    simp only [Array.getD_eq_getD_getElem?, List.size_toArray, Array.getElem?_replicate]; split <;> rfl
  refine wp_region_any hm (wpAny_endC hl hfit hch hz hzg hstep hlast _ _ a _ (by simp) ?_ ⟨rfl, rfl, fun _ _ => rfl⟩ (fun i o _ hi => ?_) (hno _) (fun i _ hi => ?_) ⟨0, undef, Nat.zero_le _, hC _ ⟨rfl, rfl, rfl, Nat.le_refl _, fun _ _ => rfl⟩ rfl, fun q c _ => by rw [hno]; simp, fun j c hj => by omega⟩)
  · exact Nat.le_trans (List.countP_le_length) (by simp)
  · rw [hno] at hi; cases hi
  · rw [hno] at hi; cases hi

/-- An operation that is none of the row: the world stays. -/
theorem stepC_plain {i : Nat} {o : Oper} (hgd : o.guard = none) (hi : chs.contains i = false)
    (h : ∀ a' w', (∃ p u, C p u w') → Same l.dropLast.toArray a a' → (∀ e ∈ o.after, Region.binds .any e = true → F e.on (valOf l.toArray a' e.on)) → o.wp P a' w' (fun a'' w'' => ∃ v, a'' = a'.put o.dst v ∧ w'' = w' ∧ F i v) Q) :
    StepC P l chs a F C Q i o := by
  refine ⟨hgd, fun a' w' p u hC hs hd _ => ?_⟩
  refine Oper.wp_mono (fun a'' w'' ⟨v, e, hw, hv⟩ => ⟨v, e, hv, fun hc => ?_, fun _ => by rw [hw]; exact hC⟩) (h a' w' ⟨p, u, hC⟩ hs hd)
  rw [hi] at hc; cases hc
/-- Number q of the row. -/
theorem stepC_turn {i q : Nat} {o : Oper} (hgd : o.guard = none) (hi : chs[q]? = some i)
    (h : ∀ a' w' u, C q u w' → Same l.dropLast.toArray a a' → (∀ e ∈ o.after, Region.binds .any e = true → F e.on (valOf l.toArray a' e.on)) → (∀ j c, q = j + 1 → chs[j]? = some c → u = valOf l.toArray a' c) → o.wp P a' w' (fun a'' w'' => ∃ v, a'' = a'.put o.dst v ∧ F i v ∧ C (q + 1) v w'') Q) :
    StepC P l chs a F C Q i o := by
  refine ⟨hgd, fun a' w' p u hC hs hd hq => ?_⟩
  obtain ⟨rfl, hu⟩ := hq q hi
  refine Oper.wp_mono (fun a'' w'' ⟨v, e, hv, hc⟩ => ⟨v, e, hv, fun _ => hc, fun hn => ?_⟩) (h a' w' u hC hs hd hu)
  have : chs.contains i = true := by rw [List.contains_iff_mem]; exact List.mem_of_getElem? hi
  rw [hn] at this; cases this
end

end Go.Proofs.YtjebipagehhkjaaGreat
