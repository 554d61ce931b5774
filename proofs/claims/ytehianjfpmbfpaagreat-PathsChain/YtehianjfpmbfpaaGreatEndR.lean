/-
  A region that draws its order, whose last operation (it waits for all others) may turn what was there: walked by what each operation's value is known by. Own text; it speaks of no program.
-/
import Derived.Test.YtehianjfpmbfpaaGreatInvK
namespace Go.Proofs.YtehianjfpmbfpaaGreat
open Go.RowKit
set_option linter.unusedVariables false

/-- Each operation but the last has one behind it that waits for it. -/
def sinkB (l : List Oper) : Bool := (List.range (l.length - 1)).all fun i => (List.range l.length).any fun k => decide (i < k) && depB l k i
def fitE (l : List Oper) (n : Nat) : Bool := topoFrom l 0 && nodupB (dsts l.dropLast) && (l.dropLast.all fun o => o.dst.isSome) && ((dsts l).all fun d => decide (d < n)) && sinkB l

def StepMost (P : Program) (ops : Array Oper) (a : Act) (w : World) (F : Nat → Value → World → Prop) (Q : Exit → Act → World → Prop) : List Oper → Nat → Prop
  | [], _ => True
  | [_], _ => True
  | o :: r :: m, i => StepOne P ops a w F Q i o ∧ StepMost P ops a w F Q (r :: m) (i + 1)

theorem stepMost_spec {P : Program} {ops : Array Oper} {a : Act} {w : World} {F : Nat → Value → World → Prop} {Q : Exit → Act → World → Prop} :
    ∀ (l : List Oper) (k : Nat), StepMost P ops a w F Q l k → ∀ i o, i + 1 < l.length → l[i]? = some o → StepOne P ops a w F Q (k + i) o
  | [], _, _, i, o, hi, ho => by simp at hi
  | [_], _, _, i, o, hi, ho => by simp at hi
  | x :: r :: m, k, h, 0, o, hi, ho => by simp at ho; subst ho; exact h.1
  | x :: r :: m, k, h, i + 1, o, hi, ho => by
    have := stepMost_spec (r :: m) (k + 1) h.2 i o (by simpa using hi) (by simpa using ho)
    rwa [show k + 1 + i = k + (i + 1) by omega] at this

section
variable {P : Program} {l : List Oper} {a : Act} {w : World} {F : Nat → Value → World → Prop} {Q : Exit → Act → World → Prop}

theorem wpAny_done {listed : Array Bool} (hsz : listed.size = l.length) (hall : ∀ i, i < l.length → listed.getD i false = true) (a : Act) (w : World) (hQ : Q .normal a w) : ∀ fuel, wpAny P .any l.toArray Q fuel listed a w := by
  have hr : Region.ready .any l.toArray listed = [] := by
    cases hrr : Region.ready .any l.toArray listed with
    | nil => rfl
    | cons i r =>
      have hm : i ∈ Region.ready .any l.toArray listed := by rw [hrr]; simp
      obtain ⟨hun, o, ho, _⟩ := mem_ready.1 hm
      have ho' : l[i]? = some o := by simpa using ho
      have hil : i < l.length := (List.getElem?_eq_some_iff.1 ho').1
      have := hall i hil
      have hi' : i < listed.size := by omega
      simp [hi'] at hun this
      rw [hun] at this; cases this
  intro fuel
  cases fuel with
  | zero => exact ⟨hr, hQ⟩
  | succ f => exact ⟨fun _ => hQ, fun i hi => by rw [hr] at hi; cases hi⟩

theorem all_before {m : Nat} (hl : l.length = m + 1) (hsink : sinkB l = true) {z : Oper} (hz : l[m]? = some z) {listed : Array Bool}
    (hcl : ∀ i o, l[i]? = some o → listed.getD i false = true → ∀ e ∈ o.after, Region.binds .any e = true → listed.getD e.on false = true)
    (hall : ∀ e ∈ z.after, Region.binds .any e = true → listed.getD e.on false = true) : ∀ d i, m - i ≤ d → i < m → listed.getD i false = true := by
  intro d
  induction d with
  | zero => intro i h1 h2; omega
  | succ d ih =>
    intro i h1 h2
    unfold sinkB at hsink
    rw [List.all_eq_true] at hsink
    have h3 := hsink i (List.mem_range.2 (by omega))
    rw [List.any_eq_true] at h3
    obtain ⟨k, hk, h4⟩ := h3
    have hkl := List.mem_range.1 hk
    simp only [Bool.and_eq_true, decide_eq_true_eq] at h4
    obtain ⟨hik, hdep⟩ := h4
    unfold depB at hdep
    obtain ⟨o, ho⟩ : ∃ o, l[k]? = some o := ⟨l[k], List.getElem?_eq_getElem hkl⟩
    rw [ho] at hdep
    simp only [List.any_eq_true, Bool.and_eq_true, beq_iff_eq] at hdep
    obtain ⟨e, he, hb, heq⟩ := hdep
    by_cases hkm : k = m
    · subst hkm
      rw [hz] at ho; cases ho
      rw [← heq]; exact hall e (by simpa using he) hb
    · have := ih k (by omega) (by omega)
      rw [← heq]; exact hcl k o ho this e (by simpa using he) hb

theorem wpAny_end {m : Nat} (hl : l.length = m + 1) (hfit : fitE l a.tmps.size = true) {z : Oper} (hz : l[m]? = some z) (hzg : z.guard = none) (hstab : ∀ k v w1 w2, Grow w1 w2 → F k v w1 → F k v w2)
    (hstep : StepMost P l.toArray a w F Q l 0)
    (hlast : ∀ a' w', Grow w w' → Same l.toArray a a' → (∀ i, i < m → F i (valOf l.toArray a' i) w') → z.wp P a' w' (fun a'' w'' => Q .normal a'' w'') Q) :
    ∀ (fuel : Nat) (listed : Array Bool) (a' : Act) (w' : World), listed.size = l.length → listed.toList.countP (! ·) ≤ fuel → Grow w w' → Same l.toArray a a' →
      (∀ i o, l[i]? = some o → listed.getD i false = true → ∀ e ∈ o.after, Region.binds .any e = true → listed.getD e.on false = true) →
      listed.getD m false = false → (∀ i, i < m → listed.getD i false = true → F i (valOf l.toArray a' i) w') → wpAny P .any l.toArray Q fuel listed a' w' := by
  simp only [fitE, Bool.and_eq_true] at hfit
  obtain ⟨⟨⟨⟨ht, hnd⟩, hsome⟩, hin⟩, hsink⟩ := hfit
  rw [List.all_eq_true] at hsome
  have hget : ∀ {i o}, i < m → l[i]? = some o → l.dropLast[i]? = some o := fun {i o} hi ho => by
    rw [List.getElem?_dropLast, if_pos (by omega)]; exact ho
  intro fuel
  induction fuel with
  | zero =>
    intro listed a' w' hsz hc hg hs hcl hmf hF
    have hm' : listed.getD m true = false := by
      have hi' : m < listed.size := by omega
      simp [hi'] at hmf ⊢; exact hmf
    have := count_set hm'
    omega
  | succ fuel ih =>
    intro listed a' w' hsz hc hg hs hcl hmf hF
    refine ⟨fun hr => ?_, fun i hi => ?_⟩
    · have := all_listed ht hsz hr (m + 1) m (by omega) (by omega)
      rw [hmf] at this; cases this
    obtain ⟨hun, o, ho, hall⟩ := mem_ready.1 hi
    have ho' : l[i]? = some o := by simpa using ho
    have hil : i < l.length := (List.getElem?_eq_some_iff.1 ho').1
    have hcs := count_set hun
    have hset : ∀ j, j ≠ i → (listed.setIfInBounds i true).getD j false = listed.getD j false := fun j hj => getD_set_ne false (Ne.symm hj)
    have hseti : (listed.setIfInBounds i true).getD i false = true := by
      have hi' : i < listed.size := by omega
      simp [hi']
    by_cases him : i = m
    · subst him
      rw [hz] at ho'; cases ho'
      have hb := all_before hl hsink hz hcl hall
      have h1 := hlast a' w' hg hs fun j hj => hF j hj (hb _ j (Nat.le_refl _) hj)
      unfold wpOp
      simp only [ho]
      have hw : Region.wanted z (yielded l.toArray a'.tmps) = true := by unfold Region.wanted; rw [hzg]
      rw [if_pos hw]
      refine .inl (Oper.wp_mono (fun a'' w'' hq => ?_) h1)
      refine wpAny_done (by simp [hsz]) (fun j hj => ?_) _ _ hq _
      by_cases hji : j = i
      · subst hji; exact hseti
      · rw [hset _ hji]; exact hb _ j (Nat.le_refl _) (by omega)
    · have him' : i < m := by omega
      obtain ⟨d, hd⟩ := Option.isSome_iff_exists.1 (hsome o (List.mem_of_getElem? (hget him' ho')))
      have hdn : d < a'.tmps.size := by
        rw [hs.size]
        have := List.all_eq_true.1 hin d (List.mem_filterMap.2 ⟨o, List.mem_of_getElem? ho', hd⟩)
        simpa using this
      have h1 := stepMost_spec l 0 hstep i o (by omega) ho' a' w' hg hs (fun e he hb => by
        have hlt := topo_spec l 0 ht i o ho' e he hb
        exact hF e.on (by omega) (hall e he hb))
      rw [show 0 + i = i by omega] at h1
      have hcl' : ∀ i' o', l[i']? = some o' → (listed.setIfInBounds i true).getD i' false = true → ∀ e ∈ o'.after, Region.binds .any e = true → (listed.setIfInBounds i true).getD e.on false = true := by
        intro i' o' hio hli e he hb
        by_cases hei : e.on = i
        · rw [hei]; exact hseti
        · rw [hset _ hei]
          by_cases hii : i' = i
          · subst hii
            rw [ho'] at hio
            cases hio
            exact hall e he hb
          · rw [hset _ hii] at hli
            exact hcl i' o' hio hli e he hb
      have next : ∀ v w'', Grow w' w'' → F i v w'' → wpAny P .any l.toArray Q fuel (listed.setIfInBounds i true) (a'.put o.dst v) w'' := fun v w'' hg' hv => by
        refine ih _ _ _ (by simp [hsz]) (by omega) (hg.trans' hg') ⟨by rw [put_defers, hs.defers], by rw [put_size, hs.size], fun k hk => ?_⟩ hcl' (by rw [hset _ (Ne.symm him)]; exact hmf) (fun j hjm hj => ?_)
        · rw [hd, getD_put a' d v k hdn, if_neg, hs.rest k hk]
          intro e
          have := List.all_eq_true.1 hk o (by simpa using List.mem_of_getElem? ho')
          simp [hd, e] at this
        · by_cases hji : j = i
          · subst hji
            have : valOf l.toArray (a'.put o.dst v) j = v := by
              simp only [valOf, ho, Option.bind_some, hd]
              rw [getD_put a' d v d hdn, if_pos rfl]
            rw [this]; exact hv
          · have hj' : listed.getD j false = true := by rwa [hset _ hji] at hj
            have : valOf l.toArray (a'.put o.dst v) j = valOf l.toArray a' j := by
              simp only [valOf]
              cases hoj : l.toArray[j]? with
              | none => rfl
              | some oj =>
                have hoj' : l[j]? = some oj := by simpa using hoj
                obtain ⟨dj, hdj⟩ := Option.isSome_iff_exists.1 (hsome oj (List.mem_of_getElem? (hget hjm hoj')))
                have hne := nodup_spec l.dropLast hnd hsome j i oj o (hget hjm hoj') (hget him' ho') hji
                simp only [Option.bind_some, hdj, hd]
                rw [getD_put a' d v dj hdn, if_neg]
                intro e
                rw [hdj, hd, e] at hne
                exact hne rfl
            rw [this]
            exact hstab _ _ _ _ hg' (hF j hjm hj')
      unfold wpOp
      simp only [ho]
      split
      · rename_i hw
        rw [if_pos hw] at h1
        exact .inl (Oper.wp_mono (fun a'' w'' ⟨v, e, hg', hv⟩ => by rw [e]; exact next v w'' hg' hv) h1)
      · rename_i hw
        rw [if_neg hw] at h1
        exact next undef w' (Grow.rfl' _) h1

/-- A REGION THAT DRAWS ITS ORDER; ITS LAST OPERATION IS FREE. -/
theorem wp_region_end {id : Nat} (F : Nat → Value → World → Prop) (m : Nat) (z : Oper) (hl : l.length = m + 1) (hz : l[m]? = some z) (hzg : z.guard = none) (hm : P.follows .mixedOrders = true) (hfit : fitE l a.tmps.size = true) (hstab : ∀ k v w1 w2, Grow w1 w2 → F k v w1 → F k v w2)
    (hstep : StepMost P l.toArray a w F Q l 0)
    (hlast : ∀ a' w', Grow w w' → Same l.toArray a a' → (∀ i, i < m → F i (valOf l.toArray a' i) w') → z.wp P a' w' (fun a'' w'' => Q .normal a'' w'') Q) :
    (Code.region id l.toArray true).wp P Q a w := by
  refine wp_region_any hm (wpAny_end hl hfit hz hzg hstab hstep hlast _ _ a _ (by simp) ?_ ⟨rfl, rfl, rfl, Nat.le_refl _, fun _ _ => rfl⟩ ⟨rfl, rfl, fun _ _ => rfl⟩ (fun i o _ hi => ?_) (by simp only [Array.getD_eq_getD_getElem?, List.size_toArray, Array.getElem?_replicate]; split <;> rfl) (fun i _ hi => ?_))
  · exact Nat.le_trans (List.countP_le_length) (by simp)
  · by_cases h : i < l.length <;> simp [h] at hi
  · by_cases h : i < l.length <;> simp [h] at hi
end

theorem wps {P : Program} {o : Oper} {a : Act} {w w' : World} {K : Act → World → Prop} {Q : Exit → Act → World → Prop} (h : (execOp a.eval o).run P w = .ok .skip w') (hk : K (a.put o.dst undef) w') : o.wp P a w K Q := by
  unfold Oper.wp; rw [h]; exact hk

/-- The frame behind a region: slots that it does not write are as they were. -/
def mergeL (T : Array Value) : List Value → List Bool → Nat → List Value
  | [], _, _ => []
  | _ :: r, true :: m, i => T.getD i undef :: mergeL T r m (i + 1)
  | v :: r, false :: m, i => v :: mergeL T r m (i + 1)
  | v :: r, [], i => v :: mergeL T r [] (i + 1)
theorem mergeL_get (T : Array Value) : ∀ (l : List Value) (m : List Bool) (k i : Nat) (h : i < l.length), (mergeL T l m k)[i]? = some (if m.getD i false = true then T.getD (k + i) undef else l[i])
  | [], _, _, i, h => by simp at h
  | v :: r, true :: m, k, 0, h => by simp [mergeL]
  | v :: r, false :: m, k, 0, h => by simp [mergeL]
  | v :: r, [], k, 0, h => by simp [mergeL]
  | v :: r, true :: m, k, i + 1, h => by
    have := mergeL_get T r m (k + 1) i (by simpa using h)
    simp only [mergeL, List.getElem?_cons_succ, this, List.getD_cons_succ, List.getElem_cons_succ, show k + 1 + i = k + (i + 1) by omega]
  | v :: r, false :: m, k, i + 1, h => by
    have := mergeL_get T r m (k + 1) i (by simpa using h)
    simp only [mergeL, List.getElem?_cons_succ, this, List.getD_cons_succ, List.getElem_cons_succ, show k + 1 + i = k + (i + 1) by omega]
  | v :: r, [], k, i + 1, h => by
    have := mergeL_get T r [] (k + 1) i (by simpa using h)
    simp only [mergeL, List.getElem?_cons_succ, this, List.getElem_cons_succ, show k + 1 + i = k + (i + 1) by omega]
    simp
theorem mergeL_len (T : Array Value) : ∀ (l : List Value) (m : List Bool) (k : Nat), (mergeL T l m k).length = l.length
  | [], _, _ => rfl
  | v :: r, true :: m, k => by simp [mergeL, mergeL_len T r m]
  | v :: r, false :: m, k => by simp [mergeL, mergeL_len T r m]
  | v :: r, [], k => by simp [mergeL, mergeL_len T r []]
theorem frame_eq {ops : Array Oper} {a a' : Act} (h : Same ops a a') (m : List Bool) (hm : ((List.range a.tmps.size).all fun i => m.getD i false || ops.toList.all fun o => decide (o.dst ≠ some i)) = true) :
    a' = ⟨(mergeL a'.tmps a.tmps.toList m 0).toArray, a.defers⟩ := by
  obtain ⟨T, D⟩ := a'
  have h1 : D = a.defers := h.defers
  have h2 : T.size = a.tmps.size := h.size
  subst h1
  congr 1
  apply Array.ext_getElem?
  intro i
  by_cases hi : i < a.tmps.size
  · have e := mergeL_get T a.tmps.toList m 0 i (by simpa using hi)
    have e2 : (mergeL T a.tmps.toList m 0).toArray[i]? = (mergeL T a.tmps.toList m 0)[i]? := by simp
    show T[i]? = _
    rw [e2, e]
    have hT : T[i]? = some (T.getD i undef) := by simp [Array.getD, h2, hi]
    rw [hT]
    congr 1
    split
    · rw [Nat.zero_add]
    · rename_i hf
      have h3 := List.all_eq_true.1 hm i (List.mem_range.2 hi)
      rw [Bool.or_eq_true] at h3
      have h4 := h.rest i (h3.resolve_left hf)
      have h5 : T.getD i undef = a.tmps.getD i undef := h4
      rw [h5]
      simp [Array.getD, hi]
  · have e2 : (mergeL T a.tmps.toList m 0).toArray[i]? = (mergeL T a.tmps.toList m 0)[i]? := by simp
    show T[i]? = _
    rw [e2, Array.getElem?_eq_none (by omega), List.getElem?_eq_none (by rw [mergeL_len]; simp; omega)]

end Go.Proofs.YtehianjfpmbfpaaGreat
