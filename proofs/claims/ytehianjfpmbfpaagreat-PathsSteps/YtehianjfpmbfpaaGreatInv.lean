/-
  A region that draws its order, walked by what each operation's value is known by: in whatever order the operations come, the end is the same. Own text; it speaks of no program.
-/
import Derived.WalkKit
import Derived.WalkSpells
import Derived.WalkLawsBesides
import Derived.Below
namespace Go.Proofs.YtehianjfpmbfpaaGreat
open Go.RowKit

/-- The world has grown: what was there is as it was. -/
abbrev Grow (w w' : World) : Prop := Below w.heap.size w w'

theorem Grow.rfl' (w : World) : Grow w w := Below.refl _ _
theorem Grow.trans' {a b c : World} (h : Grow a b) (k : Grow b c) : Grow a c := h.trans (k.mono h.size)

/-- What operation number i has yielded. -/
def valOf (ops : Array Oper) (a : Act) (i : Nat) : Value :=
  match (ops[i]?).bind (·.dst) with
  | some d => a.tmps.getD d undef
  | none => undef

/-- The frame is as it was, but for the slots that the region writes. -/
structure Same (ops : Array Oper) (a a' : Act) : Prop where
  defers : a'.defers = a.defers
  size : a'.tmps.size = a.tmps.size
  rest : ∀ d, (ops.toList.all fun o => decide (o.dst ≠ some d)) = true → a'.tmps.getD d undef = a.tmps.getD d undef

def StepOne (P : Program) (ops : Array Oper) (a : Act) (w : World) (F : Nat → Value → World → Prop) (Q : Exit → Act → World → Prop) (i : Nat) (o : Oper) : Prop :=
  ∀ a' w', Grow w w' → Same ops a a' → (∀ e ∈ o.after, Region.binds .any e = true → F e.on (valOf ops a' e.on) w') →
    if Region.wanted o (yielded ops a'.tmps) = true then o.wp P a' w' (fun a'' w'' => ∃ v, a'' = a'.put o.dst v ∧ Grow w' w'' ∧ F i v w'') Q else F i undef w'

def StepAll (P : Program) (ops : Array Oper) (a : Act) (w : World) (F : Nat → Value → World → Prop) (Q : Exit → Act → World → Prop) : List Oper → Nat → Prop
  | [], _ => True
  | o :: r, i => StepOne P ops a w F Q i o ∧ StepAll P ops a w F Q r (i + 1)

def topoFrom : List Oper → Nat → Bool
  | [], _ => true
  | o :: r, i => (o.after.toList.all fun e => !Region.binds .any e || decide (e.on < i)) && topoFrom r (i + 1)

def dsts (l : List Oper) : List Nat := l.filterMap (·.dst)
def nodupB : List Nat → Bool
  | [] => true
  | x :: r => !r.contains x && nodupB r
/-- Every operation writes a slot of its own, inside the frame; each waits for earlier ones alone. -/
def fitB (l : List Oper) (n : Nat) : Bool := topoFrom l 0 && nodupB (dsts l) && (l.all fun o => o.dst.isSome) && (dsts l).all fun d => decide (d < n)

theorem topo_spec : ∀ (l : List Oper) (k : Nat), topoFrom l k = true → ∀ i o, l[i]? = some o → ∀ e ∈ o.after, Region.binds .any e = true → e.on < k + i
  | [], _, _, i, o, ho, _, _, _ => by simp at ho
  | x :: r, k, h, 0, o, ho, e, he, hb => by
    simp only [topoFrom, Bool.and_eq_true, List.all_eq_true] at h
    simp at ho; subst ho
    have := h.1 e (by simpa using he)
    simp [hb] at this
    omega
  | x :: r, k, h, i + 1, o, ho, e, he, hb => by
    simp only [topoFrom, Bool.and_eq_true] at h
    have := topo_spec r (k + 1) h.2 i o (by simpa using ho) e he hb
    omega

theorem nodup_spec : ∀ (l : List Oper), nodupB (dsts l) = true → (∀ o ∈ l, o.dst.isSome = true) → ∀ (i j : Nat) (o o' : Oper), l[i]? = some o → l[j]? = some o' → i ≠ j → o.dst ≠ o'.dst
  | [], _, _, i, _, o, _, ho, _, _ => by simp at ho
  | x :: r, h, hs, i, j, o, o', ho, ho', hij => by
    obtain ⟨d, hd⟩ := Option.isSome_iff_exists.1 (hs x (by simp))
    have e : dsts (x :: r) = d :: dsts r := by simp [dsts, hd]
    rw [e] at h
    simp only [nodupB, Bool.and_eq_true, Bool.not_eq_true'] at h
    have key : ∀ (k : Nat) (p : Oper), r[k]? = some p → p.dst ≠ some d := fun k p hp hpd => by
      have : d ∈ dsts r := List.mem_filterMap.2 ⟨p, List.mem_of_getElem? hp, hpd⟩
      have h1 := h.1
      rw [← Bool.not_eq_true, List.contains_iff_mem] at h1
      exact h1 this
    cases i with
    | zero =>
      cases j with
      | zero => exact absurd rfl hij
      | succ j =>
        simp at ho ho'
        subst ho
        intro he
        exact key j o' ho' (he ▸ hd)
    | succ i =>
      cases j with
      | zero =>
        simp at ho ho'
        subst ho'
        intro he
        exact key i o ho (he.trans hd)
      | succ j =>
        exact nodup_spec r h.2 (fun o ho => hs o (by simp [ho])) i j o o' (by simpa using ho) (by simpa using ho') (by omega)

theorem stepAll_spec {P : Program} {ops : Array Oper} {a : Act} {w : World} {F : Nat → Value → World → Prop} {Q : Exit → Act → World → Prop} :
    ∀ (l : List Oper) (k : Nat), StepAll P ops a w F Q l k → ∀ i o, l[i]? = some o → StepOne P ops a w F Q (k + i) o
  | [], _, _, i, o, ho => by simp at ho
  | x :: r, k, h, 0, o, ho => by simp at ho; subst ho; exact h.1
  | x :: r, k, h, i + 1, o, ho => by
    have := stepAll_spec r (k + 1) h.2 i o (by simpa using ho)
    rwa [show k + 1 + i = k + (i + 1) by omega] at this

theorem getD_put (a : Act) (d : Nat) (v : Value) (k : Nat) (hd : d < a.tmps.size) : (a.put (some d) v).tmps.getD k undef = if k = d then v else a.tmps.getD k undef := by
  simp only [Act.put]
  by_cases h : k = d
  · subst h; simp [hd]
  · simp [h, Ne.symm h]

theorem put_defers (a : Act) (d : Option Nat) (v : Value) : (a.put d v).defers = a.defers := by cases d <;> rfl
theorem put_size (a : Act) (d : Option Nat) (v : Value) : (a.put d v).tmps.size = a.tmps.size := by cases d <;> simp [Act.put]

theorem count_set {l : Array Bool} {i : Nat} (h : l.getD i true = false) : ((l.setIfInBounds i true).toList.countP (! ·)) + 1 = l.toList.countP (! ·) := by
  have hi : i < l.size := by
    by_cases hi : i < l.size
    · exact hi
    · simp [hi] at h
  have hl : l[i] = false := by simpa [hi] using h
  rw [Array.toList_setIfInBounds, List.countP_set (by simpa using hi)]
  simp only [Array.getElem_toList, hl, Bool.not_false, if_true, Bool.not_true, Bool.false_eq_true, if_false]
  have : 0 < l.toList.countP (! ·) := List.countP_pos_iff.2 ⟨false, by rw [← hl]; simp, rfl⟩
  omega

section
variable {P : Program} {l : List Oper} {a : Act} {w : World} {F : Nat → Value → World → Prop} {Q : Exit → Act → World → Prop}

theorem all_listed (ht : topoFrom l 0 = true) {listed : Array Bool} (hsz : listed.size = l.length) (hr : Region.ready .any l.toArray listed = []) : ∀ n i, i < n → i < l.length → listed.getD i false = true
  | 0, _, h, _ => by omega
  | n + 1, i, h, hi => by
    by_cases hlt : i < n
    · exact all_listed ht hsz hr n i hlt hi
    · have e : i = n := by omega
      subst e
      by_cases hb : listed.getD i false = true
      · exact hb
      · have hf : listed.getD i true = false := by
          have hi' : i < listed.size := by omega
          simp [hi'] at hb ⊢; exact hb
        have hm : i ∈ Region.ready .any l.toArray listed := by
          refine mem_ready.2 ⟨hf, l[i], by simp [hi], fun e he hb => ?_⟩
          have := topo_spec l 0 ht i l[i] (by simp [hi]) e he hb
          exact all_listed ht hsz hr i e.on (by omega) (by omega)
        rw [hr] at hm
        cases hm

theorem wpAny_inv (hfit : fitB l a.tmps.size = true) (hstab : ∀ k v w1 w2, Grow w1 w2 → F k v w1 → F k v w2)
    (hstep : StepAll P l.toArray a w F Q l 0) (hend : ∀ a' w', Grow w w' → Same l.toArray a a' → (∀ i, i < l.length → F i (valOf l.toArray a' i) w') → Q .normal a' w') :
    ∀ (fuel : Nat) (listed : Array Bool) (a' : Act) (w' : World), listed.size = l.length → listed.toList.countP (! ·) ≤ fuel → Grow w w' → Same l.toArray a a' →
      (∀ i, listed.getD i false = true → F i (valOf l.toArray a' i) w') → wpAny P .any l.toArray Q fuel listed a' w' := by
  simp only [fitB, Bool.and_eq_true] at hfit
  obtain ⟨⟨⟨ht, hnd⟩, hsome⟩, hin⟩ := hfit
  rw [List.all_eq_true] at hsome
  have fin : ∀ (listed : Array Bool) (a' : Act) (w' : World), listed.size = l.length → Grow w w' → Same l.toArray a a' → (∀ i, listed.getD i false = true → F i (valOf l.toArray a' i) w') →
      Region.ready .any l.toArray listed = [] → Q .normal a' w' := fun listed a' w' hsz hg hs hF hr =>
    hend a' w' hg hs fun i hi => hF i (all_listed ht hsz hr (i + 1) i (by omega) hi)
  intro fuel
  induction fuel with
  | zero =>
    intro listed a' w' hsz hc hg hs hF
    have hr : Region.ready .any l.toArray listed = [] := by
      cases hrr : Region.ready .any l.toArray listed with
      | nil => rfl
      | cons i r =>
        have hm : i ∈ Region.ready .any l.toArray listed := by rw [hrr]; simp
        have := count_set (mem_ready.1 hm).1
        omega
    exact ⟨hr, fin listed a' w' hsz hg hs hF hr⟩
  | succ fuel ih =>
    intro listed a' w' hsz hc hg hs hF
    refine ⟨fin listed a' w' hsz hg hs hF, fun i hi => ?_⟩
    obtain ⟨hun, o, ho, hall⟩ := mem_ready.1 hi
    have ho' : l[i]? = some o := by simpa using ho
    have hcs := count_set hun
    obtain ⟨d, hd⟩ := Option.isSome_iff_exists.1 (hsome o (List.mem_of_getElem? ho'))
    have hdn : d < a'.tmps.size := by
      rw [hs.size]
      have := List.all_eq_true.1 hin d (List.mem_filterMap.2 ⟨o, List.mem_of_getElem? ho', hd⟩)
      simpa using this
    have h1 := stepAll_spec l 0 hstep i o ho' a' w' hg hs (fun e he hb => hF e.on (hall e he hb))
    rw [show 0 + i = i by omega] at h1
    have next : ∀ v w'', Grow w' w'' → F i v w'' → wpAny P .any l.toArray Q fuel (listed.setIfInBounds i true) (a'.put o.dst v) w'' := fun v w'' hg' hv => by
      refine ih _ _ _ (by simp [hsz]) (by omega) (hg.trans' hg') ⟨by rw [put_defers, hs.defers], by rw [put_size, hs.size], fun k hk => ?_⟩ (fun j hj => ?_)
      · rw [hd, getD_put a' d v k hdn, if_neg, hs.rest k hk]
        intro e
        have := List.all_eq_true.1 hk o (by simpa using List.mem_of_getElem? ho')
        simp [hd, e] at this
      · by_cases hji : j = i
        · subst hji
          have : valOf l.toArray (a'.put o.dst v) j = v := by
            simp only [valOf, ho, Option.bind_some, hd]
            rw [getD_put a' d v d hdn, if_pos rfl]
          rw [this]; exact hv
        · have hj' : listed.getD j false = true := by rwa [getD_set_ne false (Ne.symm hji)] at hj
          have : valOf l.toArray (a'.put o.dst v) j = valOf l.toArray a' j := by
            simp only [valOf]
            cases hoj : l.toArray[j]? with
            | none => rfl
            | some oj =>
              have hoj' : l[j]? = some oj := by simpa using hoj
              obtain ⟨dj, hdj⟩ := Option.isSome_iff_exists.1 (hsome oj (List.mem_of_getElem? hoj'))
              have hne := nodup_spec l hnd hsome j i oj o hoj' ho' hji
              simp only [Option.bind_some, hdj, hd]
              rw [getD_put a' d v dj hdn, if_neg]
              intro e
              rw [hdj, hd, e] at hne
              exact hne rfl
          rw [this]
          exact hstab _ _ _ _ hg' (hF j hj')
    unfold wpOp
    simp only [ho]
    split
    · rename_i hw
      rw [if_pos hw] at h1
      exact .inl (Oper.wp_mono (fun a'' w'' ⟨v, e, hg', hv⟩ => by rw [e]; exact next v w'' hg' hv) h1)
    · rename_i hw
      rw [if_neg hw] at h1
      exact next undef w' (Grow.rfl' _) h1

/-- A REGION THAT DRAWS ITS ORDER, BY WHAT EACH OPERATION's VALUE IS KNOWN BY. -/
theorem wp_region_inv {id : Nat} (F : Nat → Value → World → Prop) (hm : P.follows .mixedOrders = true) (hfit : fitB l a.tmps.size = true) (hstab : ∀ k v w1 w2, Grow w1 w2 → F k v w1 → F k v w2)
    (hstep : StepAll P l.toArray a w F Q l 0) (hend : ∀ a' w', Grow w w' → Same l.toArray a a' → (∀ i, i < l.length → F i (valOf l.toArray a' i) w') → Q .normal a' w') :
    (Code.region id l.toArray true).wp P Q a w := by
  refine wp_region_any hm (wpAny_inv hfit hstab hstep hend _ _ a _ (by simp) ?_ ⟨rfl, rfl, rfl, Nat.le_refl _, fun _ _ => rfl⟩ ⟨rfl, rfl, fun _ _ => rfl⟩ (fun i hi => ?_))
  · exact Nat.le_trans (List.countP_le_length) (by simp)
  · by_cases h : i < l.length <;> simp [h] at hi
end

theorem yielded_of {ops : Array Oper} {a : Act} {i : Nat} {b : Bool} (h : valOf ops a i = .bool b) : yielded ops a.tmps i = some b := by
  unfold valOf at h
  unfold yielded
  cases hd : (ops[i]?).bind (·.dst) with
  | none => rw [hd] at h; cases h
  | some d =>
    rw [hd] at h
    simp only [Option.bind_some]
    cases ht : a.tmps[d]? with
    | none => simp [ht] at h; cases h
    | some v => simp [ht] at h; subst h; rfl

/-- The operation runs: it has no guard, or its guard's operation is known to yield what it asks for. -/
def GuardT (F : Nat → Value → World → Prop) (o : Oper) : Prop :=
  match o.guard with
  | none => True
  | some (j, b) => (∃ e ∈ o.after, e.on = j ∧ Region.binds .any e = true) ∧ ∀ v w, F j v w → v = .bool b

theorem stepOne_run {P : Program} {ops : Array Oper} {a : Act} {w : World} {F : Nat → Value → World → Prop} {Q : Exit → Act → World → Prop} {i : Nat} {o : Oper} (hgt : GuardT F o)
    (h : ∀ a' w', Grow w w' → Same ops a a' → (∀ e ∈ o.after, Region.binds .any e = true → F e.on (valOf ops a' e.on) w') → o.wp P a' w' (fun a'' w'' => ∃ v, a'' = a'.put o.dst v ∧ Grow w' w'' ∧ F i v w'') Q) :
    StepOne P ops a w F Q i o := by
  intro a' w' hg hs hd
  have hw : Region.wanted o (yielded ops a'.tmps) = true := by
    unfold GuardT at hgt
    unfold Region.wanted
    cases hgd : o.guard with
    | none => rfl
    | some jb =>
      obtain ⟨j, b⟩ := jb
      rw [hgd] at hgt
      obtain ⟨⟨e, he, hj, hb⟩, hv⟩ := hgt
      have := hd e he hb
      rw [hj] at this
      simp [yielded_of (hv _ _ this)]
  rw [if_pos hw]
  exact h a' w' hg hs hd

theorem wpv {P : Program} {o : Oper} {a : Act} {w w' : World} {K : Act → World → Prop} {Q : Exit → Act → World → Prop} {v : Value} (h : (execOp a.eval o).run P w = .ok (.value v) w') (hk : K (a.put o.dst v) w') : o.wp P a w K Q := by
  unfold Oper.wp; rw [h]; exact hk

theorem wpc {P : Program} {o : Oper} {a : Act} {w : World} {K : Act → World → Prop} {Q : Exit → Act → World → Prop} {f : FuncId} {args : Array Value} (h : (execOp a.eval o).run P w = .ok (.enter f args) w)
    (hc : Calls P f args w fun e w'' => ∃ v, e = .returned v ∧ K (a.put o.dst v) w'') : o.wp P a w K Q := by
  unfold Oper.wp; rw [h]
  exact hc.mono fun e w'' ⟨v, he, hk⟩ => by subst he; exact hk

end Go.Proofs.YtehianjfpmbfpaaGreat
