/-
  What follows of Reduce, as plain data: of two rows, of one key alone, of records with unlike keys. No program is named here.
-/
import Derived.Test.YthkkjhjbojbbaaaFPl
namespace Go.Proofs.Ythkkjhjbojbbaaa
set_option linter.unusedVariables false

theorem key_filter (f : Int → Rc) (hf : ∀ k, (f k).k = k) (c : Int) : ∀ (ks : List Int), (ks.Pairwise fun a b => a < b) → (ks.map f).filter (ofKey c) = if c ∈ ks then [f c] else []
  | [], _ => by simp
  | k :: ks, h => by
    rw [List.pairwise_cons] at h
    have ih := key_filter f hf c ks h.2
    by_cases e : k = c
    · subst e
      have hn : ¬ k ∈ ks := fun hm => by have := h.1 k hm; omega
      rw [if_neg hn] at ih
      rw [List.map_cons, List.filter_cons_of_pos (by simp [ofKey, hf]), ih, if_pos (by simp)]
    · rw [List.map_cons, List.filter_cons_of_neg (by simp [ofKey, hf, e]), ih]
      have hiff : (c ∈ k :: ks) ↔ c ∈ ks := by
        rw [List.mem_cons]
        exact ⟨fun h => h.resolve_left fun x => e x.symm, .inr⟩
      simp only [hiff]
theorem red_filter {a : Int} (ha : mayRedB a = true) (l : List Rc) (c : Int) : (redR a l).filter (ofKey c) = if c ∈ keysR l then [⟨c, agg a (l.filter (ofKey c))⟩] else [] := by
  unfold redR
  rw [if_pos ha]
  exact key_filter _ (fun _ => rfl) c _ (keysR_rises l)
theorem filter_none {l : List Rc} {c : Int} (h : ¬ c ∈ keysR l) : l.filter (ofKey c) = [] := List.filter_eq_nil_iff.2 fun r hr => by
  intro hk
  exact h ((keysR_mem l c).2 ⟨r, hr, by simpa [ofKey] using hk⟩)
theorem red_keys_mem {a : Int} (ha : mayRedB a = true) (l : List Rc) (c : Int) : (∃ r ∈ redR a l, r.k = c) ↔ ∃ r ∈ l, r.k = c := by
  rw [← keysR_mem l c, ← redR_keys ha, List.mem_map]
theorem parts_keys {a : Int} (ha : mayRedB a = true) (l m : List Rc) : keysR (l ++ m) = keysR (redR a l ++ redR a m) := by
  refine rises_unique (keysR_rises _) (keysR_rises _) fun c => ?_
  rw [keysR_mem, keysR_mem]
  have h1 := red_keys_mem ha l c
  have h2 := red_keys_mem ha m c
  constructor
  · rintro ⟨r, hr, e⟩
    rcases List.mem_append.1 hr with hr | hr
    · obtain ⟨s, hs, e'⟩ := h1.2 ⟨r, hr, e⟩
      exact ⟨s, List.mem_append.2 (.inl hs), e'⟩
    · obtain ⟨s, hs, e'⟩ := h2.2 ⟨r, hr, e⟩
      exact ⟨s, List.mem_append.2 (.inr hs), e'⟩
  · rintro ⟨r, hr, e⟩
    rcases List.mem_append.1 hr with hr | hr
    · obtain ⟨s, hs, e'⟩ := h1.1 ⟨r, hr, e⟩
      exact ⟨s, List.mem_append.2 (.inl hs), e'⟩
    · obtain ⟨s, hs, e'⟩ := h2.1 ⟨r, hr, e⟩
      exact ⟨s, List.mem_append.2 (.inr hs), e'⟩
/-- Values of 30 bits. -/
def Low (l : List Rc) : Prop := ∀ r ∈ l, -1073741824 ≤ r.v ∧ r.v ≤ 1073741824
theorem low_sum {l : List Rc} (h : Low l) (hl : l.length ≤ 100) : -107374182400 ≤ sumV l ∧ sumV l ≤ 107374182400 := by
  have := sumV_bound 1073741824 l h
  omega
def againI (k : Int) : Int := if k = 1 then 2 else k
theorem agg3 (l : List Rc) : agg 3 l = maxV l := by simp [agg]
theorem agg4 (l : List Rc) : agg 4 l = minV l := by simp [agg]
theorem redR_pos {a : Int} (ha : mayRedB a = true) (l : List Rc) : redR a l = (keysR l).map fun k => ⟨k, agg a (l.filter (ofKey k))⟩ := if_pos ha
theorem agg_one (k c : Int) {A : List Rc} (hk : mayRedB k = true) (hA : A ≠ []) (hl : A.length ≤ 100) (h : Low A) : agg (againI k) [⟨c, agg k A⟩] = agg k A := by
  have h1 := low_sum h hl
  have : k = 1 ∨ k = 2 ∨ k = 3 ∨ k = 4 := by simp [mayRedB] at hk; omega
  rcases this with rfl | rfl | rfl | rfl
  · simp only [againI, agg, sumV_one]
    simp
    exact heldI_id (by omega)
  · simp only [againI, agg, sumV_one]
    simp
    exact heldI_idem _
  · simp [againI, agg, maxV]
  · simp [againI, agg, minV]
theorem agg_two (k c : Int) {A B : List Rc} (hk : mayRedB k = true) (hA : A ≠ []) (hB : B ≠ []) (hl : A.length ≤ 100) (hm : B.length ≤ 100) (h : Low A) (j : Low B) : agg (againI k) [⟨c, agg k A⟩, ⟨c, agg k B⟩] = agg k (A ++ B) := by
  have h1 := low_sum h hl
  have h2 := low_sum j hm
  have : k = 1 ∨ k = 2 ∨ k = 3 ∨ k = 4 := by simp [mayRedB] at hk; omega
  rcases this with rfl | rfl | rfl | rfl
  · simp only [againI, agg]
    simp [sumV]
    rw [heldI_id (by omega)]
  · simp only [againI, agg, sumV_app]
    simp [sumV] at h1 h2 ⊢
    rw [heldI_id (x := (A.map (·.v)).sum) (by omega), heldI_id (x := (B.map (·.v)).sum) (by omega)]
  · have := ((maxV_is hA).app (maxV_is hB)).unique (maxV_is (by simp [hA]))
    have e : againI 3 = 3 := rfl
    rw [e, agg3, agg3, agg3, agg3, ← this]
    rfl
  · have := ((minV_is hA).app (minV_is hB)).unique (minV_is (by simp [hA]))
    have e : againI 4 = 4 := rfl
    rw [e, agg4, agg4, agg4, agg4, ← this]
    rfl
theorem low_filter {l : List Rc} (h : Low l) (p : Rc → Bool) : Low (l.filter p) := fun r hr => h r (List.mem_filter.1 hr).1
theorem red_parts (k : Int) (hk : mayRedB k = true) (l m : List Rc) (hl : l.length ≤ 100) (hm : m.length ≤ 100) (h : Low l) (j : Low m) : redR (againI k) (redR k l ++ redR k m) = redR k (l ++ m) := by
  have hk2 : mayRedB (againI k) = true := by
    have : k = 1 ∨ k = 2 ∨ k = 3 ∨ k = 4 := by simp [mayRedB] at hk; omega
    rcases this with rfl | rfl | rfl | rfl <;> rfl
  rw [redR_pos hk2, ← parts_keys hk, redR_pos hk (l ++ m)]
  refine List.map_congr_left fun c hc => ?_
  have e : agg (againI k) ((redR k l ++ redR k m).filter (ofKey c)) = agg k ((l ++ m).filter (ofKey c)) := by
    rw [List.filter_append, List.filter_append, red_filter hk, red_filter hk]
    have l1 := List.length_filter_le (ofKey c) l
    have l2 := List.length_filter_le (ofKey c) m
    by_cases h1 : c ∈ keysR l
    · by_cases h2 : c ∈ keysR m
      · rw [if_pos h1, if_pos h2]
        exact agg_two k c hk (filter_ne h1) (filter_ne h2) (by omega) (by omega) (low_filter h _) (low_filter j _)
      · rw [if_pos h1, if_neg h2, filter_none h2, List.append_nil, List.append_nil]
        exact agg_one k c hk (filter_ne h1) (by omega) (low_filter h _)
    · by_cases h2 : c ∈ keysR m
      · rw [if_neg h1, if_pos h2, filter_none h1, List.nil_append, List.nil_append]
        exact agg_one k c hk (filter_ne h2) (by omega) (low_filter j _)
      · exfalso
        obtain ⟨r, hr, e⟩ := (keysR_mem _ _).1 hc
        rcases List.mem_append.1 hr with hr | hr
        · exact h1 ((keysR_mem _ _).2 ⟨r, hr, e⟩)
        · exact h2 ((keysR_mem _ _).2 ⟨r, hr, e⟩)
  rw [e]
/-- One key alone. -/
theorem keys_one {l : List Rc} {c : Int} (h : c ∈ keysR l) : keysR (l.filter (ofKey c)) = [c] := by
  refine rises_unique (keysR_rises _) (by simp) fun x => ?_
  rw [keysR_mem, List.mem_singleton]
  constructor
  · rintro ⟨r, hr, rfl⟩
    simpa [ofKey] using (List.mem_filter.1 hr).2
  · rintro rfl
    obtain ⟨r, hr, e⟩ := (keysR_mem _ _).1 h
    exact ⟨r, List.mem_filter.2 ⟨hr, by simp [ofKey, e]⟩, e⟩
theorem red_alone (a : Int) (l : List Rc) (i : Nat) (hi : i < (redR a l).length) : redR a (l.filter (ofKey ((redR a l)[i]).k)) = [(redR a l)[i]] := by
  by_cases ha : mayRedB a = true
  · have hx : (redR a l)[i] ∈ redR a l := List.getElem_mem hi
    obtain ⟨x, hxe⟩ : ∃ x, x = (redR a l)[i] := ⟨_, rfl⟩
    rw [← hxe] at hx
    rw [← hxe]
    have hx' := hx
    unfold redR at hx'
    rw [if_pos ha] at hx'
    obtain ⟨c, hc, rfl⟩ := List.mem_map.1 hx'
    rw [redR_pos ha, keys_one hc]
    simp
  · exfalso
    unfold redR at hi
    rw [if_neg ha] at hi
    simp at hi
/-- Records with unlike keys, rising. -/
theorem red_ones {a : Int} (ha : mayRedB a = true) (l : List Rc) (h : (l.map (·.k)).Pairwise fun a b => a < b) (hv : ∀ r ∈ l, mayR r = true) : redR a l = l.map fun r => ⟨r.k, if a = 1 then 1 else r.v⟩ := by
  have hk : keysR l = l.map (·.k) := rises_unique (keysR_rises l) h fun x => by rw [keysR_mem, List.mem_map]
  unfold redR
  rw [if_pos ha, hk, List.map_map]
  refine List.map_congr_left fun r hr => ?_
  have hf : l.filter (ofKey r.k) = [r] := by
    have hn : l.Nodup := by
      have : (l.map (·.k)).Nodup := h.imp fun h => by omega
      exact List.Pairwise.imp (fun {a b} h e => h (by rw [e])) (List.pairwise_map.1 this)
    have hinj : ∀ s ∈ l, s.k = r.k → s = r := by
      intro s hs e
      obtain ⟨i, hi, rfl⟩ := List.mem_iff_getElem.1 hs
      obtain ⟨j, hj, rfl⟩ := List.mem_iff_getElem.1 hr
      rw [List.pairwise_iff_getElem] at h
      rcases Nat.lt_trichotomy i j with x | x | x
      · have := h i j (by simpa using hi) (by simpa using hj) x
        simp at this
        omega
      · subst x; rfl
      · have := h j i (by simpa using hj) (by simpa using hi) x
        simp at this
        omega
    have hp : (l.filter (ofKey r.k)).Perm [r] := (List.perm_ext_iff_of_nodup (hn.filter _) (by simp)).2 fun s => by
      rw [List.mem_filter, List.mem_singleton]
      constructor
      · rintro ⟨hs, e⟩
        exact hinj s hs (by simpa [ofKey] using e)
      · rintro rfl
        exact ⟨hr, by simp [ofKey]⟩
    exact List.perm_singleton.1 hp
  have hr' := (mayR_iff r).1 (hv r hr)
  have : a = 1 ∨ a = 2 ∨ a = 3 ∨ a = 4 := by simp [mayRedB] at ha; omega
  simp only [Function.comp]
  rw [hf]
  rcases this with rfl | rfl | rfl | rfl
  · simp [agg]
  · simp [agg, sumV_one, heldI_id hr'.2]
  · simp [agg, maxV]
  · simp [agg, minV]

end Go.Proofs.Ythkkjhjbojbbaaa
