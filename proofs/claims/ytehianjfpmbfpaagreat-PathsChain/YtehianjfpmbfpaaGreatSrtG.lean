/-
  What the library's sort by a function does to a row of times, or of summaries, that the call owns: the same ones, in order; what lay below stays as it was.
-/
import Derived.Test.YtehianjfpmbfpaaGreatRowV
import Derived.Test.YtehianjfpmbfpaaGreatGrd
import Derived.Test.YtehianjfpmbfpaaGreatSlayG
import Derived.Test.YtehianjfpmbfpaaGreatOdG
import Derived.Test.YtehianjfpmbfpaaGreatSOdG
import Derived.Lib.SlBuf
namespace Go.Proofs.YtehianjfpmbfpaaGreat
open Go.RowKit Go.Sort Go.Shelf
set_option linter.unusedVariables false

theorem swoO {α : Type} (O : Kin α) : SWO (ltOf O.ord) :=
  { irrefl := fun a => by simp [ltOf, O.oself]
    trans := fun a b c h k => by
      simp only [ltOf, decide_eq_true_eq] at h k ⊢
      exact O.otrans _ _ _ h k
    ntrans := fun a b c h k => by
      simp only [ltOf, decide_eq_false_iff_not] at h k ⊢
      intro x
      rcases O.otot a b with y | y | y
      · exact h y
      · subst y; exact k x
      · exact k (O.otrans _ _ _ y x) }
theorem sortedO {α : Type} [Inhabited α] (O : Kin α) {d : Array α} (h : SortedIn (ltOf O.ord) 0 d.size d) : d.toList.Pairwise fun a b => O.ord a b ≤ 0 := by
  rw [List.pairwise_iff_getElem]
  intro i j hi hj hij
  have hi' : i < d.size := by simpa using hi
  have hj' : j < d.size := by simpa using hj
  have := h i j (Nat.zero_le _) hij hj'
  rw [getElem!_pos d j hj', getElem!_pos d i hi'] at this
  simp only [ltOf, decide_eq_false_iff_not] at this
  have h2 := O.oanti d[j] d[i]
  simp only [Array.getElem_toList]
  omega
theorem below_sortK {α : Type} [Inhabited α] (enc : α → List Value) (k B : Nat) (W : World) (g q : Nat) (d : Array α) (os : Array Obj) (hg : B ≤ g) (hs : B ≤ W.heap.size) : Below B W (sortWorldK enc k W g 0 q d os) := by
  unfold sortWorldK putRowK
  refine ⟨rfl, rfl, rfl, ?_, fun j hj => ?_⟩
  · simp [grow, putRow, mapBlock, Sort.ahead]
  · simp only [grow]
    rw [Array.getElem?_append_left (by simp [putRow, mapBlock, Sort.ahead]; omega)]
    simp [putRow, mapBlock, Sort.ahead, Array.getElem?_modify, show g ≠ j by omega]

set_option maxHeartbeats 400000 in
theorem len0_any (w : World) : Calls Tryz.prog 113 #[.int .u64 0] w fun e w' => (∃ k : Int, e = .returned (.int .i64 k)) ∧ w' = w := by
  go_enter Tryz.func113, Tryz.ntmps113
  go_wp2
  all_goals go_ret
  all_goals exact ⟨⟨_, rfl⟩, rfl⟩

theorem flatKT_eq [Inhabited Tm] (d : Array Tm) : flatK encT 5 d = (flatT d.toList).toArray := by
  apply Array.ext_getElem?
  intro t
  by_cases h : t < d.size * 5
  · have h1 : t / 5 < d.toList.length := by simp; omega
    have e : t = t / 5 * 5 + t % 5 := by omega
    have hg := flatT_get d.toList (t / 5) (t % 5) h1 (by omega)
    rw [← e] at hg
    have h5 : t % 5 < (encT d.toList[t / 5]).length := by rw [encT_len]; omega
    have e2 : (flatT d.toList).toArray[t]? = (flatT d.toList)[t]? := by simp
    rw [e2, hg, List.getElem?_eq_getElem h5]
    have h2 : t < (flatK encT 5 d).size := by simpa using h
    rw [Array.getElem?_eq_getElem h2]
    congr 1
    have := get_flatK encT 5 d t h
    rw [getElem!_pos _ t h2] at this
    rw [this]
    have h3 : t / 5 < d.size := by omega
    rw [getElem!_pos d (t / 5) h3, getElem!_pos _ (t % 5) (by rw [encT_len]; omega)]
    rfl
  · rw [Array.getElem?_eq_none (by simp; omega), Array.getElem?_eq_none (by simp [flatT_len]; omega)]
theorem rowT_of_holds [Inhabited Tm] {w : World} {b o : Nat} {d : Array Tm} (h : HoldsK encT 5 w b o d) : RowT w b o d.toList := by
  intro j v hj
  unfold HoldsK at h
  rw [flatKT_eq] at h
  have hj' : j < (flatT d.toList).length := (List.getElem?_eq_some_iff.1 hj).1
  have := (h j (by simpa using hj')).1
  rw [this]
  simp [getElem!_pos, hj'] at this ⊢
  rw [List.getElem?_eq_getElem hj'] at hj
  simpa using hj
theorem holds_of_ownT [Inhabited Tm] {w : World} {base g cap : Nat} {d : Array Tm} (h : OwnS w base g cap d.toList) : HoldsK encT 5 w g 0 d := by
  unfold HoldsK
  rw [flatKT_eq]
  intro j hj
  have hj' : j < (flatT d.toList).length := by simpa using hj
  refine ⟨?_, ?_⟩
  · have := h.row j ((flatT d.toList)[j]) (by rw [List.getElem?_eq_getElem hj'])
    rw [this]
    simp [getElem!_pos, hj']
  · rw [Nat.zero_add]; exact World.ownsRow.frozenAt h j
theorem cmpLaysT [Inhabited Tm] (blk off size : Nat) (w : World) : CmpLays Tryz.prog 89 #[] encT 5 kinT.ord blk off size w :=
  fun _ _ _ _ a b => order_grow a b _
theorem sortT_own (g cap base : Nat) (l : List Tm) (w : World) (hbig : l.length ≤ 1000000000000) (hO : OwnS w base g cap l) :
    Calls Tryz.prog 91 #[.slice (some ⟨g, 0, none⟩) l.length cap, .func (.func 89) #[] #[]] w
      fun e w' => e = .returned (.tuple #[]) ∧ Below base w w' ∧ ∃ l' : List Tm, l'.Perm l ∧ l'.Pairwise (fun a b => kinT.ord a b ≤ 0) ∧ RowT w' g 0 l' := by
  have : Inhabited Tm := ⟨⟨0, 0, 0, 0, 0⟩⟩
  obtain ⟨d, rfl⟩ : ∃ d : Array Tm, d.toList = l := ⟨l.toArray, by simp⟩
  have eg : ∀ args w, (callFunc 89 args).run Tryz.prog w = .ok (.enter 89 args) w := enters_of Tryz.func89 (by kernel_rfl) rfl
  have hH := holds_of_ownT hO
  have hg := hO.lt
  have hbg := hO.le.1
  have hcon := AnyQ.slices_SortFunc Tryz.sortT 5 Tryz.isAgg43 Tryz.sizeOf43 encT (fun _ => rfl) oneCell_encT kinT.ord (swoO kinT) 89 #[] g 0 cap d w eg (cmpLaysT _ _ _ _) hH hg (by simp at hbig; omega)
  change Calls Tryz.prog 91 _ _ _ at hcon
  rw [show d.toList.length = d.size by simp]
  refine hcon.mono ?_
  rintro e w' ⟨rfl, d', q, os, hp, hs, rfl⟩
  have hsz : d'.size = d.size := hp.1
  refine ⟨rfl, below_sortK _ _ _ _ _ _ _ _ hbg (by omega), d'.toList, ?_, sortedO kinT (by rw [hsz]; exact hs), rowT_of_holds (holdsK_sortWorldK encT 5 w g 0 q d d' os hg hH hsz)⟩
  have := hp.2.2
  simp only [Array.toList_extract, List.extract_eq_take_drop, List.drop_zero, Nat.sub_zero] at this
  rwa [List.take_of_length_le (by simp [hsz]), List.take_of_length_le (by simp)] at this
theorem insT_nil (w : World) :
    Calls Tryz.prog 124 #[.slice none 0 0, .int .i64 0, .int .i64 0, .func (.func 89) #[] #[]] w fun e w' => e = .returned (.tuple #[]) ∧ Grow w w' := by
  go_enter Tryz.func124, Tryz.ntmps124
  go_wp2
  repeat any_goals (first | (refine wp_loop_rounds 2 ?_; rw [rounds_succ]; go_wp2) | (rw [rounds_succ]; go_wp2))
  all_goals go_end0
  all_goals exact ⟨rfl, Below.refl _ _⟩
set_option maxHeartbeats 1000000 in
theorem pdqT_nil (k : Int) (w : World) :
    Calls Tryz.prog 112 #[.slice none 0 0, .int .i64 0, .int .i64 0, .int .i64 k, .func (.func 89) #[] #[]] w fun e w' => e = .returned (.tuple #[]) ∧ Grow w w' := by
  go_enter Tryz.func112, Tryz.ntmps112
  go_wp2_with fail
  refine wp_loop_rounds 2 ?_
  rw [rounds_succ]
  go_wp2_with fail
  refine (insT_nil _).mono ?_
  rintro e w1 ⟨rfl, hb⟩
  go_wp2_with fail
  refine bodyPost_ret (v := .tuple #[]) (by simp [results, Tryz.results112, go_sem]) rfl ?_
  exact ⟨rfl, hb⟩
set_option maxHeartbeats 1000000 in
theorem sortT_nil (w : World) :
    Calls Tryz.prog 91 #[.slice none 0 0, .func (.func 89) #[] #[]] w
      fun e w' => e = .returned (.tuple #[]) ∧ Grow w w' := by
  go_enter Tryz.func91, Tryz.ntmps91
  go_wp2_with fail
  refine (len0_any _).mono ?_
  rintro e w1 ⟨⟨k, rfl⟩, rfl⟩
  go_wp2_with fail
  refine (pdqT_nil k _).mono ?_
  rintro e w1 ⟨rfl, hb⟩
  go_wp2_with fail
  go_end0
  exact ⟨rfl, hb⟩
/-- A row that the call owns, or nil. -/
theorem sortT_any (s : Option Addr) (n cap base : Nat) (l : List Tm) (w : World) (hbig : n ≤ 1000000000000) (hb : base ≤ w.heap.size) (hO : OwnSV w base s n cap l) :
    Calls Tryz.prog 91 #[.slice s n cap, .func (.func 89) #[] #[]] w
      fun e w' => e = .returned (.tuple #[]) ∧ Below base w w' ∧ ∃ l' : List Tm, l'.Perm l ∧ l'.Pairwise (fun a b => kinT.ord a b ≤ 0) ∧ IsTms w' s n cap l' := by
  obtain ⟨hn, ⟨rfl, rfl, rfl⟩ | ⟨g, rfl, hO⟩⟩ := hO
  · simp at hn
    subst hn
    exact (sortT_nil w).mono fun e w' ⟨he, hg⟩ => ⟨he, hg.mono hb, [], List.Perm.refl _, List.Pairwise.nil, rfl, Nat.le_refl _, .inl rfl⟩
  · subst hn
    refine (sortT_own g cap base l w hbig hO).mono fun e w' ⟨he, hg, l', h1, h2, h3⟩ => ⟨he, hg, l', h1, h2, h1.length_eq, hO.le.2.1, .inr ⟨g, 0, rfl, h3⟩⟩
theorem flatKM_eq [Inhabited Sm] (d : Array Sm) : flatK encM 7 d = (flatM d.toList).toArray := by
  apply Array.ext_getElem?
  intro t
  by_cases h : t < d.size * 7
  · have h1 : t / 7 < d.toList.length := by simp; omega
    have e : t = t / 7 * 7 + t % 7 := by omega
    have hg := flatM_get d.toList (t / 7) (t % 7) h1 (by omega)
    rw [← e] at hg
    have h5 : t % 7 < (encM d.toList[t / 7]).length := by rw [encM_len]; omega
    have e2 : (flatM d.toList).toArray[t]? = (flatM d.toList)[t]? := by simp
    rw [e2, hg, List.getElem?_eq_getElem h5]
    have h2 : t < (flatK encM 7 d).size := by simpa using h
    rw [Array.getElem?_eq_getElem h2]
    congr 1
    have := get_flatK encM 7 d t h
    rw [getElem!_pos _ t h2] at this
    rw [this]
    have h3 : t / 7 < d.size := by omega
    rw [getElem!_pos d (t / 7) h3, getElem!_pos _ (t % 7) (by rw [encM_len]; omega)]
    rfl
  · rw [Array.getElem?_eq_none (by simp; omega), Array.getElem?_eq_none (by simp [flatM_len]; omega)]
theorem rowM_of_holds [Inhabited Sm] {w : World} {b o : Nat} {d : Array Sm} (h : HoldsK encM 7 w b o d) : RowM w b o d.toList := by
  intro j v hj
  unfold HoldsK at h
  rw [flatKM_eq] at h
  have hj' : j < (flatM d.toList).length := (List.getElem?_eq_some_iff.1 hj).1
  have := (h j (by simpa using hj')).1
  rw [this]
  simp [getElem!_pos, hj'] at this ⊢
  rw [List.getElem?_eq_getElem hj'] at hj
  simpa using hj
theorem holds_of_ownM [Inhabited Sm] {w : World} {base g cap : Nat} {d : Array Sm} (h : OwnM w base g cap d.toList) : HoldsK encM 7 w g 0 d := by
  unfold HoldsK
  rw [flatKM_eq]
  intro j hj
  have hj' : j < (flatM d.toList).length := by simpa using hj
  refine ⟨?_, ?_⟩
  · have := h.row j ((flatM d.toList)[j]) (by rw [List.getElem?_eq_getElem hj'])
    rw [this]
    simp [getElem!_pos, hj']
  · rw [Nat.zero_add]; exact World.ownsRow.frozenAt h j
theorem cmpLaysM [Inhabited Sm] (blk off size : Nat) (w : World) : CmpLays Tryz.prog 120 #[] encM 7 kinS.ord blk off size w :=
  fun _ _ _ _ a b => orderS_grow a b _
theorem sortM_own (g cap base : Nat) (l : List Sm) (w : World) (hbig : l.length ≤ 1000000000000) (hO : OwnM w base g cap l) :
    Calls Tryz.prog 138 #[.slice (some ⟨g, 0, none⟩) l.length cap, .func (.func 120) #[] #[]] w
      fun e w' => e = .returned (.tuple #[]) ∧ Below base w w' ∧ ∃ l' : List Sm, l'.Perm l ∧ l'.Pairwise (fun a b => kinS.ord a b ≤ 0) ∧ RowM w' g 0 l' := by
  have : Inhabited Sm := ⟨⟨0, 0, 0, 0, 0, 0, 0⟩⟩
  obtain ⟨d, rfl⟩ : ∃ d : Array Sm, d.toList = l := ⟨l.toArray, by simp⟩
  have eg : ∀ args w, (callFunc 120 args).run Tryz.prog w = .ok (.enter 120 args) w := enters_of Tryz.func120 (by kernel_rfl) rfl
  have hH := holds_of_ownM hO
  have hg := hO.lt
  have hbg := hO.le.1
  have hcon := AnyQ.slices_SortFunc Tryz.sortM 7 Tryz.isAgg68 Tryz.sizeOf68 encM (fun _ => rfl) oneCell_encM kinS.ord (swoO kinS) 120 #[] g 0 cap d w eg (cmpLaysM _ _ _ _) hH hg (by simp at hbig; omega)
  change Calls Tryz.prog 138 _ _ _ at hcon
  rw [show d.toList.length = d.size by simp]
  refine hcon.mono ?_
  rintro e w' ⟨rfl, d', q, os, hp, hs, rfl⟩
  have hsz : d'.size = d.size := hp.1
  refine ⟨rfl, below_sortK _ _ _ _ _ _ _ _ hbg (by omega), d'.toList, ?_, sortedO kinS (by rw [hsz]; exact hs), rowM_of_holds (holdsK_sortWorldK encM 7 w g 0 q d d' os hg hH hsz)⟩
  have := hp.2.2
  simp only [Array.toList_extract, List.extract_eq_take_drop, List.drop_zero, Nat.sub_zero] at this
  rwa [List.take_of_length_le (by simp [hsz]), List.take_of_length_le (by simp)] at this
theorem insM_nil (w : World) :
    Calls Tryz.prog 149 #[.slice none 0 0, .int .i64 0, .int .i64 0, .func (.func 120) #[] #[]] w fun e w' => e = .returned (.tuple #[]) ∧ Grow w w' := by
  go_enter Tryz.func149, Tryz.ntmps149
  go_wp2
  repeat any_goals (first | (refine wp_loop_rounds 2 ?_; rw [rounds_succ]; go_wp2) | (rw [rounds_succ]; go_wp2))
  all_goals go_end0
  all_goals exact ⟨rfl, Below.refl _ _⟩
set_option maxHeartbeats 1000000 in
theorem pdqM_nil (k : Int) (w : World) :
    Calls Tryz.prog 146 #[.slice none 0 0, .int .i64 0, .int .i64 0, .int .i64 k, .func (.func 120) #[] #[]] w fun e w' => e = .returned (.tuple #[]) ∧ Grow w w' := by
  go_enter Tryz.func146, Tryz.ntmps146
  go_wp2_with fail
  refine wp_loop_rounds 2 ?_
  rw [rounds_succ]
  go_wp2_with fail
  refine (insM_nil _).mono ?_
  rintro e w1 ⟨rfl, hb⟩
  go_wp2_with fail
  refine bodyPost_ret (v := .tuple #[]) (by simp [results, Tryz.results146, go_sem]) rfl ?_
  exact ⟨rfl, hb⟩
set_option maxHeartbeats 1000000 in
theorem sortM_nil (w : World) :
    Calls Tryz.prog 138 #[.slice none 0 0, .func (.func 120) #[] #[]] w
      fun e w' => e = .returned (.tuple #[]) ∧ Grow w w' := by
  go_enter Tryz.func138, Tryz.ntmps138
  go_wp2_with fail
  refine (len0_any _).mono ?_
  rintro e w1 ⟨⟨k, rfl⟩, rfl⟩
  go_wp2_with fail
  refine (pdqM_nil k _).mono ?_
  rintro e w1 ⟨rfl, hb⟩
  go_wp2_with fail
  go_end0
  exact ⟨rfl, hb⟩
/-- A row that the call owns, or nil. -/
theorem sortM_any (s : Option Addr) (n cap base : Nat) (l : List Sm) (w : World) (hbig : n ≤ 1000000000000) (hb : base ≤ w.heap.size) (hO : OwnMV w base s n cap l) :
    Calls Tryz.prog 138 #[.slice s n cap, .func (.func 120) #[] #[]] w
      fun e w' => e = .returned (.tuple #[]) ∧ Below base w w' ∧ ∃ l' : List Sm, l'.Perm l ∧ l'.Pairwise (fun a b => kinS.ord a b ≤ 0) ∧ IsSms w' s n cap l' := by
  obtain ⟨hn, ⟨rfl, rfl, rfl⟩ | ⟨g, rfl, hO⟩⟩ := hO
  · simp at hn
    subst hn
    exact (sortM_nil w).mono fun e w' ⟨he, hg⟩ => ⟨he, hg.mono hb, [], List.Perm.refl _, List.Pairwise.nil, rfl, Nat.le_refl _, .inl rfl⟩
  · subst hn
    refine (sortM_own g cap base l w hbig hO).mono fun e w' ⟨he, hg, l', h1, h2, h3⟩ => ⟨he, hg, l', h1, h2, h1.length_eq, hO.le.2.1, .inr ⟨g, 0, rfl, h3⟩⟩

end Go.Proofs.YtehianjfpmbfpaaGreat
