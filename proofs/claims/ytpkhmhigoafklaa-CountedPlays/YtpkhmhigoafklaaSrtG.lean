/-
  What the library's sort by a function does to a row of times, or of summaries, that the call owns: the same ones, in order; what lay below stays as it was.
-/
import Derived.Test.YtpkhmhigoafklaaRowV
import Derived.Test.YtpkhmhigoafklaaGrd
import Derived.Test.YtpkhmhigoafklaaSlayG
import Derived.Test.YtpkhmhigoafklaaOdG
import Derived.Lib.SlBuf
namespace Go.Proofs.Ytpkhmhigoafklaa
open Go.RowKit Go.Sort Go.Shelf
set_option linter.unusedVariables false

theorem swoO {α : Type} (O : Kin α) : SWO (ltOf O.ord) :=
  { irrefl := fun a => by simp [ltOf, O.oself]
    trans := fun a b c h k => by
      simp only [ltOf, decide_eq_true_eq] at h k ⊢
      exact O.otrans _ _ _ h k
    ntrans := fun a b c h k => by
      simp only [ltOf, decide_eq_false_iff_not] at h k ⊢
      intro x
      rcases O.otot a b with y | y | y
      · exact h y
      · subst y; exact k x
      · exact k (O.otrans _ _ _ y x) }
theorem sortedO {α : Type} [Inhabited α] (O : Kin α) {d : Array α} (h : SortedIn (ltOf O.ord) 0 d.size d) : d.toList.Pairwise fun a b => O.ord a b ≤ 0 := by
  rw [List.pairwise_iff_getElem]
  intro i j hi hj hij
  have hi' : i < d.size := by simpa using hi
  have hj' : j < d.size := by simpa using hj
  have := h i j (Nat.zero_le _) hij hj'
  rw [getElem!_pos d j hj', getElem!_pos d i hi'] at this
  simp only [ltOf, decide_eq_false_iff_not] at this
  have h2 := O.oanti d[j] d[i]
  simp only [Array.getElem_toList]
  omega
theorem below_sortK {α : Type} [Inhabited α] (enc : α → List Value) (k B : Nat) (W : World) (g q : Nat) (d : Array α) (os : Array Obj) (hg : B ≤ g) (hs : B ≤ W.heap.size) : Below B W (sortWorldK enc k W g 0 q d os) := by
  unfold sortWorldK putRowK
  refine ⟨rfl, rfl, rfl, ?_, fun j hj => ?_⟩
  · simp [grow, putRow, mapBlock, Sort.ahead]
  · simp only [grow]
    rw [Array.getElem?_append_left (by simp [putRow, mapBlock, Sort.ahead]; omega)]
    simp [putRow, mapBlock, Sort.ahead, Array.getElem?_modify, show g ≠ j by omega]

set_option maxHeartbeats 400000 in
theorem len0_any (w : World) : Calls Try.prog 46 #[.int .u64 0] w fun e w' => (∃ k : Int, e = .returned (.int .i64 k)) ∧ w' = w := by
  go_enter Try.func46, Try.ntmps46
  go_wp2
  all_goals go_ret
  all_goals exact ⟨⟨_, rfl⟩, rfl⟩

theorem flatKT_eq [Inhabited Tm] (d : Array Tm) : flatK encT 5 d = (flatT d.toList).toArray := by
  apply Array.ext_getElem?
  intro t
  by_cases h : t < d.size * 5
  · have h1 : t / 5 < d.toList.length := by simp; omega
    have e : t = t / 5 * 5 + t % 5 := by omega
    have hg := flatT_get d.toList (t / 5) (t % 5) h1 (by omega)
    rw [← e] at hg
    have h5 : t % 5 < (encT d.toList[t / 5]).length := by rw [encT_len]; omega
    have e2 : (flatT d.toList).toArray[t]? = (flatT d.toList)[t]? := by simp
    rw [e2, hg, List.getElem?_eq_getElem h5]
    have h2 : t < (flatK encT 5 d).size := by simpa using h
    rw [Array.getElem?_eq_getElem h2]
    congr 1
    have := get_flatK encT 5 d t h
    rw [getElem!_pos _ t h2] at this
    rw [this]
    have h3 : t / 5 < d.size := by omega
    rw [getElem!_pos d (t / 5) h3, getElem!_pos _ (t % 5) (by rw [encT_len]; omega)]
    rfl
  · rw [Array.getElem?_eq_none (by simp; omega), Array.getElem?_eq_none (by simp [flatT_len]; omega)]
theorem rowT_of_holds [Inhabited Tm] {w : World} {b o : Nat} {d : Array Tm} (h : HoldsK encT 5 w b o d) : RowT w b o d.toList := by
  intro j v hj
  unfold HoldsK at h
  rw [flatKT_eq] at h
  have hj' : j < (flatT d.toList).length := (List.getElem?_eq_some_iff.1 hj).1
  have := (h j (by simpa using hj')).1
  rw [this]
  simp [getElem!_pos, hj'] at this ⊢
  rw [List.getElem?_eq_getElem hj'] at hj
  simpa using hj
theorem holds_of_ownT [Inhabited Tm] {w : World} {base g cap : Nat} {d : Array Tm} (h : OwnS w base g cap d.toList) : HoldsK encT 5 w g 0 d := by
  unfold HoldsK
  rw [flatKT_eq]
  intro j hj
  have hj' : j < (flatT d.toList).length := by simpa using hj
  refine ⟨?_, ?_⟩
  · have := h.row j ((flatT d.toList)[j]) (by rw [List.getElem?_eq_getElem hj'])
    rw [this]
    simp [getElem!_pos, hj']
  · rw [Nat.zero_add]; exact World.ownsRow.frozenAt h j
theorem cmpLaysT [Inhabited Tm] (blk off size : Nat) (w : World) : CmpLays Try.prog 39 #[] encT 5 kinT.ord blk off size w :=
  fun _ _ _ _ a b => order_grow a b _
theorem sortT_own (g cap base : Nat) (l : List Tm) (w : World) (hbig : l.length ≤ 1000000) (hO : OwnS w base g cap l) :
    Calls Try.prog 40 #[.slice (some ⟨g, 0, none⟩) l.length cap, .func (.func 39) #[] #[]] w
      fun e w' => e = .returned (.tuple #[]) ∧ Below base w w' ∧ ∃ l' : List Tm, l'.Perm l ∧ l'.Pairwise (fun a b => kinT.ord a b ≤ 0) ∧ RowT w' g 0 l' := by
  have : Inhabited Tm := ⟨⟨0, 0, 0, 0, 0⟩⟩
  obtain ⟨d, rfl⟩ : ∃ d : Array Tm, d.toList = l := ⟨l.toArray, by simp⟩
  have eg : ∀ args w, (callFunc 39 args).run Try.prog w = .ok (.enter 39 args) w := enters_of Try.func39 (by kernel_rfl) rfl
  have hH := holds_of_ownT hO
  have hg := hO.lt
  have hbg := hO.le.1
  have hcon := AnyQ.slices_SortFunc Try.sortT 5 Try.isAgg25 Try.sizeOf25 encT (fun _ => rfl) oneCell_encT kinT.ord (swoO kinT) 39 #[] g 0 cap d w eg (cmpLaysT _ _ _ _) hH hg (by simp at hbig; omega)
  change Calls Try.prog 40 _ _ _ at hcon
  rw [show d.toList.length = d.size by simp]
  refine hcon.mono ?_
  rintro e w' ⟨rfl, d', q, os, hp, hs, rfl⟩
  have hsz : d'.size = d.size := hp.1
  refine ⟨rfl, below_sortK _ _ _ _ _ _ _ _ hbg (by omega), d'.toList, ?_, sortedO kinT (by rw [hsz]; exact hs), rowT_of_holds (holdsK_sortWorldK encT 5 w g 0 q d d' os hg hH hsz)⟩
  have := hp.2.2
  simp only [Array.toList_extract, List.extract_eq_take_drop, List.drop_zero, Nat.sub_zero] at this
  rwa [List.take_of_length_le (by simp [hsz]), List.take_of_length_le (by simp)] at this
theorem insT_nil (w : World) :
    Calls Try.prog 52 #[.slice none 0 0, .int .i64 0, .int .i64 0, .func (.func 39) #[] #[]] w fun e w' => e = .returned (.tuple #[]) ∧ Grow w w' := by
  go_enter Try.func52, Try.ntmps52
  go_wp2
  repeat any_goals (first | (refine wp_loop_rounds 2 ?_; rw [rounds_succ]; go_wp2) | (rw [rounds_succ]; go_wp2))
  all_goals go_end0
  all_goals exact ⟨rfl, Below.refl _ _⟩
set_option maxHeartbeats 1000000 in
theorem pdqT_nil (k : Int) (w : World) :
    Calls Try.prog 45 #[.slice none 0 0, .int .i64 0, .int .i64 0, .int .i64 k, .func (.func 39) #[] #[]] w fun e w' => e = .returned (.tuple #[]) ∧ Grow w w' := by
  go_enter Try.func45, Try.ntmps45
  go_wp2_with fail
  refine wp_loop_rounds 2 ?_
  rw [rounds_succ]
  go_wp2_with fail
  refine (insT_nil _).mono ?_
  rintro e w1 ⟨rfl, hb⟩
  go_wp2_with fail
  refine bodyPost_ret (v := .tuple #[]) (by simp [results, Try.results45, go_sem]) rfl ?_
  exact ⟨rfl, hb⟩
set_option maxHeartbeats 1000000 in
theorem sortT_nil (w : World) :
    Calls Try.prog 40 #[.slice none 0 0, .func (.func 39) #[] #[]] w
      fun e w' => e = .returned (.tuple #[]) ∧ Grow w w' := by
  go_enter Try.func40, Try.ntmps40
  go_wp2_with fail
  refine (len0_any _).mono ?_
  rintro e w1 ⟨⟨k, rfl⟩, rfl⟩
  go_wp2_with fail
  refine (pdqT_nil k _).mono ?_
  rintro e w1 ⟨rfl, hb⟩
  go_wp2_with fail
  go_end0
  exact ⟨rfl, hb⟩
/-- A row that the call owns, or nil. -/
theorem sortT_any (s : Option Addr) (n cap base : Nat) (l : List Tm) (w : World) (hbig : n ≤ 1000000) (hb : base ≤ w.heap.size) (hO : OwnSV w base s n cap l) :
    Calls Try.prog 40 #[.slice s n cap, .func (.func 39) #[] #[]] w
      fun e w' => e = .returned (.tuple #[]) ∧ Below base w w' ∧ ∃ l' : List Tm, l'.Perm l ∧ l'.Pairwise (fun a b => kinT.ord a b ≤ 0) ∧ IsTms w' s n cap l' := by
  obtain ⟨hn, ⟨rfl, rfl, rfl⟩ | ⟨g, rfl, hO⟩⟩ := hO
  · simp at hn
    subst hn
    exact (sortT_nil w).mono fun e w' ⟨he, hg⟩ => ⟨he, hg.mono hb, [], List.Perm.refl _, List.Pairwise.nil, rfl, Nat.le_refl _, .inl rfl⟩
  · subst hn
    refine (sortT_own g cap base l w hbig hO).mono fun e w' ⟨he, hg, l', h1, h2, h3⟩ => ⟨he, hg, l', h1, h2, h1.length_eq, hO.le.2.1, .inr ⟨g, 0, rfl, h3⟩⟩

end Go.Proofs.Ytpkhmhigoafklaa
