/-
  What the library's sort by a function does to a row of records that the call owns, and what bag.Sort does to the world: of every row the same records in order, in a new row; what was there stays as it was.
-/
import Derived.Test.YthkkjhjbojbbaaaGCon
import Derived.Test.YthkkjhjbojbbaaaGSlay
import Derived.Lib.SlBuf
import Derived.Laws.CopyRow
import Derived.Laws.MakeOwn
namespace Go.Proofs.Ythkkjhjbojbbaaa
set_option maxRecDepth 100000
open Go.RowKit Go.Sort Go.Shelf Go.Deep
set_option linter.unusedVariables false
set_option linter.unusedSimpArgs false

theorem swoR : SWO (ltOf ordR) :=
  { irrefl := fun a => by
      cases h : ltOf ordR a a
      · rfl
      · simp only [ltOf, decide_eq_true_eq, ordR_lt] at h; exact absurd h (ahead_irr a)
    trans := fun a b c h k => by
      simp only [ltOf, decide_eq_true_eq, ordR_lt] at *
      exact ahead_trans h k
    ntrans := fun a b c h k => by
      simp only [ltOf, decide_eq_false_iff_not, ordR_lt] at *
      intro x
      rcases ahead_tot a b with y | y | y
      · exact h y
      · subst y; exact k x
      · exact k (ahead_trans y x) }
theorem sorted_in {d : Array Rc} (h : SortedIn (ltOf ordR) 0 d.size d) : SortedR d.toList := by
  unfold SortedR
  rw [List.pairwise_iff_getElem]
  intro i j hi hj hij
  have hi' : i < d.size := by simpa using hi
  have hj' : j < d.size := by simpa using hj
  have := h i j (Nat.zero_le _) hij hj'
  rw [getElem!_pos d j hj', getElem!_pos d i hi'] at this
  simp only [ltOf, decide_eq_false_iff_not, ordR_lt] at this
  simp only [Array.getElem_toList, leR_iff]
  exact this
theorem below_sortK {α : Type} [Inhabited α] (enc : α → List Value) (k B : Nat) (W : World) (g q : Nat) (d : Array α) (os : Array Obj) (hg : B ≤ g) (hs : B ≤ W.heap.size) : Below B W (sortWorldK enc k W g 0 q d os) := by
  unfold sortWorldK putRowK
  refine ⟨rfl, rfl, rfl, ?_, fun j hj => ?_⟩
  · simp [grow, putRow, mapBlock, Sort.ahead]
  · simp only [grow]
    rw [Array.getElem?_append_left (by simp [putRow, mapBlock, Sort.ahead]; omega)]
    simp [putRow, mapBlock, Sort.ahead, Array.getElem?_modify, show g ≠ j by omega]

set_option maxHeartbeats 400000 in
theorem len0_any (w : World) : Calls Try.prog 60 #[.int .u64 0] w fun e w' => (∃ k : Int, e = .returned (.int .i64 k)) ∧ w' = w := by
  go_enter Try.func60, Try.ntmps60
  go_wp2
  all_goals go_ret
  all_goals exact ⟨⟨_, rfl⟩, rfl⟩

theorem flatKR_eq (d : Array Rc) : flatK encR 2 d = (flatR d.toList).toArray := by
  apply Array.ext_getElem?
  intro t
  by_cases h : t < d.size * 2
  · have h1 : t / 2 < d.toList.length := by simp; omega
    have e : t = t / 2 * 2 + t % 2 := by omega
    have hg := flatR_get d.toList (t / 2) (t % 2) h1 (by omega)
    rw [← e] at hg
    have h5 : t % 2 < (encR d.toList[t / 2]).length := by rw [encR_len]; omega
    have e2 : (flatR d.toList).toArray[t]? = (flatR d.toList)[t]? := by simp
    rw [e2, hg, List.getElem?_eq_getElem h5]
    have h2 : t < (flatK encR 2 d).size := by simpa using h
    rw [Array.getElem?_eq_getElem h2]
    congr 1
    have := get_flatK encR 2 d t h
    rw [getElem!_pos _ t h2] at this
    rw [this]
    have h3 : t / 2 < d.size := by omega
    rw [getElem!_pos d (t / 2) h3, getElem!_pos _ (t % 2) (by rw [encR_len]; omega)]
    rfl
  · rw [Array.getElem?_eq_none (by simp; omega), Array.getElem?_eq_none (by simp [flatR_len]; omega)]
theorem rowR_of_holds {w : World} {b o : Nat} {d : Array Rc} (h : HoldsK encR 2 w b o d) : RowR w b o d.toList := by
  intro j v hj
  unfold HoldsK at h
  rw [flatKR_eq] at h
  have hj' : j < (flatR d.toList).length := (List.getElem?_eq_some_iff.1 hj).1
  have := (h j (by simpa using hj')).1
  rw [this]
  simp [getElem!_pos, hj'] at this ⊢
  rw [List.getElem?_eq_getElem hj'] at hj
  simpa using hj
theorem holds_of_ownR {w : World} {base g cap : Nat} {d : Array Rc} (h : OwnR w base g cap d.toList) : HoldsK encR 2 w g 0 d := by
  unfold HoldsK
  rw [flatKR_eq]
  intro j hj
  have hj' : j < (flatR d.toList).length := by simpa using hj
  refine ⟨?_, ?_⟩
  · have := h.row j ((flatR d.toList)[j]) (by rw [List.getElem?_eq_getElem hj'])
    rw [this]
    simp [getElem!_pos, hj']
  · rw [Nat.zero_add]; exact World.ownsRow.frozenAt h j
theorem cmpLaysR (blk off size : Nat) (w : World) : CmpLays Try.prog 57 #[] encR 2 ordR blk off size w :=
  fun _ _ _ _ a b => order_grow a b _
theorem sortR_own (g cap base : Nat) (l : List Rc) (w : World) (hbig : l.length ≤ 1000000) (hO : OwnR w base g cap l) :
    Calls Try.prog 56 #[.slice (some ⟨g, 0, none⟩) l.length cap, .func (.func 57) #[] #[]] w
      fun e w' => e = .returned (.tuple #[]) ∧ Below base w w' ∧ ∃ l' : List Rc, l'.Perm l ∧ SortedR l' ∧ RowR w' g 0 l' := by
  skip
  obtain ⟨d, rfl⟩ : ∃ d : Array Rc, d.toList = l := ⟨l.toArray, by simp⟩
  have eg : ∀ args w, (callFunc 57 args).run Try.prog w = .ok (.enter 57 args) w := enters_of Try.func57 (by kernel_rfl) rfl
  have hH := holds_of_ownR hO
  have hg := hO.lt
  have hbg := hO.le.1
  have hcon := AnyQ.slices_SortFunc Try.sortR 2 Try.isAgg23 Try.sizeOf23 encR (fun _ => rfl) oneCell_encR ordR swoR 57 #[] g 0 cap d w eg (cmpLaysR _ _ _ _) hH hg (by simp at hbig; omega)
  change Calls Try.prog 56 _ _ _ at hcon
  rw [show d.toList.length = d.size by simp]
  refine hcon.mono ?_
  rintro e w' ⟨rfl, d', q, os, hp, hs, rfl⟩
  have hsz : d'.size = d.size := hp.1
  refine ⟨rfl, below_sortK _ _ _ _ _ _ _ _ hbg (by omega), d'.toList, ?_, sorted_in (by rw [hsz]; exact hs), rowR_of_holds (holdsK_sortWorldK encR 2 w g 0 q d d' os hg hH hsz)⟩
  have := hp.2.2
  simp only [Array.toList_extract, List.extract_eq_take_drop, List.drop_zero, Nat.sub_zero] at this
  rwa [List.take_of_length_le (by simp [hsz]), List.take_of_length_le (by simp)] at this
theorem insR_nil (w : World) :
    Calls Try.prog 63 #[.slice none 0 0, .int .i64 0, .int .i64 0, .func (.func 57) #[] #[]] w fun e w' => e = .returned (.tuple #[]) ∧ Grow w w' := by
  go_enter Try.func63, Try.ntmps63
  go_wp2
  repeat any_goals (first | (refine wp_loop_rounds 2 ?_; rw [rounds_succ]; go_wp2) | (rw [rounds_succ]; go_wp2))
  all_goals go_end0
  all_goals exact ⟨rfl, Below.refl _ _⟩
set_option maxHeartbeats 1000000 in
theorem pdqR_nil (k : Int) (w : World) :
    Calls Try.prog 59 #[.slice none 0 0, .int .i64 0, .int .i64 0, .int .i64 k, .func (.func 57) #[] #[]] w fun e w' => e = .returned (.tuple #[]) ∧ Grow w w' := by
  go_enter Try.func59, Try.ntmps59
  go_wp2_with fail
  refine wp_loop_rounds 2 ?_
  rw [rounds_succ]
  go_wp2_with fail
  refine (insR_nil _).mono ?_
  rintro e w1 ⟨rfl, hb⟩
  go_wp2_with fail
  refine bodyPost_ret (v := .tuple #[]) (by simp [results, Try.results59, go_sem]) rfl ?_
  exact ⟨rfl, hb⟩
set_option maxHeartbeats 1000000 in
theorem sortR_nil (w : World) :
    Calls Try.prog 56 #[.slice none 0 0, .func (.func 57) #[] #[]] w
      fun e w' => e = .returned (.tuple #[]) ∧ Grow w w' := by
  go_enter Try.func56, Try.ntmps56
  go_wp2_with fail
  refine (len0_any _).mono ?_
  rintro e w1 ⟨⟨k, rfl⟩, rfl⟩
  go_wp2_with fail
  refine (pdqR_nil k _).mono ?_
  rintro e w1 ⟨rfl, hb⟩
  go_wp2_with fail
  go_end0
  exact ⟨rfl, hb⟩
/-- A row that the call owns, or nil. -/
theorem sortR_any (s : Option Addr) (n cap base : Nat) (l : List Rc) (w : World) (hbig : n ≤ 1000000) (hb : base ≤ w.heap.size) (hO : OwnRV w base s n cap l) :
    Calls Try.prog 56 #[.slice s n cap, .func (.func 57) #[] #[]] w
      fun e w' => e = .returned (.tuple #[]) ∧ Below base w w' ∧ ∃ l' : List Rc, l'.Perm l ∧ SortedR l' ∧ IsRcs w' s n cap l' := by
  obtain ⟨hn, ⟨rfl, rfl, rfl⟩ | ⟨g, rfl, hO⟩⟩ := hO
  · simp at hn
    subst hn
    exact (sortR_nil w).mono fun e w' ⟨he, hg⟩ => ⟨he, hg.mono hb, [], List.Perm.refl _, List.Pairwise.nil, rfl, Nat.le_refl _, .inl rfl⟩
  · subst hn
    refine (sortR_own g cap base l w hbig hO).mono fun e w' ⟨he, hg, l', h1, h2, h3⟩ => ⟨he, hg, l', h1, h2, h1.length_eq, hO.le.2.1, .inr ⟨g, 0, rfl, h3⟩⟩

theorem run_copy_rowK {P : Program} (w : World) (dT sT ty elem : TypeId) (g dLen dCap : Nat) (a : Addr) (sLen sCap k : Nat) (cur : Array Value) (t : TypeId) (cs : List Value)
    (hu : P.underlying dT = some (.slice elem)) (hs : (P.info? elem).map (·.size) = some k)
    (hg : w.heap[g]? = some (.cells cur t (0, 0))) (hn : cs.length = Nat.min sLen dLen * k)
    (hsrc : ∀ j v, cs[j]? = some v → w.cell? (a.add j) = some v) (hfit : cs.length ≤ cur.size) (h1 : ∀ v ∈ cs, v.oneCell' = true) :
    (Builtin.copy_ #[dT, sT] ty #[.slice (some ⟨g, 0, none⟩) dLen dCap, .slice (some a) sLen sCap]).run P w =
      .ok (goInt (Nat.min sLen dLen)) (w.setRow g (cs ++ cur.toList.drop cs.length).toArray) := by
  have hl := run_loadCells_list (P := P) w a cs hsrc
  have hst := run_storeCells_at P g 0 t cs 0 cur w hg (by simpa using hfit) h1
  cases hq : P.info? elem with
  | none => simp [hq] at hs
  | some i =>
    have hi : i.size = k := by simpa [hq] using hs
    simp [Builtin.copy_, run_underlying hu, Builtin.lenOf, Builtin.firstCells, sizeOf, typeInfo, hq, hi, ← hn, hl, hst]
theorem run_copy_rowN {P : Program} (w : World) (dT sT ty elem : TypeId) (g : Nat) (a : Option Addr) (sCap : Nat)
    (hu : P.underlying dT = some (.slice elem)) (hs : ((P.info? elem).map (·.size)).isSome = true) :
    (Builtin.copy_ #[dT, sT] ty #[.slice (some ⟨g, 0, none⟩) 0 0, .slice a 0 sCap]).run P w = .ok (goInt 0) w := by
  have hl : ∀ (x : Addr), (loadCells x 0).run P w = .ok #[] w := fun x => by simpa using run_loadCells_list (P := P) w x [] (by simp)
  cases hq : P.info? elem with
  | none => simp [hq] at hs
  | some i => cases a <;> simp [Builtin.copy_, run_underlying hu, Builtin.lenOf, Builtin.firstCells, sizeOf, typeInfo, hq, storeCells, hl]
theorem setRow_alloc (w : World) (cur new : Array Value) (t : TypeId) : (w.alloc (.cells cur t)).setRow w.heap.size new = w.alloc (.cells new t) := by
  unfold World.setRow
  show { w with heap := (w.heap.push (.cells cur t)).modify w.heap.size _ } = { w with heap := w.heap.push (.cells new t) }
  congr 1
  apply Array.ext_getElem?
  intro i
  rw [Array.getElem?_modify, Array.getElem?_push, Array.getElem?_push]
  by_cases h : i = w.heap.size
  · subst h; simp
  · simp [h, Ne.symm h]
theorem make_rcs (w : World) (m n : Nat) (hm : m ≤ n) (h : n ≤ 1000000) : ∃ M : Array Value, M.size = n * 2 ∧
    (Instr.makeSlice 30 (.int .i64 m) (.int .i64 n)).run Try.prog w = .ok (.slice (some ⟨w.heap.size, 0, none⟩) m n) (w.alloc (.cells M 23)) := by
  obtain ⟨i, hi, hz, hs, hb⟩ := info_rc
  have hr := run_make (P := Try.prog) w 30 23 i _ Try.underlying30 hi hz .i64 .i64 m n (by omega) (by omega) (by rw [hb]; omega) (by omega)
  simp only [Int.toNat_natCast, hs] at hr
  exact ⟨_, size_madeCells _ _, hr⟩

set_option maxHeartbeats 1000000 in
theorem bsort_walk (s : Option Addr) (n cap : Nat) (d : List Rc) (w : World) (h : n ≤ 1000000) (hd : d.length = n)
    (hcp : ∀ (M : Array Value) (ty : TypeId), M.size = n * 2 → (Builtin.copy_ #[30, 30] ty #[.slice (some ⟨w.heap.size, 0, none⟩) n n, .slice s n cap]).run Try.prog (w.alloc (.cells M 23)) = .ok (.int .i64 n) (w.alloc (.cells (flatR d).toArray 23))) :
    Calls Try.prog 37 #[.slice s n cap] w fun e w' => ∃ s' c', e = .returned (.slice s' n c') ∧ Grow w w' ∧ ∃ l' : List Rc, l'.Perm d ∧ SortedR l' ∧ IsRcs w' s' n c' l' := by
  obtain ⟨M, hM, hmk⟩ := make_rcs w n n (Nat.le_refl _) h
  have hcp' := fun ty => hcp M ty hM
  clear hcp hM
  have hO : OwnR (w.alloc (.cells (flatR d).toArray 23)) w.heap.size w.heap.size n d :=
    OwnR.mk' (Nat.le_refl _) (MapKept.heap_alloc w _).1 (by omega) (by simp [maxLen]; omega) (by simp [flatR_len, hd]) (by rw [List.take_of_length_le]; simp [flatR_len])
  have HS := hide (sortR_any (some ⟨w.heap.size, 0, none⟩) n n w.heap.size d (w.alloc (.cells (flatR d).toArray 23)) h (by simp) (OwnRV.of hO hd))
  have G0 := hide (Grow.alloc' w (.cells (flatR d).toArray 23))
  clear hO
  go_enter Try.func37, Try.ntmps37
  go_wp2_with fail
  refine (HS.out).mono ?_
  rintro e w2 ⟨rfl, hb, l', hp, hs, hI⟩
  have FIN := hide (show Grow w w2 ∧ ∃ l' : List Rc, l'.Perm d ∧ SortedR l' ∧ IsRcs w2 (some ⟨w.heap.size, 0, none⟩) n n l' from ⟨Below.trans G0.out hb, l', hp, hs, hI⟩)
  clear hb hp hs hI HS
  go_wp2
  go_ret
  exact ⟨_, _, rfl, FIN.out.1, FIN.out.2⟩

theorem bsort_any (s : Option Addr) (n cap : Nat) (d : List Rc) (w : World) (h : n ≤ 1000000) (hd : IsRcs w s n cap d) :
    Calls Try.prog 37 #[.slice s n cap] w fun e w' => ∃ s' c', e = .returned (.slice s' n c') ∧ Grow w w' ∧ ∃ l' : List Rc, l'.Perm d ∧ SortedR l' ∧ IsRcs w' s' n c' l' := by
  obtain ⟨hn, hc, rfl | ⟨b, o, rfl, hr⟩⟩ := hd
  · simp at hn
    subst hn
    refine bsort_walk s 0 cap [] w (by omega) rfl (fun M ty hM => ?_)
    have hM0 : M = #[] := by simpa using hM
    subst hM0
    exact run_copy_rowN (P := Try.prog) _ 30 30 ty 23 w.heap.size s cap Try.underlying30 (by kernel_rfl)
  · refine bsort_walk _ n cap d w h hn (fun M ty hM => ?_)
    have hl : (flatR d).length = n * 2 := by rw [flatR_len, hn]
    have := run_copy_rowK (P := Try.prog) (w.alloc (.cells M 23)) 30 30 ty 23 w.heap.size n n ⟨b, o, none⟩ n cap 2 M 23 (flatR d) Try.underlying30 (by kernel_rfl)
      ((MapKept.heap_alloc w _).1) (by rw [hl]; simp) (fun j v hj => by rw [addr_add]; exact cell_later (Grow.alloc' _ _) (hr j v hj)) (by omega) (oneCell_flatR _)
    rw [this, setRow_alloc, List.drop_of_length_le (by simp [hl, hM]), List.append_nil]
    simp [goInt]

/-- bag.Sort. -/
theorem sort_at (s : Option Addr) (n cap : Nat) (d : List Rc) (w : World) (h : n ≤ 1000000) (hd : IsRcs w s n cap d) :
    Calls Try.prog 37 #[.slice s n cap] w fun e w' => ∃ s' c', e = .returned (.slice s' n c') ∧ Grow w w' ∧ IsRcs w' s' n c' (srt d) := by
  refine (bsort_any s n cap d w h hd).mono ?_
  rintro e w' ⟨s', c', rfl, hg, l', hp, hs, hI⟩
  rw [srt_of hp hs] at hI
  exact ⟨s', c', rfl, hg, hI⟩

end Go.Proofs.Ythkkjhjbojbbaaa
