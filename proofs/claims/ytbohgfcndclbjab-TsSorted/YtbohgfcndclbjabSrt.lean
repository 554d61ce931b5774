/-
  What ts.Sort does to the world: for every row of times it returns a new row, the same times in order, and what was there stays as it was.
-/
import Derived.Test.YtbohgfcndclbjabLst
import Derived.Test.YtbohgfcndclbjabOdG
import Derived.Test.YtbohgfcndclbjabSlay
import Derived.Test.YtbohgfcndclbjabJm
import Derived.Laws.CopyRow
import Derived.Laws.MakeOwn
import Derived.Lib.SlBuf
namespace Go.Proofs.Ytbohgfcndclbjab
open Go.RowKit Go.Sort Go.Shelf
set_option linter.unusedVariables false

/-- A row of times lies in a block. -/
def RowT (w : World) (b o : Nat) (d : List Tm) : Prop := ∀ j v, (flatT d)[j]? = some v → w.cell? ⟨b, o + j, none⟩ = some v
theorem RowT.later {w w' : World} {b o : Nat} {d : List Tm} (hg : Grow w w') (h : RowT w b o d) : RowT w' b o d := fun j v hj => cell_later hg (h j v hj)

/-- copy of a row whose elements take k cells each, into a whole block. -/
theorem run_copy_rowK {P : Program} (w : World) (dT sT ty elem : TypeId) (g dLen dCap : Nat) (a : Addr) (sLen sCap k : Nat) (cur : Array Value) (t : TypeId) (cs : List Value)
    (hu : P.underlying dT = some (.slice elem)) (hs : (P.info? elem).map (·.size) = some k)
    (hg : w.heap[g]? = some (.cells cur t (0, 0))) (hn : cs.length = Nat.min sLen dLen * k)
    (hsrc : ∀ j v, cs[j]? = some v → w.cell? (a.add j) = some v) (hfit : cs.length ≤ cur.size) (h1 : ∀ v ∈ cs, v.oneCell' = true) :
    (Builtin.copy_ #[dT, sT] ty #[.slice (some ⟨g, 0, none⟩) dLen dCap, .slice (some a) sLen sCap]).run P w =
      .ok (goInt (Nat.min sLen dLen)) (w.setRow g (cs ++ cur.toList.drop cs.length).toArray) := by
  have hl := run_loadCells_list (P := P) w a cs hsrc
  have hst := run_storeCells_at P g 0 t cs 0 cur w hg (by simpa using hfit) h1
  cases hq : P.info? elem with
  | none => simp [hq] at hs
  | some i =>
    have hi : i.size = k := by simpa [hq] using hs
    simp [Builtin.copy_, run_underlying hu, Builtin.lenOf, Builtin.firstCells, sizeOf, typeInfo, hq, hi, ← hn, hl, hst]

theorem run_copy_rowN {P : Program} (w : World) (dT sT ty elem : TypeId) (g : Nat) (a : Option Addr) (sCap : Nat)
    (hu : P.underlying dT = some (.slice elem)) (hs : ((P.info? elem).map (·.size)).isSome = true) :
    (Builtin.copy_ #[dT, sT] ty #[.slice (some ⟨g, 0, none⟩) 0 0, .slice a 0 sCap]).run P w = .ok (goInt 0) w := by
  have hl : ∀ (x : Addr), (loadCells x 0).run P w = .ok #[] w := fun x => by simpa using run_loadCells_list (P := P) w x [] (by simp)
  cases hq : P.info? elem with
  | none => simp [hq] at hs
  | some i => cases a <;> simp [Builtin.copy_, run_underlying hu, Builtin.lenOf, Builtin.firstCells, sizeOf, typeInfo, hq, storeCells, hl]

theorem setRow_alloc (w : World) (cur new : Array Value) (t : TypeId) : (w.alloc (.cells cur t)).setRow w.heap.size new = w.alloc (.cells new t) := by
  unfold World.setRow
  show { w with heap := (w.heap.push (.cells cur t)).modify w.heap.size _ } = { w with heap := w.heap.push (.cells new t) }
  congr 1
  apply Array.ext_getElem?
  intro i
  rw [Array.getElem?_modify, Array.getElem?_push, Array.getElem?_push]
  by_cases h : i = w.heap.size
  · subst h; simp
  · simp [h, Ne.symm h]

theorem holds_new [Inhabited Tm] (w : World) (d : Array Tm) (t : TypeId) : HoldsK encT 5 (w.alloc (.cells (flatT d.toList).toArray t)) w.heap.size 0 d := by
  unfold HoldsK
  rw [flatK_eq]
  intro j hj
  have hj' : j < (flatT d.toList).length := by simpa using hj
  simp [go_sem, hj']

theorem make_tms (w : World) (n : Nat) (h : n ≤ 1000000) : ∃ M : Array Value, M.size = n * 5 ∧
    (Instr.makeSlice 31 (.int .i64 n) (.int .i64 n)).run Try.prog w = .ok (.slice (some ⟨w.heap.size, 0, none⟩) n n) (w.alloc (.cells M 24)) := by
  cases hi : Try.prog.info? 24 with
  | none =>
    have : (Try.prog.info? 24).isSome = true := by kernel_rfl
    rw [hi] at this; cases this
  | some i =>
    have hz : (Try.prog.info? 24).map (·.zero) = some (some (.agg #[.int .i64 0, .int .i64 0, .int .i64 0, .int .i64 0, .int .i64 0])) := by kernel_rfl
    have hs : (Try.prog.info? 24).map (·.size) = some 5 := by kernel_rfl
    have hb : (Try.prog.info? 24).map (·.bytes) = some 40 := by kernel_rfl
    rw [hi] at hz hs hb
    simp only [Option.map_some, Option.some.injEq] at hz hs hb
    have hr := run_make (P := Try.prog) w 31 24 i _ Try.underlying31 hi hz .i64 .i64 n n (by omega) (Int.le_refl _) (by rw [hb]; omega) (by omega)
    simp only [Int.toNat_natCast, hs] at hr
    exact ⟨_, size_madeCells _ _, hr⟩

theorem cmpLays_order [Inhabited Tm] (blk off size : Nat) (w : World) : CmpLays Try.prog 10 #[] encT 5 orderI blk off size w :=
  fun _ _ _ _ a b => order_grow a b _

theorem oneCell_enc (x : Tm) : ∀ v ∈ encT x, v.oneCell' = true := by
  intro v hv
  simp [encT] at hv
  rcases hv with rfl | rfl | rfl | rfl | rfl <;> rfl
theorem oneCell_flat (d : List Tm) : ∀ v ∈ flatT d, v.oneCell' = true := by
  intro v hv
  obtain ⟨t, _, ht⟩ := List.mem_flatMap.1 hv
  exact oneCell_enc t v ht

theorem row_of_holds [Inhabited Tm] {w : World} {b o : Nat} {d : Array Tm} (h : HoldsK encT 5 w b o d) : RowT w b o d.toList := by
  intro j v hj
  unfold HoldsK at h
  rw [flatK_eq] at h
  have hj' : j < (flatT d.toList).length := (List.getElem?_eq_some_iff.1 hj).1
  have := (h j (by simpa using hj')).1
  rw [this]
  simp [getElem!_pos, hj'] at this ⊢
  rw [List.getElem?_eq_getElem hj'] at hj
  simpa using hj

theorem below_sort [Inhabited Tm] (w W : World) (g q : Nat) (d : Array Tm) (os : Array Obj) (h : Below w.heap.size w W) (hg : w.heap.size ≤ g) : Below w.heap.size w (sortWorldK encT 5 W g 0 q d os) := by
  unfold sortWorldK putRowK
  have h1 : Below w.heap.size w (putRow id (Sort.ahead W q) g 0 (flatK encT 5 d)) := 
    ⟨h.os, h.tape, h.output, by simpa [putRow, mapBlock, Sort.ahead] using h.size, fun k hk => by
      rw [← h.block k hk]
      simp [putRow, mapBlock, Sort.ahead, Array.getElem?_modify, show g ≠ k by omega]⟩
  refine ⟨h1.os, h1.tape, h1.output, ?_, fun k hk => ?_⟩
  · have := h.size; simp [grow, putRow, mapBlock, Sort.ahead]; omega
  · rw [← h1.block k hk]
    have := h1.size
    simp only [grow]
    rw [Array.getElem?_append_left (by omega)]

theorem sorted_of [Inhabited Tm] {d : Array Tm} (h : SortedIn (ltOf orderI) 0 d.size d) : SortedT d.toList := by
  unfold SortedT
  rw [List.pairwise_iff_getElem]
  intro i j hi hj hij hlt
  have hi' : i < d.size := by simpa using hi
  have hj' : j < d.size := by simpa using hj
  have := h i j (Nat.zero_le _) hij hj'
  rw [getElem!_pos d j hj', getElem!_pos d i hi'] at this
  have h2 := (ltOf_order d[j] d[i]).2 (by simpa using hlt)
  rw [h2] at this; cases this

set_option maxHeartbeats 1000000 in
theorem sort_walk [Inhabited Tm] (s : Option Addr) (cap : Nat) (d : Array Tm) (w : World) (h : d.size ≤ 1000000)
    (hcp : ∀ (M : Array Value) (ty : TypeId), M.size = d.size * 5 → (Builtin.copy_ #[31, 31] ty #[.slice (some ⟨w.heap.size, 0, none⟩) d.size d.size, .slice s d.size cap]).run Try.prog (w.alloc (.cells M 24)) = .ok (.int .i64 d.size) (w.alloc (.cells (flatT d.toList).toArray 24))) :
    Calls Try.prog 9 #[.slice s d.size cap] w fun e w' => e = .returned (.slice (some ⟨w.heap.size, 0, none⟩) d.size d.size) ∧ Grow w w' ∧ ∃ d' : List Tm, d'.Perm d.toList ∧ SortedT d' ∧ RowT w' w.heap.size 0 d' := by
  obtain ⟨M, hM, hmk⟩ := make_tms w d.size h
  have hcp' := fun ty => hcp M ty hM
  clear hcp hM
  have eg : ∀ args w, (callFunc 10 args).run Try.prog w = .ok (.enter 10 args) w := enters_of Try.func10 (by kernel_rfl) rfl
  have hH := holds_new w d 24
  have hcon := AnyQ.slices_SortFunc Try.sortTm 5 Try.isAgg24 Try.sizeOf24 encT (fun _ => rfl) oneCell_enc orderI swoT 10 #[] w.heap.size 0 d.size d (w.alloc (.cells (flatT d.toList).toArray 24)) eg (cmpLays_order _ _ _ _) hH (by simp) (by omega)
  change Calls Try.prog 17 _ _ _ at hcon
  have HC := hide hcon
  have HH := hide hH
  clear hcon hH eg
  go_enter Try.func9, Try.ntmps9
  go_wp2_with fail
  refine (HC.out).mono ?_
  rintro e w' ⟨rfl, d', q, os, hp, hs, rfl⟩
  have hg : Below w.heap.size w (sortWorldK encT 5 (w.alloc (.cells (flatT d.toList).toArray 24)) w.heap.size 0 q d' os) := below_sort w _ _ q d' os ((Below.refl _ _).alloc (Nat.le_refl _) _) (Nat.le_refl _)
  have hsz : d'.size = d.size := hp.1
  have hr := row_of_holds (holdsK_sortWorldK encT 5 (w.alloc (.cells (flatT d.toList).toArray 24)) w.heap.size 0 q d d' os (by simp) HH.out hsz)
  have hpm : d'.toList.Perm d.toList := by
    have := hp.2.2
    simp only [Array.toList_extract, List.extract_eq_take_drop, List.drop_zero, Nat.sub_zero] at this
    rwa [List.take_of_length_le (by simp [hsz]), List.take_of_length_le (by simp)] at this
  have hso : SortedT d'.toList := sorted_of (by rw [hsz]; exact hs)
  have FIN := hide (show Grow w (sortWorldK encT 5 (w.alloc (.cells (flatT d.toList).toArray 24)) w.heap.size 0 q d' os) ∧ ∃ d2 : List Tm, d2.Perm d.toList ∧ SortedT d2 ∧ RowT (sortWorldK encT 5 (w.alloc (.cells (flatT d.toList).toArray 24)) w.heap.size 0 q d' os) w.heap.size 0 d2 from ⟨hg, d'.toList, hpm, hso, hr⟩)
  clear hg hr hpm hso hp hs hsz HH
  generalize sortWorldK encT 5 (w.alloc (.cells (flatT d.toList).toArray 24)) w.heap.size 0 q d' os = W at *
  go_wp2
  go_ret
  exact ⟨rfl, FIN.out⟩

theorem addr_add (b o j : Nat) : (Addr.mk b o none).add j = ⟨b, o + j, none⟩ := by cases j <;> rfl

theorem sort_some [Inhabited Tm] (b o cap : Nat) (d : Array Tm) (w : World) (h : d.size ≤ 1000000) (hr : RowT w b o d.toList) :
    Calls Try.prog 9 #[.slice (some ⟨b, o, none⟩) d.size cap] w fun e w' => e = .returned (.slice (some ⟨w.heap.size, 0, none⟩) d.size d.size) ∧ Grow w w' ∧ ∃ d' : List Tm, d'.Perm d.toList ∧ SortedT d' ∧ RowT w' w.heap.size 0 d' := by
  refine sort_walk (some ⟨b, o, none⟩) cap d w h (fun M ty hM => ?_)
  have hl : (flatT d.toList).length = d.size * 5 := by rw [flatT_len]; simp
  have := run_copy_rowK (P := Try.prog) (w.alloc (.cells M 24)) 31 31 ty 24 w.heap.size d.size d.size ⟨b, o, none⟩ d.size cap 5 M 24 (flatT d.toList) Try.underlying31 (by kernel_rfl)
    ((MapKept.heap_alloc w _).1) (by rw [hl]; simp) (fun j v hj => by rw [addr_add]; exact cell_later (Grow.alloc' _ _) (hr j v hj)) (by omega) (oneCell_flat _)
  rw [this, setRow_alloc, List.drop_of_length_le (by simp [hl, hM]), List.append_nil]
  simp [goInt]

theorem sort_none [Inhabited Tm] (s : Option Addr) (cap : Nat) (w : World) :
    Calls Try.prog 9 #[.slice s 0 cap] w fun e w' => e = .returned (.slice (some ⟨w.heap.size, 0, none⟩) 0 0) ∧ Grow w w' ∧ ∃ d' : List Tm, d'.Perm [] ∧ SortedT d' ∧ RowT w' w.heap.size 0 d' := by
  refine sort_walk s cap #[] w (by simp) (fun M ty hM => ?_)
  have hM0 : M = #[] := by simpa using hM
  subst hM0
  exact run_copy_rowN (P := Try.prog) _ 31 31 ty 24 w.heap.size s cap Try.underlying31 (by kernel_rfl)

end Go.Proofs.Ytbohgfcndclbjab
