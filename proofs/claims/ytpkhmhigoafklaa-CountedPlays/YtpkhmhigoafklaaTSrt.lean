/-
  What ts.Sort does to the world: for every row of times it answers a new row, the same times in order; what was there stays as it was.
-/
import Derived.Test.YtpkhmhigoafklaaSrtG
import Derived.Test.YtpkhmhigoafklaaRowA
import Derived.Laws.CopyRow
import Derived.Laws.MakeOwn
namespace Go.Proofs.Ytpkhmhigoafklaa
set_option maxRecDepth 100000
open Go.RowKit Go.Sort Go.Shelf Go.Deep
set_option linter.unusedVariables false
set_option linter.unusedSimpArgs false

theorem run_copy_rowK {P : Program} (w : World) (dT sT ty elem : TypeId) (g dLen dCap : Nat) (a : Addr) (sLen sCap k : Nat) (cur : Array Value) (t : TypeId) (cs : List Value)
    (hu : P.underlying dT = some (.slice elem)) (hs : (P.info? elem).map (·.size) = some k)
    (hg : w.heap[g]? = some (.cells cur t (0, 0))) (hn : cs.length = Nat.min sLen dLen * k)
    (hsrc : ∀ j v, cs[j]? = some v → w.cell? (a.add j) = some v) (hfit : cs.length ≤ cur.size) (h1 : ∀ v ∈ cs, v.oneCell' = true) :
    (Builtin.copy_ #[dT, sT] ty #[.slice (some ⟨g, 0, none⟩) dLen dCap, .slice (some a) sLen sCap]).run P w =
      .ok (goInt (Nat.min sLen dLen)) (w.setRow g (cs ++ cur.toList.drop cs.length).toArray) := by
  have hl := run_loadCells_list (P := P) w a cs hsrc
  have hst := run_storeCells_at P g 0 t cs 0 cur w hg (by simpa using hfit) h1
  cases hq : P.info? elem with
  | none => simp [hq] at hs
  | some i =>
    have hi : i.size = k := by simpa [hq] using hs
    simp [Builtin.copy_, run_underlying hu, Builtin.lenOf, Builtin.firstCells, sizeOf, typeInfo, hq, hi, ← hn, hl, hst]
theorem run_copy_rowN {P : Program} (w : World) (dT sT ty elem : TypeId) (g : Nat) (a : Option Addr) (sCap : Nat)
    (hu : P.underlying dT = some (.slice elem)) (hs : ((P.info? elem).map (·.size)).isSome = true) :
    (Builtin.copy_ #[dT, sT] ty #[.slice (some ⟨g, 0, none⟩) 0 0, .slice a 0 sCap]).run P w = .ok (goInt 0) w := by
  have hl : ∀ (x : Addr), (loadCells x 0).run P w = .ok #[] w := fun x => by simpa using run_loadCells_list (P := P) w x [] (by simp)
  cases hq : P.info? elem with
  | none => simp [hq] at hs
  | some i => cases a <;> simp [Builtin.copy_, run_underlying hu, Builtin.lenOf, Builtin.firstCells, sizeOf, typeInfo, hq, storeCells, hl]
theorem setRow_alloc (w : World) (cur new : Array Value) (t : TypeId) : (w.alloc (.cells cur t)).setRow w.heap.size new = w.alloc (.cells new t) := by
  unfold World.setRow
  show { w with heap := (w.heap.push (.cells cur t)).modify w.heap.size _ } = { w with heap := w.heap.push (.cells new t) }
  congr 1
  apply Array.ext_getElem?
  intro i
  rw [Array.getElem?_modify, Array.getElem?_push, Array.getElem?_push]
  by_cases h : i = w.heap.size
  · subst h; simp
  · simp [h, Ne.symm h]
theorem make_tms (w : World) (m n : Nat) (hm : m ≤ n) (h : n ≤ 1000000) : ∃ M : Array Value, M.size = n * 5 ∧
    (Instr.makeSlice 30 (.int .i64 m) (.int .i64 n)).run Try.prog w = .ok (.slice (some ⟨w.heap.size, 0, none⟩) m n) (w.alloc (.cells M 25)) := by
  obtain ⟨i, hi, hz, hs, hb⟩ := info_tm
  have hr := run_make (P := Try.prog) w 30 25 i _ Try.underlying30 hi hz .i64 .i64 m n (by omega) (by omega) (by rw [hb]; omega) (by omega)
  simp only [Int.toNat_natCast, hs] at hr
  exact ⟨_, size_madeCells _ _, hr⟩

set_option maxHeartbeats 1000000 in
theorem tsort_walk (s : Option Addr) (n cap : Nat) (d : List Tm) (w : World) (h : n ≤ 1000000) (hd : d.length = n)
    (hcp : ∀ (M : Array Value) (ty : TypeId), M.size = n * 5 → (Builtin.copy_ #[30, 30] ty #[.slice (some ⟨w.heap.size, 0, none⟩) n n, .slice s n cap]).run Try.prog (w.alloc (.cells M 25)) = .ok (.int .i64 n) (w.alloc (.cells (flatT d).toArray 25))) :
    Calls Try.prog 31 #[.slice s n cap] w fun e w' => ∃ s' c', e = .returned (.slice s' n c') ∧ Grow w w' ∧ ∃ l' : List Tm, l'.Perm d ∧ l'.Pairwise (fun a b => kinT.ord a b ≤ 0) ∧ IsTms w' s' n c' l' := by
  obtain ⟨M, hM, hmk⟩ := make_tms w n n (Nat.le_refl _) h
  have hcp' := fun ty => hcp M ty hM
  clear hcp hM
  have hO : OwnS (w.alloc (.cells (flatT d).toArray 25)) w.heap.size w.heap.size n d :=
    OwnS.mk' (Nat.le_refl _) (MapKept.heap_alloc w _).1 (by omega) (by simp [maxLen]; omega) (by simp [flatT_len, hd]) (by rw [List.take_of_length_le]; simp [flatT_len])
  have HS := hide (sortT_any (some ⟨w.heap.size, 0, none⟩) n n w.heap.size d (w.alloc (.cells (flatT d).toArray 25)) h (by simp) (OwnSV.of hO hd))
  have G0 := hide (Grow.alloc' w (.cells (flatT d).toArray 25))
  clear hO
  go_enter Try.func31, Try.ntmps31
  go_wp2_with fail
  refine (HS.out).mono ?_
  rintro e w2 ⟨rfl, hb, l', hp, hs, hI⟩
  have FIN := hide (show Grow w w2 ∧ ∃ l' : List Tm, l'.Perm d ∧ l'.Pairwise (fun a b => kinT.ord a b ≤ 0) ∧ IsTms w2 (some ⟨w.heap.size, 0, none⟩) n n l' from ⟨Below.trans G0.out hb, l', hp, hs, hI⟩)
  clear hb hp hs hI HS
  go_wp2
  go_ret
  exact ⟨_, _, rfl, FIN.out.1, FIN.out.2⟩

theorem tsort_any (s : Option Addr) (n cap : Nat) (d : List Tm) (w : World) (h : n ≤ 1000000) (hd : IsTms w s n cap d) :
    Calls Try.prog 31 #[.slice s n cap] w fun e w' => ∃ s' c', e = .returned (.slice s' n c') ∧ Grow w w' ∧ ∃ l' : List Tm, l'.Perm d ∧ l'.Pairwise (fun a b => kinT.ord a b ≤ 0) ∧ IsTms w' s' n c' l' := by
  obtain ⟨hn, hc, rfl | ⟨b, o, rfl, hr⟩⟩ := hd
  · simp at hn
    subst hn
    refine tsort_walk s 0 cap [] w (by omega) rfl (fun M ty hM => ?_)
    have hM0 : M = #[] := by simpa using hM
    subst hM0
    exact run_copy_rowN (P := Try.prog) _ 30 30 ty 25 w.heap.size s cap Try.underlying30 (by kernel_rfl)
  · refine tsort_walk _ n cap d w h hn (fun M ty hM => ?_)
    have hl : (flatT d).length = n * 5 := by rw [flatT_len, hn]
    have := run_copy_rowK (P := Try.prog) (w.alloc (.cells M 25)) 30 30 ty 25 w.heap.size n n ⟨b, o, none⟩ n cap 5 M 25 (flatT d) Try.underlying30 (by kernel_rfl)
      ((MapKept.heap_alloc w _).1) (by rw [hl]; simp) (fun j v hj => by rw [addr_add]; exact cell_later (Grow.alloc' _ _) (hr j v hj)) (by omega) (oneCell_flatT _)
    rw [this, setRow_alloc, List.drop_of_length_le (by simp [hl, hM]), List.append_nil]
    simp [goInt]

end Go.Proofs.Ytpkhmhigoafklaa
