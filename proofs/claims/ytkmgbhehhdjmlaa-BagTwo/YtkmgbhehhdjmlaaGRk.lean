/-
  What the document's own Keys does to the world: of every row its keys, rising, each once, in a row of its own; what was there stays as it was.
-/
import Derived.Test.YtkmgbhehhdjmlaaGPut
import Derived.Test.YtkmgbhehhdjmlaaGKy
namespace Go.Proofs.Ytkmgbhehhdjmlaa
set_option maxRecDepth 100000
open Go.RowKit Go.Sort
set_option linter.unusedVariables false
set_option linter.unusedSimpArgs false

def keysTo (S : List Rc) (k : Nat) : List Int := Lib.compactUpTo (S.map (·.k)).toArray k
theorem keysTo_zero (S : List Rc) : keysTo S 0 = [] := rfl
theorem keysTo_first (S : List Rc) (h : 0 < S.length) : keysTo S 1 = keysTo S 0 ++ [S[0].k] := by
  unfold keysTo
  rw [Lib.compactUpTo_succ, Lib.keeps_lt_one _ 0 (by omega)]
  simp [h]
theorem keysTo_new (S : List Rc) (k : Nat) (h : k + 1 < S.length) (hne : S[k + 1].k ≠ S[k].k) : keysTo S (k + 2) = keysTo S (k + 1) ++ [S[k + 1].k] := by
  unfold keysTo
  have hk : k < S.length := by omega
  rw [Lib.compactUpTo_succ, Lib.keeps_pos (by simp [h, hk]; exact hne)]
  simp [h]
theorem keysTo_old (S : List Rc) (k : Nat) (h : k + 1 < S.length) (hne : S[k + 1].k = S[k].k) : keysTo S (k + 2) = keysTo S (k + 1) := by
  unfold keysTo
  have hk : k < S.length := by omega
  rw [Lib.compactUpTo_succ, Lib.keeps_neg (by omega) (by simp [h, hk]; exact hne)]
  simp
theorem keysTo_all (d : List Rc) (n : Nat) (h : (srt d).length = n) : keysTo (srt d) n = keysR d := by
  rw [keysR_srt]
  unfold keysTo Lib.compact
  rw [List.length_map, h]
theorem keysTo_len (S : List Rc) (k : Nat) : (keysTo S k).length ≤ k := by
  unfold keysTo Lib.compactUpTo
  rw [List.length_map]
  exact Nat.le_trans (List.length_filter_le _ _) (by simp)

theorem ins_one (w : World) (x : Int) : IsIns (w.alloc (.cells #[.int .i64 x] 3)) (some ⟨w.heap.size, 0, none⟩) 1 1 [x] :=
  ⟨rfl, Nat.le_refl _, .inr ⟨_, _, rfl, fun j hj => by simp at hj; subst hj; simp [go_sem]⟩⟩
set_option maxHeartbeats 4000000 in
theorem refKeys_at (s : Option Addr) (n cap : Nat) (d : List Rc) (w : World) (hbig : n ≤ 9000) (hd : IsRcs w s n cap d) :
    Calls Try.prog 23 #[.slice s n cap] w fun r w' => ∃ s2 n2 c2, r = .returned (.slice s2 n2 c2) ∧ Grow w w' ∧ IsIns w' s2 n2 c2 (keysR d) := by
  have C1 := hide (refSort_is s n cap d w hbig hd)
  clear hd
  go_enter Try.func23, Try.ntmps23
  go_wp2_with fail
  refine (C1.out).mono ?_
  rintro r1 w1 ⟨s1, c1, rfl, hb, hI⟩
  have G1 := hide hb
  have HK := hide (keysTo_all d n hI.1)
  obtain ⟨S, hS⟩ : ∃ S, S = srt d := ⟨_, rfl⟩
  rw [← hS] at hI HK
  have I1 := hide hI
  clear hb hI C1 hS
  have O0 : Hid (OwnIV (w1.alloc (.cells #[] 3)) w1.heap.size (some ⟨w1.heap.size, 0, none⟩) 0 0 []) := hide ⟨rfl, ⟨rfl, .inr ⟨w1.heap.size, 0, #[], rfl, Nat.le_refl _, (MapKept.heap_alloc w1 _).1, Nat.zero_le _, by simp [maxLen], rfl, by simp [flatI]⟩⟩, fun h => by cases h⟩
  have G0 : Hid (Grow w1 (w1.alloc (.cells #[] 3))) := hide (Grow.alloc' _ _)
  go_wp2_with fail
  go_loopw [4, 5] (fun v i wr => ∃ (k : Nat) (sl : Option Addr) (ml cl : Nat), k ≤ n ∧ v = .slice sl ml cl ∧ i = .int .i64 k ∧ Grow w1 wr ∧ OwnIV wr w1.heap.size sl ml cl (keysTo S k)) (fun _ i _ => n - (intOf i).toNat)
  case atStart => exact ⟨0, _, _, _, Nat.zero_le _, rfl, rfl, G0.out, O0.out⟩
  case round =>
    obtain ⟨k, sl, ml, cl, hk, rfl, rfl, hg, hO⟩ := hrel
    have HG := hide hg
    have HO := hide hO
    have hml : ml ≤ k := by rw [← hO.1]; exact keysTo_len S k
    have hsz := hg.size
    clear hO
    by_cases hlt : k < n
    · have hkS : k < S.length := by rw [I1.out.1]; exact hlt
      have hne : ¬ S = [] := fun h => by rw [h] at hkS; simp at hkS
      obtain ⟨b, o, rfl, hr1⟩ := I1.out.2.2.resolve_left hne
      obtain ⟨p0, p1⟩ := (hr1.later hg).at k hkS
      obtain ⟨x, hx⟩ : ∃ x, x = S[k] := ⟨_, rfl⟩
      rw [← hx] at p0 p1
      have hi1 : (0 : Int) ≤ (k : Int) := by omega
      have hi2 : (k : Int) < (n : Int) := by omega
      clear hne p1
      have P0 := hide p0
      by_cases h0 : k = 0
      · subst h0
        have HT := hide (keysTo_first S hkS)
        rw [← hx] at HT
        clear hr1 hx hg
        go_wp2
        go_quiet (fail)
        have GZ := hide (below_drewN (Below.refl wr.heap.size wr) nq)
        have p0 : (wr.drewN nq).cell? ⟨b, o, none⟩ = some (.int .i64 x.k) := by have := cell_later GZ.out P0.out; simpa using this
        clear P0
        generalize wr.drewN nq = wz at *
        go_wp2_with (at_builtin; refine wpList_apd_int rfl _ _ rfl w1.heap.size sl ml cl (keysTo S 0) [x.k] rfl (HO.out.later (Grow.trans' GZ.out (Grow.alloc' _ _))) (some ⟨wz.heap.size, 0, none⟩) 1 1 rfl (ins_one wz x.k) (by omega) (by have := GZ.out.size; simp; omega) ?_)
        intro s2 c2 w2 h2 gb
        have G2 := hide (gb.grow (Grow.trans' HG.out (Grow.trans' GZ.out (Grow.alloc' _ _))) (Nat.le_refl _))
        have O2 : Hid (OwnIV w2 w1.heap.size s2 (ml + 1) c2 (keysTo S 1)) := hide (by rw [HT.out]; exact h2)
        clear h2 gb p0
        go_wp2_with fail
        go_roundw
        case rel => exact ⟨1, s2, ml + 1, c2, by omega, rfl, by go_num, G2.out, O2.out⟩
        case measure => simp [intOf]; omega
      · obtain ⟨j, hj⟩ : ∃ j, k = j + 1 := ⟨k - 1, by omega⟩
        obtain ⟨q0, q1⟩ := (hr1.later hg).at j (by omega)
        obtain ⟨y, hy⟩ : ∃ y, y = S[j]'(by omega) := ⟨_, rfl⟩
        rw [← hy] at q0 q1
        have hx' : S[j + 1]'(by omega) = x := by rw [hx]; congr 1; omega
        have hj1 : (0 : Int) ≤ (j : Int) := by omega
        have hj2 : (j : Int) < (n : Int) := by omega
        have hk0 : ((k : Int) == 0) = false := by simp; omega
        have hkj : (k : Int) - 1 = (j : Int) := by omega
        have HJ := hide hj
        clear q1
        by_cases hxy : x.k = y.k
        · have HT := hide (keysTo_old S j (by omega) (by rw [hx', ← hy]; exact hxy))
          have hne : (x.k != y.k) = false := by simp [hxy]
          clear hr1 hx hx' hy hg hj hxy
          go_wp2
          go_quiet (fail)
          have GZ := hide (below_drewN (Below.refl wr.heap.size wr) nq)
          clear P0 p0 q0
          generalize wr.drewN nq = wz at *
          go_wp2_with fail
          go_roundw
          case rel => exact ⟨k + 1, sl, ml, cl, by omega, rfl, by go_num, Grow.trans' HG.out GZ.out, by rw [HJ.out, HT.out, ← HJ.out]; exact HO.out.later GZ.out⟩
          case measure => simp [intOf]; omega
        · have HT := hide (keysTo_new S j (by omega) (by rw [hx', ← hy]; exact hxy))
          have hne : (x.k != y.k) = true := by simp [hxy]
          rw [hx'] at HT
          clear hr1 hx hx' hy hg hj hxy
          go_wp2
          go_quiet (fail)
          have GZ := hide (below_drewN (Below.refl wr.heap.size wr) nq)
          clear p0 q0 hne
          have p0 := cell_later GZ.out P0.out
          clear P0
          generalize wr.drewN nq = wz at *
          go_wp2_with (at_builtin; refine wpList_apd_int rfl _ _ rfl w1.heap.size sl ml cl (keysTo S k) [x.k] rfl (HO.out.later (Grow.trans' GZ.out (Grow.alloc' _ _))) (some ⟨wz.heap.size, 0, none⟩) 1 1 rfl (ins_one wz x.k) (by omega) (by have := GZ.out.size; simp; omega) ?_)
          intro s2 c2 w2 h2 gb
          have G2 := hide (gb.grow (Grow.trans' HG.out (Grow.trans' GZ.out (Grow.alloc' _ _))) (Nat.le_refl _))
          have O2 : Hid (OwnIV w2 w1.heap.size s2 (ml + 1) c2 (keysTo S (k + 1))) := hide (by rw [HJ.out, HT.out, ← HJ.out]; exact h2)
          clear h2 gb p0
          go_wp2_with fail
          go_roundw
          case rel => exact ⟨k + 1, s2, ml + 1, c2, by omega, rfl, by go_num, G2.out, O2.out⟩
          case measure => simp [intOf]; omega
    · have hkn : k = n := by omega
      rw [← hkn] at HK
      have IW := hide HO.out.is
      rw [HK.out] at IW
      clear hg HO
      go_wp2_with fail
      go_ret
      exact ⟨sl, ml, cl, rfl, Grow.trans' G1.out HG.out, IW.out⟩

end Go.Proofs.Ytkmgbhehhdjmlaa
