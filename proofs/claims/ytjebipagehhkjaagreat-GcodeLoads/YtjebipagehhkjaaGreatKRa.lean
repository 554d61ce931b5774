/-
  What the document's own Take does to the world: of bytes that are a graph's it returns the graph, else the error; what was there stays as it was.
-/
import Derived.Test.YtjebipagehhkjaaGreatKTa
/-
  What the document's own number does to the world: the number of two bytes; what was there stays as it was.
-/
namespace Go.Proofs.YtjebipagehhkjaaGreat
set_option maxRecDepth 100000
open Go.ChangeShapes Go.WideShapes Go.ChangeAt Go.RowKit Go.Deep Go.Sort
set_option linter.unusedVariables false
set_option linter.unusedSimpArgs false

set_option maxHeartbeats 2000000 in
theorem number_at (s : Option Addr) (n c : Nat) (d : List UInt8) (k : Nat) (w : World) (hI : IsBy w s n c d) (hk : k + 1 < n) (hn : n ≤ 100000) {z : Int} (hz : num (atB d k) (atB d (k + 1)) = z) :
    Calls Tryz.prog 15 #[.slice s n c, .int .i64 (k : Int)] w fun r w' => r = .returned (.int .i64 z) ∧ Grow w w' := by
  obtain ⟨bb, o, rfl, x0⟩ := hI.at k (by omega)
  obtain ⟨bb', o', e', x1⟩ := hI.at (k + 1) hk
  obtain ⟨rfl, rfl⟩ : bb = bb' ∧ o = o' := by simpa using e'
  obtain ⟨k1, hk1⟩ : ∃ k1, k1 = k + 1 := ⟨_, rfl⟩
  have q1 : wrap64 ((k : Int) + 1) = (k1 : Int) := by rw [IntWalk.wrap64_in _ (by omega), hk1]; omega
  obtain ⟨h1, h2⟩ := num_of (atB d k) (atB d (k + 1))
  have hu := toNat_u8 (atB d k)
  have hv := toNat_u8 (atB d (k + 1))
  rw [← hk1] at x1
  obtain ⟨u, hu'⟩ : ∃ u : Int, u = ((atB d k).toNat : Int) := ⟨_, rfl⟩
  obtain ⟨v, hv'⟩ : ∃ v : Int, v = ((atB d (k + 1)).toNat : Int) := ⟨_, rfl⟩
  rw [hz, ← hu', ← hv'] at h1 h2
  rw [hk1, ← hv', ← hk1] at x1
  rw [← hu'] at x0 hu
  rw [← hv'] at hv
  have H1 := hide h1
  have H2 := hide h2
  have b0 : (0 : Int) ≤ (k : Int) := by omega
  have b1 : (k : Int) < (n : Int) := by omega
  have b2 : (0 : Int) ≤ (k1 : Int) := by omega
  have b3 : (k1 : Int) < (n : Int) := by omega
  have u0 := hu.1
  have u1 := hu.2
  have v0 := hv.1
  have v1 := hv.2
  clear h1 h2 hI hk hn hk1 hu' hv' hu hv e' hz
  by_cases hx : 256 * u + v > 32767
  · have E := hide (H2.out hx)
    go_enter Tryz.func15, Tryz.ntmps15
    go_wp2_with fail
    go_quiet (fail)
    have HG := hide (below_drewN (Below.refl w.heap.size w) nq)
    generalize w.drewN nq = wz at *
    go_wp2_with fail
    go_ret
    exact ⟨ret_int E.out.symm, HG.out⟩
  · have E := hide (H1.out hx)
    go_enter Tryz.func15, Tryz.ntmps15
    go_wp2_with fail
    go_quiet (fail)
    have HG := hide (below_drewN (Below.refl w.heap.size w) nq)
    generalize w.drewN nq = wz at *
    go_wp2_with fail
    go_ret
    exact ⟨ret_int E.out.symm, HG.out⟩
end Go.Proofs.YtjebipagehhkjaaGreat
namespace Go.Proofs.YtjebipagehhkjaaGreat
set_option maxRecDepth 100000
open Go.ChangeShapes Go.WideShapes Go.ChangeAt Go.RowKit Go.Deep Go.Sort
set_option linter.unusedVariables false
set_option linter.unusedSimpArgs false

/-- A graph under way. -/
structure Gt (w : World) (R2 R3 : Nat) (g : GA) (w' : World) : Prop where
  gw : Grow w w'
  b2 : BlkG w' R2
  b3 : BlkG w' R3
  x3 : BoxG w' R3 g
section
variable {w w' w2 : World} {R2 R3 : Nat} {g g' : GA}
theorem Gt.later (h : Gt w R2 R3 g w') (hg : Grow w' w2) : Gt w R2 R3 g w2 := ⟨Grow.trans' h.gw hg, h.b2.later hg, h.b3.later hg, h.x3.later hg⟩
theorem Gt.off (h : Gt w R2 R3 g w') {r : Option Nat} (hg : w'.grownBy w2 r) (h1 : ∀ k, r = some k → w.heap.size ≤ k ∧ k ≠ R2 ∧ k ≠ R3) : Gt w R2 R3 g w2 := by
  have k2 : w2.heap[R2]? = w'.heap[R2]? := hg.block _ h.b2.lt fun e => (h1 R2 e.symm).2.1 rfl
  have k3 : w2.heap[R3]? = w'.heap[R3]? := hg.block _ h.b3.lt fun e => (h1 R3 e.symm).2.2 rfl
  exact ⟨Below.grown h.gw hg h.gw.size fun k e => (h1 k e).1, h.b2.keep k2, h.b3.keep k3, h.x3.keep k3⟩
theorem Gt.set (h : Gt w R2 R3 g w') (hg : w'.grownBy w2 (some R3)) (hx : BoxG w2 R3 g') (hB : BlkG w2 R3) (h3 : w.heap.size ≤ R3) (h2 : R2 ≠ R3) : Gt w R2 R3 g' w2 := by
  have k2 : w2.heap[R2]? = w'.heap[R2]? := hg.block _ h.b2.lt fun e => h2 (Option.some.inj e)
  exact ⟨Below.grown h.gw hg h.gw.size fun k e => by cases e; exact h3, h.b2.keep k2, hB, hx⟩
end
theorem no_of {d : List UInt8} {n : Nat} (hl : d.length = n) (h : n < 4 ∨ ¬ atB d 0 = 77 ∨ ¬ atB d 1 = 71 ∨ n < 4 + 6 * nn d ∨ ¬ n = 4 + 6 * nn d + 3 * ne d) : isB10 d = false := by
  cases hb : isB10 d with
  | false => rfl
  | true =>
    obtain ⟨h1, h2, h3, h4, h5⟩ := isB10_iff.1 hb
    rcases h with h | h | h | h | h
    · omega
    · exact absurd h2 h
    · exact absurd h3 h
    · omega
    · omega
theorem u8_ne {u v : UInt8} (h : ¬ u = v) : (((u.toNat : Int)) == ((v.toNat : Int))) = false := by
  rw [beq_eq_false_iff_ne]
  intro e
  exact h (UInt8.toNat_inj.1 (by omega))
set_option maxHeartbeats 16000000 in
theorem rtake_1 (s : Option Addr) (n c : Nat) (d : List UInt8) (w : World) (hn : n ≤ 100000) (hI : IsBy w s n c d) (h1 : n < 4) : Calls Tryz.prog 7 #[.slice s n c] w fun e w' => Taken d w e w' := by
  have HI := hide hI
  have HG : Hid (Grow w (w.alloc (.cells #[.slice none 0 0, .slice none 0 0] 27))) := hide (Grow.alloc' _ _)
  have HB : Hid (BlkG (w.alloc (.cells #[.slice none 0 0, .slice none 0 0] 27)) w.heap.size) := hide (BlkG.new w _ _)
  have HS : Hid ((w.alloc (.cells #[.slice none 0 0, .slice none 0 0] 27)).heap.size = w.heap.size + 1) := hide (by simp)
  have HL : Hid (d.length = n) := hide hI.1
  have HF := hide (no_of HL.out (.inl h1))
  have i1 : (n : Int) < 4 := by omega
  clear hI hn h1
  go_enter Tryz.func7, Tryz.ntmps7
  go_upto_region 1 with fail
  generalize hW0 : (w.alloc (.cells #[.slice none 0 0, .slice none 0 0] 27)) = w0 at *
  have HW0 := hide hW0
  clear hW0
  obtain ⟨P, hP⟩ : ∃ P, P = w.heap.size := ⟨_, rfl⟩
  rw [← hP] at HB HS ⊢
  have HPW : Hid (w.heap.size ≤ P) := hide (Nat.le_of_eq hP.symm)
  have HPE := hide hP
  clear hP
  go_wp2_with (refine wpList_putG2 rfl _ _ rfl P ⟨none, 0, 0, none, 0, 0, [], []⟩ rfl rfl HB.out w HG.out HPW.out ?_)
  intro w5 hg5 hb5 _ _ _
  have HG5 := hide hg5
  obtain ⟨b0, b1⟩ := hb5
  dsimp only at b0 b1
  clear hg5
  go_wp2_with fail
  exact bodyPost_ret (v := .tuple #[.agg #[.slice none 0 0, .slice none 0 0], .int .i64 2]) (by simp [results, Tryz.results7, go_sem, b0, b1]) rfl ⟨HG5.out, .inr ⟨HF.out, rfl⟩⟩
set_option maxHeartbeats 16000000 in
theorem rtake_2 (s : Option Addr) (n c : Nat) (d : List UInt8) (w : World) (hn : n ≤ 100000) (hI : IsBy w s n c d) (h1 : ¬ n < 4) (h2 : ¬ atB d 0 = 77) : Calls Tryz.prog 7 #[.slice s n c] w fun e w' => Taken d w e w' := by
  have HI := hide hI
  have HG : Hid (Grow w (w.alloc (.cells #[.slice none 0 0, .slice none 0 0] 27))) := hide (Grow.alloc' _ _)
  have HB : Hid (BlkG (w.alloc (.cells #[.slice none 0 0, .slice none 0 0] 27)) w.heap.size) := hide (BlkG.new w _ _)
  have HS : Hid ((w.alloc (.cells #[.slice none 0 0, .slice none 0 0] 27)).heap.size = w.heap.size + 1) := hide (by simp)
  have HL : Hid (d.length = n) := hide hI.1
  have HF := hide (no_of HL.out (.inr (.inl h2)))
  have i1 : ¬ (n : Int) < 4 := by omega
  have hI0 := hI.later HG.out
  obtain ⟨bb, o, rfl, x0⟩ := hI0.at 0 (by omega)
  rw [Nat.add_zero] at x0
  have hu := toNat_u8 (atB d 0)
  obtain ⟨u, hu'⟩ : ∃ u : Int, u = ((atB d 0).toNat : Int) := ⟨_, rfl⟩
  have e0 : (u == 77) = false := by rw [hu']; exact u8_ne (v := 77) h2
  have e0' : (u != 77) = true := by simp [bne, e0]
  rw [← hu'] at x0
  clear hu' hu
  clear hI0
  clear hI hn h1 h2
  go_enter Tryz.func7, Tryz.ntmps7
  go_upto_region 1 with fail
  generalize hW0 : (w.alloc (.cells #[.slice none 0 0, .slice none 0 0] 27)) = w0 at *
  have HW0 := hide hW0
  clear hW0
  obtain ⟨P, hP⟩ : ∃ P, P = w.heap.size := ⟨_, rfl⟩
  rw [← hP] at HB HS ⊢
  have HPW : Hid (w.heap.size ≤ P) := hide (Nat.le_of_eq hP.symm)
  have HPE := hide hP
  clear hP
  go_wp2_with (refine wpList_putG2 rfl _ _ rfl P ⟨none, 0, 0, none, 0, 0, [], []⟩ rfl rfl HB.out w HG.out HPW.out ?_)
  intro w5 hg5 hb5 _ _ _
  have HG5 := hide hg5
  obtain ⟨b0, b1⟩ := hb5
  dsimp only at b0 b1
  clear hg5 x0
  go_wp2_with fail
  exact bodyPost_ret (v := .tuple #[.agg #[.slice none 0 0, .slice none 0 0], .int .i64 2]) (by simp [results, Tryz.results7, go_sem, b0, b1]) rfl ⟨HG5.out, .inr ⟨HF.out, rfl⟩⟩
set_option maxHeartbeats 16000000 in
theorem rtake_3 (s : Option Addr) (n c : Nat) (d : List UInt8) (w : World) (hn : n ≤ 100000) (hI : IsBy w s n c d) (h1 : ¬ n < 4) (h2 : atB d 0 = 77) (h3 : ¬ atB d 1 = 71) : Calls Tryz.prog 7 #[.slice s n c] w fun e w' => Taken d w e w' := by
  have HI := hide hI
  have HG : Hid (Grow w (w.alloc (.cells #[.slice none 0 0, .slice none 0 0] 27))) := hide (Grow.alloc' _ _)
  have HB : Hid (BlkG (w.alloc (.cells #[.slice none 0 0, .slice none 0 0] 27)) w.heap.size) := hide (BlkG.new w _ _)
  have HS : Hid ((w.alloc (.cells #[.slice none 0 0, .slice none 0 0] 27)).heap.size = w.heap.size + 1) := hide (by simp)
  have HL : Hid (d.length = n) := hide hI.1
  have HF := hide (no_of HL.out (.inr (.inr (.inl h3))))
  have i1 : ¬ (n : Int) < 4 := by omega
  have hI0 := hI.later HG.out
  obtain ⟨bb, o, rfl, x0⟩ := hI0.at 0 (by omega)
  rw [Nat.add_zero] at x0
  rw [h2] at x0
  obtain ⟨bb', o', e', x1⟩ := hI0.at 1 (by omega)
  obtain ⟨rfl, rfl⟩ : bb = bb' ∧ o = o' := by simpa using e'
  obtain ⟨u, hu'⟩ : ∃ u : Int, u = ((atB d 1).toNat : Int) := ⟨_, rfl⟩
  have e0 : (u == 71) = false := by rw [hu']; exact u8_ne (v := 71) h3
  have e0' : (u != 71) = true := by simp [bne, e0]
  rw [← hu'] at x1
  clear hu' e'
  clear hI0
  clear hI hn h1 h2 h3
  go_enter Tryz.func7, Tryz.ntmps7
  go_upto_region 1 with fail
  generalize hW0 : (w.alloc (.cells #[.slice none 0 0, .slice none 0 0] 27)) = w0 at *
  have HW0 := hide hW0
  clear hW0
  obtain ⟨P, hP⟩ : ∃ P, P = w.heap.size := ⟨_, rfl⟩
  rw [← hP] at HB HS ⊢
  have HPW : Hid (w.heap.size ≤ P) := hide (Nat.le_of_eq hP.symm)
  have HPE := hide hP
  clear hP
  go_wp2_with (refine wpList_putG2 rfl _ _ rfl P ⟨none, 0, 0, none, 0, 0, [], []⟩ rfl rfl HB.out w HG.out HPW.out ?_)
  intro w5 hg5 hb5 _ _ _
  have HG5 := hide hg5
  obtain ⟨b0, b1⟩ := hb5
  dsimp only at b0 b1
  clear hg5 x0 x1
  go_wp2_with fail
  exact bodyPost_ret (v := .tuple #[.agg #[.slice none 0 0, .slice none 0 0], .int .i64 2]) (by simp [results, Tryz.results7, go_sem, b0, b1]) rfl ⟨HG5.out, .inr ⟨HF.out, rfl⟩⟩
set_option maxHeartbeats 16000000 in
theorem rtake_4 (s : Option Addr) (n c : Nat) (d : List UInt8) (w : World) (hn : n ≤ 100000) (hI : IsBy w s n c d) (h1 : ¬ n < 4) (h2 : atB d 0 = 77) (h3 : atB d 1 = 71) (h4 : n < 4 + 6 * nn d) : Calls Tryz.prog 7 #[.slice s n c] w fun e w' => Taken d w e w' := by
  have HI := hide hI
  have HG : Hid (Grow w (w.alloc (.cells #[.slice none 0 0, .slice none 0 0] 27))) := hide (Grow.alloc' _ _)
  have HB : Hid (BlkG (w.alloc (.cells #[.slice none 0 0, .slice none 0 0] 27)) w.heap.size) := hide (BlkG.new w _ _)
  have HS : Hid ((w.alloc (.cells #[.slice none 0 0, .slice none 0 0] 27)).heap.size = w.heap.size + 1) := hide (by simp)
  have HL : Hid (d.length = n) := hide hI.1
  have HF := hide (no_of HL.out (.inr (.inr (.inr (.inl h4)))))
  have i1 : ¬ (n : Int) < 4 := by omega
  have hI0 := hI.later HG.out
  obtain ⟨bb, o, rfl, x0⟩ := hI0.at 0 (by omega)
  rw [Nat.add_zero] at x0
  rw [h2] at x0
  obtain ⟨bb', o', e', x1⟩ := hI0.at 1 (by omega)
  obtain ⟨rfl, rfl⟩ : bb = bb' ∧ o = o' := by simpa using e'
  rw [h3] at x1
  obtain ⟨bb', o', e'', x2⟩ := hI0.at 2 (by omega)
  obtain ⟨rfl, rfl⟩ : bb = bb' ∧ o = o' := by simpa using e''
  obtain ⟨nx, hnx⟩ : ∃ nx, nn d = nx := ⟨_, rfl⟩
  rw [show ((atB d 2).toNat : Int) = (nx : Int) by rw [← hnx]; rfl] at x2
  have hn5 : nx ≤ 255 := by rw [← hnx]; have := (atB d 2).toNat_lt; unfold nn; omega
  rw [hnx] at h4
  have i4 : (n : Int) < 4 + 6 * (nx : Int) := by omega
  clear e' e''
  clear hI0
  clear hnx
  clear hI hn h1 h2 h3 h4
  go_enter Tryz.func7, Tryz.ntmps7
  go_upto_region 1 with fail
  generalize hW0 : (w.alloc (.cells #[.slice none 0 0, .slice none 0 0] 27)) = w0 at *
  have HW0 := hide hW0
  clear hW0
  obtain ⟨P, hP⟩ : ∃ P, P = w.heap.size := ⟨_, rfl⟩
  rw [← hP] at HB HS ⊢
  have HPW : Hid (w.heap.size ≤ P) := hide (Nat.le_of_eq hP.symm)
  have HPE := hide hP
  clear hP
  go_wp2_with (refine wpList_putG2 rfl _ _ rfl P ⟨none, 0, 0, none, 0, 0, [], []⟩ rfl rfl HB.out w HG.out HPW.out ?_)
  intro w5 hg5 hb5 _ _ _
  have HG5 := hide hg5
  obtain ⟨b0, b1⟩ := hb5
  dsimp only at b0 b1
  clear hg5 x0 x1 x2
  go_wp2_with fail
  exact bodyPost_ret (v := .tuple #[.agg #[.slice none 0 0, .slice none 0 0], .int .i64 2]) (by simp [results, Tryz.results7, go_sem, b0, b1]) rfl ⟨HG5.out, .inr ⟨HF.out, rfl⟩⟩
set_option maxHeartbeats 16000000 in
theorem rtake_5 (s : Option Addr) (n c : Nat) (d : List UInt8) (w : World) (hn : n ≤ 100000) (hI : IsBy w s n c d) (h1 : ¬ n < 4) (h2 : atB d 0 = 77) (h3 : atB d 1 = 71) (h4 : ¬ n < 4 + 6 * nn d) (h5 : ¬ n = 4 + 6 * nn d + 3 * ne d) : Calls Tryz.prog 7 #[.slice s n c] w fun e w' => Taken d w e w' := by
  have HI := hide hI
  have HG : Hid (Grow w (w.alloc (.cells #[.slice none 0 0, .slice none 0 0] 27))) := hide (Grow.alloc' _ _)
  have HB : Hid (BlkG (w.alloc (.cells #[.slice none 0 0, .slice none 0 0] 27)) w.heap.size) := hide (BlkG.new w _ _)
  have HS : Hid ((w.alloc (.cells #[.slice none 0 0, .slice none 0 0] 27)).heap.size = w.heap.size + 1) := hide (by simp)
  have HL : Hid (d.length = n) := hide hI.1
  have HF := hide (no_of HL.out (.inr (.inr (.inr (.inr h5)))))
  have i1 : ¬ (n : Int) < 4 := by omega
  have hI0 := hI.later HG.out
  obtain ⟨bb, o, rfl, x0⟩ := hI0.at 0 (by omega)
  rw [Nat.add_zero] at x0
  rw [h2] at x0
  obtain ⟨bb', o', e', x1⟩ := hI0.at 1 (by omega)
  obtain ⟨rfl, rfl⟩ : bb = bb' ∧ o = o' := by simpa using e'
  rw [h3] at x1
  obtain ⟨bb', o', e'', x2⟩ := hI0.at 2 (by omega)
  obtain ⟨rfl, rfl⟩ : bb = bb' ∧ o = o' := by simpa using e''
  obtain ⟨nx, hnx⟩ : ∃ nx, nn d = nx := ⟨_, rfl⟩
  rw [show ((atB d 2).toNat : Int) = (nx : Int) by rw [← hnx]; rfl] at x2
  have hn5 : nx ≤ 255 := by rw [← hnx]; have := (atB d 2).toNat_lt; unfold nn; omega
  rw [hnx] at h4
  have i4 : ¬ (n : Int) < 4 + 6 * (nx : Int) := by omega
  clear e' e''
  obtain ⟨j, hj⟩ : ∃ j, 3 + 6 * nx = j := ⟨_, rfl⟩
  have qj : (3 : Int) + 6 * (nx : Int) = (j : Int) := by omega
  have j0 : (0 : Int) ≤ (j : Int) := by omega
  have j1 : (j : Int) < (n : Int) := by omega
  obtain ⟨bb', o', e', x3⟩ := hI0.at j (by omega)
  obtain ⟨rfl, rfl⟩ : bb = bb' ∧ o = o' := by simpa using e'
  obtain ⟨mx, hmx⟩ : ∃ mx, ne d = mx := ⟨_, rfl⟩
  rw [show ((atB d j).toNat : Int) = (mx : Int) by rw [← hmx, ← hj, ← hnx]; rfl] at x3
  have hm5 : mx ≤ 255 := by rw [← hmx]; have := (atB d (3 + 6 * nn d)).toNat_lt; unfold ne; omega
  rw [hnx, hmx] at h5
  have i5 : ((n : Int) == 4 + 6 * (nx : Int) + 3 * (mx : Int)) = false := by rw [beq_eq_false_iff_ne]; omega
  have i5' : ((n : Int) != 4 + 6 * (nx : Int) + 3 * (mx : Int)) = true := by simp [bne, i5]
  clear e' hj hmx
  clear hI0
  clear hnx
  clear hI hn h1 h2 h3 h4 h5
  go_enter Tryz.func7, Tryz.ntmps7
  go_upto_region 1 with fail
  generalize hW0 : (w.alloc (.cells #[.slice none 0 0, .slice none 0 0] 27)) = w0 at *
  have HW0 := hide hW0
  clear hW0
  obtain ⟨P, hP⟩ : ∃ P, P = w.heap.size := ⟨_, rfl⟩
  rw [← hP] at HB HS ⊢
  have HPW : Hid (w.heap.size ≤ P) := hide (Nat.le_of_eq hP.symm)
  have HPE := hide hP
  clear hP
  go_wp2_with (refine wpList_putG2 rfl _ _ rfl P ⟨none, 0, 0, none, 0, 0, [], []⟩ rfl rfl HB.out w HG.out HPW.out ?_)
  intro w5 hg5 hb5 _ _ _
  have HG5 := hide hg5
  obtain ⟨b0, b1⟩ := hb5
  dsimp only at b0 b1
  clear hg5 x0 x1 x2 x3
  go_wp2_with fail
  exact bodyPost_ret (v := .tuple #[.agg #[.slice none 0 0, .slice none 0 0], .int .i64 2]) (by simp [results, Tryz.results7, go_sem, b0, b1]) rfl ⟨HG5.out, .inr ⟨HF.out, rfl⟩⟩
set_option maxHeartbeats 16000000 in
theorem rtake_6 (s : Option Addr) (n c : Nat) (d : List UInt8) (w : World) (hn : n ≤ 100000) (hI : IsBy w s n c d) (h1 : ¬ n < 4) (h2 : atB d 0 = 77) (h3 : atB d 1 = 71) (h4 : ¬ n < 4 + 6 * nn d) (h5 : n = 4 + 6 * nn d + 3 * ne d) : Calls Tryz.prog 7 #[.slice s n c] w fun e w' => Taken d w e w' := by
  have HI := hide hI
  have HG : Hid (Grow w (w.alloc (.cells #[.slice none 0 0, .slice none 0 0] 27))) := hide (Grow.alloc' _ _)
  have HB : Hid (BlkG (w.alloc (.cells #[.slice none 0 0, .slice none 0 0] 27)) w.heap.size) := hide (BlkG.new w _ _)
  have HS : Hid ((w.alloc (.cells #[.slice none 0 0, .slice none 0 0] 27)).heap.size = w.heap.size + 1) := hide (by simp)
  have HL : Hid (d.length = n) := hide hI.1
  have HF := hide (isB10_iff.2 ⟨by rw [HL.out]; omega, h2, h3, by rw [HL.out]; omega, by rw [HL.out]; exact h5⟩)
  have i1 : ¬ (n : Int) < 4 := by omega
  have hI0 := hI.later HG.out
  obtain ⟨bb, o, rfl, x0⟩ := hI0.at 0 (by omega)
  rw [Nat.add_zero] at x0
  rw [h2] at x0
  obtain ⟨bb', o', e', x1⟩ := hI0.at 1 (by omega)
  obtain ⟨rfl, rfl⟩ : bb = bb' ∧ o = o' := by simpa using e'
  rw [h3] at x1
  obtain ⟨bb', o', e'', x2⟩ := hI0.at 2 (by omega)
  obtain ⟨rfl, rfl⟩ : bb = bb' ∧ o = o' := by simpa using e''
  obtain ⟨nx, hnx⟩ : ∃ nx, nn d = nx := ⟨_, rfl⟩
  rw [show ((atB d 2).toNat : Int) = (nx : Int) by rw [← hnx]; rfl] at x2
  have hn5 : nx ≤ 255 := by rw [← hnx]; have := (atB d 2).toNat_lt; unfold nn; omega
  rw [hnx] at h4
  have i4 : ¬ (n : Int) < 4 + 6 * (nx : Int) := by omega
  clear e' e''
  obtain ⟨j, hj⟩ : ∃ j, 3 + 6 * nx = j := ⟨_, rfl⟩
  have qj : (3 : Int) + 6 * (nx : Int) = (j : Int) := by omega
  have j0 : (0 : Int) ≤ (j : Int) := by omega
  have j1 : (j : Int) < (n : Int) := by omega
  obtain ⟨bb', o', e', x3⟩ := hI0.at j (by omega)
  obtain ⟨rfl, rfl⟩ : bb = bb' ∧ o = o' := by simpa using e'
  obtain ⟨mx, hmx⟩ : ∃ mx, ne d = mx := ⟨_, rfl⟩
  rw [show ((atB d j).toNat : Int) = (mx : Int) by rw [← hmx, ← hj, ← hnx]; rfl] at x3
  have hm5 : mx ≤ 255 := by rw [← hmx]; have := (atB d (3 + 6 * nn d)).toNat_lt; unfold ne; omega
  rw [hnx, hmx] at h5
  have i5 : ((n : Int) == 4 + 6 * (nx : Int) + 3 * (mx : Int)) = true := by rw [beq_iff_eq]; omega
  have i5' : ((n : Int) != 4 + 6 * (nx : Int) + 3 * (mx : Int)) = false := by simp [bne, i5]
  have HNX := hide hnx
  have HMX := hide hmx
  have HN5 := hide hn5
  have HM5 := hide hm5
  have HH5 := hide h5
  have HNB := hide hn
  clear e' hj hmx
  clear hI0
  clear hnx
  clear hI hn h1 h2 h3 h4 h5
  go_enter Tryz.func7, Tryz.ntmps7
  go_upto_region 1 with fail
  generalize hW0 : (w.alloc (.cells #[.slice none 0 0, .slice none 0 0] 27)) = w0 at *
  have HW0 := hide hW0
  clear hW0
  obtain ⟨P, hP⟩ : ∃ P, P = w.heap.size := ⟨_, rfl⟩
  rw [← hP] at HB HS ⊢
  have HPW : Hid (w.heap.size ≤ P) := hide (Nat.le_of_eq hP.symm)
  have HPE := hide hP
  clear hP
  go_upto_region 10 with fail
  rw [HS.out]
  have HT1 : Hid (Gt w P (P + 1) ⟨none, 0, 0, none, 0, 0, [], []⟩ (w0.alloc (.cells #[.slice none 0 0, .slice none 0 0] 27))) := hide (by
    refine ⟨Grow.trans' HG.out (Grow.alloc' _ _), HB.out.later (Grow.alloc' _ _), ?_, ?_⟩
    · have := BlkG.new w0 (.slice none 0 0) (.slice none 0 0)
      rw [HS.out] at this; exact this
    · have := BoxG.new w0 ⟨none, 0, 0, none, 0, 0, [], []⟩
      rw [HS.out] at this; exact this)
  have QJ := hide qj
  clear x0 x1 x2 x3 i1 i4 i5 i5' j0 j1 qj HS HB HG
  generalize w0.alloc (.cells #[.slice none 0 0, .slice none 0 0] 27) = w1 at *
  go_wp2_with fail
  go_loopw [7] (fun i wr => ∃ (k : Nat) (s : Option Addr) (c : Nat), k ≤ nx ∧ i = .int .i64 (k : Int) ∧ Gt w P (P + 1) ⟨s, k, c, none, 0, 0, [], []⟩ wr ∧ OwnN wr P s k c (ndsAt d 3 k)) (fun i _ => nx - (intOf i).toNat)
  case atStart => exact ⟨0, none, 0, Nat.zero_le _, rfl, HT1.out, OwnN.nil _ _⟩
  case round =>
    obtain ⟨k, s1, c1, hk, rfl, hG, hO⟩ := hrel
    generalize wr = wi at *
    have HG := hide hG
    have HO := hide hO
    have hn5 := HN5.out
    clear hG hO
    by_cases hlt : k < nx
    · have hi2 : (k : Int) < (nx : Int) := by omega
      have hnn := HH5.out
      have hbig := HNB.out
      obtain ⟨a, ha⟩ : ∃ a, 3 + 6 * k = a := ⟨_, rfl⟩
      obtain ⟨a1, ha1⟩ : ∃ a1, a + 1 = a1 := ⟨_, rfl⟩
      obtain ⟨a2, ha2⟩ : ∃ a2, a + 2 = a2 := ⟨_, rfl⟩
      obtain ⟨a4, ha4⟩ : ∃ a4, a + 4 = a4 := ⟨_, rfl⟩
      have qa : (3 : Int) + 6 * (k : Int) = (a : Int) := by omega
      have q1 : IntKind.i64.wrap ((a : Int) + 1) = (a1 : Int) := by rw [IntWalk.i64_in _ (by omega)]; omega
      have q2 : IntKind.i64.wrap ((a : Int) + 2) = (a2 : Int) := by rw [IntWalk.i64_in _ (by omega)]; omega
      have q4 : IntKind.i64.wrap ((a : Int) + 4) = (a4 : Int) := by rw [IntWalk.i64_in _ (by omega)]; omega
      have p0 : (0 : Int) ≤ (a : Int) := by omega
      have p1 : (a : Int) < (n : Int) := by omega
      have p2 : (0 : Int) ≤ (a1 : Int) := by omega
      have p3 : (a1 : Int) < (n : Int) := by omega
      obtain ⟨U, hU⟩ : ∃ U : Int, U = ((atB d a).toNat : Int) := ⟨_, rfl⟩
      obtain ⟨V, hV⟩ : ∃ V : Int, V = ((atB d a1).toNat : Int) := ⟨_, rfl⟩
      have hUb := toNat_u8 (atB d a)
      have hVb := toNat_u8 (atB d a1)
      rw [← hU] at hUb
      rw [← hV] at hVb
      have cU : IntKind.i64.wrap U = U := IntWalk.i64_in _ (by omega)
      have cV : IntKind.i64.wrap V = V := IntWalk.i64_in _ (by omega)
      have CU : Hid (∀ w', Grow w w' → w'.cell? ⟨bb, o + a, none⟩ = some (.int .u8 U)) := hide (fun w' h => by
        obtain ⟨b', o', e, y⟩ := (HI.out.later h).at a (by omega)
        obtain ⟨rfl, rfl⟩ : bb = b' ∧ o = o' := by simpa using e
        rw [hU]; exact y)
      have CV : Hid (∀ w', Grow w w' → w'.cell? ⟨bb, o + a1, none⟩ = some (.int .u8 V)) := hide (fun w' h => by
        obtain ⟨b', o', e, y⟩ := (HI.out.later h).at a1 (by omega)
        obtain ⟨rfl, rfl⟩ : bb = b' ∧ o = o' := by simpa using e
        rw [hV]; exact y)
      obtain ⟨X2, hX2⟩ : ∃ X, num (atB d a2) (atB d (a2 + 1)) = X := ⟨_, rfl⟩
      obtain ⟨X4, hX4⟩ : ∃ X, num (atB d a4) (atB d (a4 + 1)) = X := ⟨_, rfl⟩
      have C2 := hide (fun w' (h : Grow w w') => number_at (some ⟨bb, o, none⟩) n c d a2 w' (HI.out.later h) (by omega) HNB.out hX2)
      have C4 := hide (fun w' (h : Grow w w') => number_at (some ⟨bb, o, none⟩) n c d a4 w' (HI.out.later h) (by omega) HNB.out hX4)
      have HX : Hid (ndAt d (3 + 6 * k) = ⟨U, X2, X4, V⟩) := hide (by
        rw [ha, hU, hV, ← hX2, ← hX4, ← ha1, ← ha2, ← ha4]
        simp only [ndAt, Nat.add_assoc])
      clear hnn hbig ha ha1 ha2 ha4 hU hV hUb hVb hX2 hX4
      go_wp2_with fail
      let FF : Nat → Value → Prop := fun i vF => match i with | 0 => vF = .pointer (some ⟨P + 1, 0, none⟩) | 1 => vF = .slice s1 k c1 | 2 => vF = .slice (some ⟨bb, o, none⟩) n c | 3 => vF = .int .i64 (a : Int) | 4 => vF = .pointer (some ⟨bb, o + a, none⟩) | 5 => vF = .int .u8 U | 6 => vF = .int .i64 U | 7 => vF = .slice (some ⟨bb, o, none⟩) n c | 8 => vF = .int .i64 (a : Int) | 9 => vF = .int .i64 (a1 : Int) | 10 => vF = .pointer (some ⟨bb, o + a1, none⟩) | 11 => vF = .int .u8 V | 12 => vF = .int .i64 V | 13 => vF = .slice (some ⟨bb, o, none⟩) n c | 14 => vF = .int .i64 (a : Int) | 15 => vF = .int .i64 (a2 : Int) | 16 => vF = .int .i64 X2 | 17 => vF = .slice (some ⟨bb, o, none⟩) n c | 18 => vF = .int .i64 (a : Int) | 19 => vF = .int .i64 (a4 : Int) | 20 => vF = .int .i64 X4 | 21 => vF = .agg #[.int .i64 U, .int .i64 X2, .int .i64 X4, .int .i64 V] | 22 => True | 23 => True | 24 => vF = .pointer (some ⟨P + 1, 0, none⟩) | _ => True
      let CC : Nat → Value → World → Prop := fun p u w' => match p with | 0 => Gt w P (P + 1) ⟨s1, k, c1, none, 0, 0, [], []⟩ w' ∧ OwnN w' P s1 k c1 (ndsAt d 3 k) | 1 => Gt w P (P + 1) ⟨s1, k, c1, none, 0, 0, [], []⟩ w' ∧ OwnN w' P s1 k c1 (ndsAt d 3 k) | 2 => Gt w P (P + 1) ⟨s1, k, c1, none, 0, 0, [], []⟩ w' ∧ OwnN w' P s1 k c1 (ndsAt d 3 k) | 3 => Gt w P (P + 1) ⟨s1, k, c1, none, 0, 0, [], []⟩ w' ∧ OwnN w' P s1 k c1 (ndsAt d 3 k) | 4 => Gt w P (P + 1) ⟨s1, k, c1, none, 0, 0, [], []⟩ w' ∧ OwnN w' P s1 k c1 (ndsAt d 3 k) ∧ ∃ g, u = .slice (some ⟨g, 0, none⟩) 1 1 ∧ IsNds w' (some ⟨g, 0, none⟩) 1 1 [⟨U, X2, X4, V⟩] | _ => Gt w P (P + 1) ⟨s1, k, c1, none, 0, 0, [], []⟩ w' ∧ ∃ s2 c2, u = .slice s2 (k + 1) c2 ∧ OwnN w' P s2 (k + 1) c2 (ndsAt d 3 k ++ [⟨U, X2, X4, V⟩])
      refine wp_region_endC FF CC [16, 20, 21, 22, 23] 25 _ rfl rfl rfl (by kernel_rfl) (by kernel_rfl) (by kernel_rfl) (fun w' hg _ => ⟨HG.out.later hg, HO.out.later hg⟩) ?_ ?_
      · refine ⟨?_, ?_, ?_, ?_, ?_, ?_, ?_, ?_, ?_, ?_, ?_, ?_, ?_, ?_, ?_, ?_, ?_, ?_, ?_, ?_, ?_, ?_, ?_, ?_, ?_, trivial⟩
        · refine stepC_plain rfl (by decide) ?_
          intro a' w' hC hs hd
          have e6 : a'.eval (.tmp 6) = .pointer (some ⟨P + 1, 0, none⟩) := hs.rest 6 rfl
          have ec : ∀ v, a'.eval (.const v) = v := fun _ => rfl
          have ef : ∀ g, a'.eval (.func g) = .func (.func g) #[] #[] := fun _ => rfl
          clear hd hs
          refine wpv (v := .pointer (some ⟨P + 1, 0, none⟩)) (w' := w') ?_ ⟨_, rfl, rfl, rfl⟩
          (generalize a'.eval = ev at ec ef e6 ⊢; simp [execOp, go_sem, *])
        · refine stepC_plain rfl (by decide) ?_
          intro a' w' hC hs hd
          have e64 : a'.eval (.tmp 64) = .pointer (some ⟨P + 1, 0, none⟩) := hd ⟨0, Ground.data⟩ (by simp) rfl
          have ec : ∀ v, a'.eval (.const v) = v := fun _ => rfl
          have ef : ∀ g, a'.eval (.func g) = .func (.func g) #[] #[] := fun _ => rfl
          obtain ⟨x0, x1⟩ : BoxG w' (P + 1) ⟨s1, k, c1, none, 0, 0, [], []⟩ := by obtain ⟨p, u, h⟩ := hC; match p with | 0 => exact h.1.x3 | 1 => exact h.1.x3 | 2 => exact h.1.x3 | 3 => exact h.1.x3 | 4 => exact h.1.x3 | p + 5 => exact h.1.x3
          clear hd hs
          refine wpv (v := .slice s1 k c1) (w' := w') ?_ ⟨_, rfl, rfl, rfl⟩
          (generalize a'.eval = ev at ec ef e64 ⊢; simp [execOp, go_sem, *])
        · refine stepC_plain rfl (by decide) ?_
          intro a' w' hC hs hd
          have e0 : a'.eval (.tmp 0) = .slice (some ⟨bb, o, none⟩) n c := hs.rest 0 rfl
          have ec : ∀ v, a'.eval (.const v) = v := fun _ => rfl
          have ef : ∀ g, a'.eval (.func g) = .func (.func g) #[] #[] := fun _ => rfl
          clear hd hs
          refine wpv (v := .slice (some ⟨bb, o, none⟩) n c) (w' := w') ?_ ⟨_, rfl, rfl, rfl⟩
          (generalize a'.eval = ev at ec ef e0 ⊢; simp [execOp, go_sem, *])
        · refine stepC_plain rfl (by decide) ?_
          intro a' w' hC hs hd
          have e8 : a'.eval (.tmp 8) = .int .i64 (a : Int) := hs.rest 8 rfl
          have ec : ∀ v, a'.eval (.const v) = v := fun _ => rfl
          have ef : ∀ g, a'.eval (.func g) = .func (.func g) #[] #[] := fun _ => rfl
          clear hd hs
          refine wpv (v := .int .i64 (a : Int)) (w' := w') ?_ ⟨_, rfl, rfl, rfl⟩
          (generalize a'.eval = ev at ec ef e8 ⊢; simp [execOp, go_sem, *])
        · refine stepC_plain rfl (by decide) ?_
          intro a' w' hC hs hd
          have e66 : a'.eval (.tmp 66) = .slice (some ⟨bb, o, none⟩) n c := hd ⟨2, Ground.data⟩ (by simp) rfl
          have e67 : a'.eval (.tmp 67) = .int .i64 (a : Int) := hd ⟨3, Ground.data⟩ (by simp) rfl
          have ec : ∀ v, a'.eval (.const v) = v := fun _ => rfl
          have ef : ∀ g, a'.eval (.func g) = .func (.func g) #[] #[] := fun _ => rfl
          clear hd hs
          refine wpv (v := .pointer (some ⟨bb, o + a, none⟩)) (w' := w') ?_ ⟨_, rfl, rfl, rfl⟩
          (generalize a'.eval = ev at ec ef e66 e67 ⊢; simp [execOp, go_sem, *])
        · refine stepC_plain rfl (by decide) ?_
          intro a' w' hC hs hd
          have e68 : a'.eval (.tmp 68) = .pointer (some ⟨bb, o + a, none⟩) := hd ⟨4, Ground.data⟩ (by simp) rfl
          have ec : ∀ v, a'.eval (.const v) = v := fun _ => rfl
          have ef : ∀ g, a'.eval (.func g) = .func (.func g) #[] #[] := fun _ => rfl
          have y := CU.out w' (by obtain ⟨p, u, h⟩ := hC; match p with | 0 => exact h.1.gw | 1 => exact h.1.gw | 2 => exact h.1.gw | 3 => exact h.1.gw | 4 => exact h.1.gw | p + 5 => exact h.1.gw)
          clear hd hs
          refine wpv (v := .int .u8 U) (w' := w') ?_ ⟨_, rfl, rfl, rfl⟩
          (generalize a'.eval = ev at ec ef e68 ⊢; simp [execOp, go_sem, *])
        · refine stepC_plain rfl (by decide) ?_
          intro a' w' hC hs hd
          have e69 : a'.eval (.tmp 69) = .int .u8 U := hd ⟨5, Ground.data⟩ (by simp) rfl
          have ec : ∀ v, a'.eval (.const v) = v := fun _ => rfl
          have ef : ∀ g, a'.eval (.func g) = .func (.func g) #[] #[] := fun _ => rfl
          clear hd hs
          refine wpv (v := .int .i64 U) (w' := w') ?_ ⟨_, rfl, rfl, rfl⟩
          (generalize a'.eval = ev at ec ef e69 ⊢; simp [execOp, go_sem, *])
        · refine stepC_plain rfl (by decide) ?_
          intro a' w' hC hs hd
          have e0 : a'.eval (.tmp 0) = .slice (some ⟨bb, o, none⟩) n c := hs.rest 0 rfl
          have ec : ∀ v, a'.eval (.const v) = v := fun _ => rfl
          have ef : ∀ g, a'.eval (.func g) = .func (.func g) #[] #[] := fun _ => rfl
          clear hd hs
          refine wpv (v := .slice (some ⟨bb, o, none⟩) n c) (w' := w') ?_ ⟨_, rfl, rfl, rfl⟩
          (generalize a'.eval = ev at ec ef e0 ⊢; simp [execOp, go_sem, *])
        · refine stepC_plain rfl (by decide) ?_
          intro a' w' hC hs hd
          have e8 : a'.eval (.tmp 8) = .int .i64 (a : Int) := hs.rest 8 rfl
          have ec : ∀ v, a'.eval (.const v) = v := fun _ => rfl
          have ef : ∀ g, a'.eval (.func g) = .func (.func g) #[] #[] := fun _ => rfl
          clear hd hs
          refine wpv (v := .int .i64 (a : Int)) (w' := w') ?_ ⟨_, rfl, rfl, rfl⟩
          (generalize a'.eval = ev at ec ef e8 ⊢; simp [execOp, go_sem, *])
        · refine stepC_plain rfl (by decide) ?_
          intro a' w' hC hs hd
          have e72 : a'.eval (.tmp 72) = .int .i64 (a : Int) := hd ⟨8, Ground.data⟩ (by simp) rfl
          have ec : ∀ v, a'.eval (.const v) = v := fun _ => rfl
          have ef : ∀ g, a'.eval (.func g) = .func (.func g) #[] #[] := fun _ => rfl
          clear hd hs
          refine wpv (v := .int .i64 (a1 : Int)) (w' := w') ?_ ⟨_, rfl, rfl, rfl⟩
          (generalize a'.eval = ev at ec ef e72 ⊢; simp [execOp, go_sem, *])
        · refine stepC_plain rfl (by decide) ?_
          intro a' w' hC hs hd
          have e71 : a'.eval (.tmp 71) = .slice (some ⟨bb, o, none⟩) n c := hd ⟨7, Ground.data⟩ (by simp) rfl
          have e73 : a'.eval (.tmp 73) = .int .i64 (a1 : Int) := hd ⟨9, Ground.data⟩ (by simp) rfl
          have ec : ∀ v, a'.eval (.const v) = v := fun _ => rfl
          have ef : ∀ g, a'.eval (.func g) = .func (.func g) #[] #[] := fun _ => rfl
          clear hd hs
          refine wpv (v := .pointer (some ⟨bb, o + a1, none⟩)) (w' := w') ?_ ⟨_, rfl, rfl, rfl⟩
          (generalize a'.eval = ev at ec ef e71 e73 ⊢; simp [execOp, go_sem, *])
        · refine stepC_plain rfl (by decide) ?_
          intro a' w' hC hs hd
          have e74 : a'.eval (.tmp 74) = .pointer (some ⟨bb, o + a1, none⟩) := hd ⟨10, Ground.data⟩ (by simp) rfl
          have ec : ∀ v, a'.eval (.const v) = v := fun _ => rfl
          have ef : ∀ g, a'.eval (.func g) = .func (.func g) #[] #[] := fun _ => rfl
          have y := CV.out w' (by obtain ⟨p, u, h⟩ := hC; match p with | 0 => exact h.1.gw | 1 => exact h.1.gw | 2 => exact h.1.gw | 3 => exact h.1.gw | 4 => exact h.1.gw | p + 5 => exact h.1.gw)
          clear hd hs
          refine wpv (v := .int .u8 V) (w' := w') ?_ ⟨_, rfl, rfl, rfl⟩
          (generalize a'.eval = ev at ec ef e74 ⊢; simp [execOp, go_sem, *])
        · refine stepC_plain rfl (by decide) ?_
          intro a' w' hC hs hd
          have e75 : a'.eval (.tmp 75) = .int .u8 V := hd ⟨11, Ground.data⟩ (by simp) rfl
          have ec : ∀ v, a'.eval (.const v) = v := fun _ => rfl
          have ef : ∀ g, a'.eval (.func g) = .func (.func g) #[] #[] := fun _ => rfl
          clear hd hs
          refine wpv (v := .int .i64 V) (w' := w') ?_ ⟨_, rfl, rfl, rfl⟩
          (generalize a'.eval = ev at ec ef e75 ⊢; simp [execOp, go_sem, *])
        · refine stepC_plain rfl (by decide) ?_
          intro a' w' hC hs hd
          have e0 : a'.eval (.tmp 0) = .slice (some ⟨bb, o, none⟩) n c := hs.rest 0 rfl
          have ec : ∀ v, a'.eval (.const v) = v := fun _ => rfl
          have ef : ∀ g, a'.eval (.func g) = .func (.func g) #[] #[] := fun _ => rfl
          clear hd hs
          refine wpv (v := .slice (some ⟨bb, o, none⟩) n c) (w' := w') ?_ ⟨_, rfl, rfl, rfl⟩
          (generalize a'.eval = ev at ec ef e0 ⊢; simp [execOp, go_sem, *])
        · refine stepC_plain rfl (by decide) ?_
          intro a' w' hC hs hd
          have e8 : a'.eval (.tmp 8) = .int .i64 (a : Int) := hs.rest 8 rfl
          have ec : ∀ v, a'.eval (.const v) = v := fun _ => rfl
          have ef : ∀ g, a'.eval (.func g) = .func (.func g) #[] #[] := fun _ => rfl
          clear hd hs
          refine wpv (v := .int .i64 (a : Int)) (w' := w') ?_ ⟨_, rfl, rfl, rfl⟩
          (generalize a'.eval = ev at ec ef e8 ⊢; simp [execOp, go_sem, *])
        · refine stepC_plain rfl (by decide) ?_
          intro a' w' hC hs hd
          have e78 : a'.eval (.tmp 78) = .int .i64 (a : Int) := hd ⟨14, Ground.data⟩ (by simp) rfl
          have ec : ∀ v, a'.eval (.const v) = v := fun _ => rfl
          have ef : ∀ g, a'.eval (.func g) = .func (.func g) #[] #[] := fun _ => rfl
          clear hd hs
          refine wpv (v := .int .i64 (a2 : Int)) (w' := w') ?_ ⟨_, rfl, rfl, rfl⟩
          (generalize a'.eval = ev at ec ef e78 ⊢; simp [execOp, go_sem, *])
        · refine stepC_turn (q := 0) rfl rfl ?_
          intro a' w' u hC hs hd hu
          have e77 : a'.eval (.tmp 77) = .slice (some ⟨bb, o, none⟩) n c := hd ⟨13, Ground.data⟩ (by simp) rfl
          have e79 : a'.eval (.tmp 79) = .int .i64 (a2 : Int) := hd ⟨15, Ground.data⟩ (by simp) rfl
          have ec : ∀ v, a'.eval (.const v) = v := fun _ => rfl
          have ef : ∀ g, a'.eval (.func g) = .func (.func g) #[] #[] := fun _ => rfl
          clear hd hs hu
          refine wpc ?_ ((C2.out w' hC.1.gw).mono ?_)
          · (generalize a'.eval = ev at ec ef e77 e79 ⊢; simp [execOp, go_sem, *])
          rintro e w2 ⟨he, hg2⟩
          exact ⟨_, he, _, rfl, rfl, hC.1.later hg2, hC.2.later hg2⟩
        · refine stepC_plain rfl (by decide) ?_
          intro a' w' hC hs hd
          have e0 : a'.eval (.tmp 0) = .slice (some ⟨bb, o, none⟩) n c := hs.rest 0 rfl
          have ec : ∀ v, a'.eval (.const v) = v := fun _ => rfl
          have ef : ∀ g, a'.eval (.func g) = .func (.func g) #[] #[] := fun _ => rfl
          clear hd hs
          refine wpv (v := .slice (some ⟨bb, o, none⟩) n c) (w' := w') ?_ ⟨_, rfl, rfl, rfl⟩
          (generalize a'.eval = ev at ec ef e0 ⊢; simp [execOp, go_sem, *])
        · refine stepC_plain rfl (by decide) ?_
          intro a' w' hC hs hd
          have e8 : a'.eval (.tmp 8) = .int .i64 (a : Int) := hs.rest 8 rfl
          have ec : ∀ v, a'.eval (.const v) = v := fun _ => rfl
          have ef : ∀ g, a'.eval (.func g) = .func (.func g) #[] #[] := fun _ => rfl
          clear hd hs
          refine wpv (v := .int .i64 (a : Int)) (w' := w') ?_ ⟨_, rfl, rfl, rfl⟩
          (generalize a'.eval = ev at ec ef e8 ⊢; simp [execOp, go_sem, *])
        · refine stepC_plain rfl (by decide) ?_
          intro a' w' hC hs hd
          have e82 : a'.eval (.tmp 82) = .int .i64 (a : Int) := hd ⟨18, Ground.data⟩ (by simp) rfl
          have ec : ∀ v, a'.eval (.const v) = v := fun _ => rfl
          have ef : ∀ g, a'.eval (.func g) = .func (.func g) #[] #[] := fun _ => rfl
          clear hd hs
          refine wpv (v := .int .i64 (a4 : Int)) (w' := w') ?_ ⟨_, rfl, rfl, rfl⟩
          (generalize a'.eval = ev at ec ef e82 ⊢; simp [execOp, go_sem, *])
        · refine stepC_turn (q := 1) rfl rfl ?_
          intro a' w' u hC hs hd hu
          have e81 : a'.eval (.tmp 81) = .slice (some ⟨bb, o, none⟩) n c := hd ⟨17, Ground.data⟩ (by simp) rfl
          have e83 : a'.eval (.tmp 83) = .int .i64 (a4 : Int) := hd ⟨19, Ground.data⟩ (by simp) rfl
          have ec : ∀ v, a'.eval (.const v) = v := fun _ => rfl
          have ef : ∀ g, a'.eval (.func g) = .func (.func g) #[] #[] := fun _ => rfl
          clear hd hs hu
          refine wpc ?_ ((C4.out w' hC.1.gw).mono ?_)
          · (generalize a'.eval = ev at ec ef e81 e83 ⊢; simp [execOp, go_sem, *])
          rintro e w2 ⟨he, hg2⟩
          exact ⟨_, he, _, rfl, rfl, hC.1.later hg2, hC.2.later hg2⟩
        · refine stepC_turn (q := 2) rfl rfl ?_
          intro a' w' u hC hs hd hu
          have e70 : a'.eval (.tmp 70) = .int .i64 U := hd ⟨6, Ground.data⟩ (by simp) rfl
          have e76 : a'.eval (.tmp 76) = .int .i64 V := hd ⟨12, Ground.data⟩ (by simp) rfl
          have e80 : a'.eval (.tmp 80) = .int .i64 X2 := hd ⟨16, Ground.data⟩ (by simp) rfl
          have e84 : a'.eval (.tmp 84) = .int .i64 X4 := hd ⟨20, Ground.data⟩ (by simp) rfl
          have ec : ∀ v, a'.eval (.const v) = v := fun _ => rfl
          have ef : ∀ g, a'.eval (.func g) = .func (.func g) #[] #[] := fun _ => rfl
          clear hd hs hu
          refine wpv (v := .agg #[.int .i64 U, .int .i64 X2, .int .i64 X4, .int .i64 V]) (w' := w') ?_ ⟨_, rfl, rfl, hC.1, hC.2⟩
          (generalize a'.eval = ev at ec ef e70 e76 e80 e84 ⊢; simp [execOp, go_sem, *])
        · refine stepC_turn (q := 3) rfl rfl ?_
          intro a' w' u hC hs hd hu
          have e85 : a'.eval (.tmp 85) = .agg #[.int .i64 U, .int .i64 X2, .int .i64 X4, .int .i64 V] := hd ⟨21, Ground.data⟩ (by simp) rfl
          have ec : ∀ v, a'.eval (.const v) = v := fun _ => rfl
          have ef : ∀ g, a'.eval (.func g) = .func (.func g) #[] #[] := fun _ => rfl
          clear hd hs hu
          refine wpv (v := .slice (some ⟨w'.heap.size, 0, none⟩) 1 1) (w' := w'.alloc (.cells #[.int .i64 U, .int .i64 X2, .int .i64 X4, .int .i64 V] 37)) ?_ ⟨_, rfl, trivial, hC.1.later (Grow.alloc' _ _), hC.2.later (Grow.alloc' _ _), w'.heap.size, rfl, isNds_one w' ⟨U, X2, X4, V⟩⟩
          (generalize a'.eval = ev at ec ef e85 ⊢; simp [execOp, go_sem, *])
        · refine stepC_turn (q := 4) rfl rfl ?_
          intro a' w' u hC hs hd hu
          have e65 : a'.eval (.tmp 65) = .slice s1 k c1 := hd ⟨1, Ground.data⟩ (by simp) rfl
          have e86 : a'.eval (.tmp 86) = u := (hu 3 22 rfl rfl).symm
          have ec : ∀ v, a'.eval (.const v) = v := fun _ => rfl
          have ef : ∀ g, a'.eval (.func g) = .func (.func g) #[] #[] := fun _ => rfl
          clear hd hs hu
          obtain ⟨g, rfl, hIx⟩ := hC.2.2
          obtain ⟨s2, c2, w2, hrun, hown, hgb⟩ := run_ap_nd w' 24 P s1 k c1 (ndsAt d 3 k) [⟨U, X2, X4, V⟩] hC.2.1 _ 1 1 hIx (by omega) (by have := hC.1.gw.size; have := HPE.out; omega)
          refine wpv (v := .slice s2 (k + 1) c2) (w' := w2) ?_ ⟨_, rfl, trivial, hC.1.off hgb (by rw [← HPE.out]; exact hC.2.1.rim hC.1.b2 hC.1.b3), s2, c2, rfl, hown⟩
          unfold execOp; simp only [resolve, invoke, builtin, Sem.run_bind, Sem.run_pure, Result.andThen_ok, List.map_toArray, List.map_cons, List.map_nil, e65, e86, hrun]
        · refine stepC_plain rfl (by decide) ?_
          intro a' w' hC hs hd
          have e6 : a'.eval (.tmp 6) = .pointer (some ⟨P + 1, 0, none⟩) := hs.rest 6 rfl
          have ec : ∀ v, a'.eval (.const v) = v := fun _ => rfl
          have ef : ∀ g, a'.eval (.func g) = .func (.func g) #[] #[] := fun _ => rfl
          clear hd hs
          refine wpv (v := .pointer (some ⟨P + 1, 0, none⟩)) (w' := w') ?_ ⟨_, rfl, rfl, rfl⟩
          (generalize a'.eval = ev at ec ef e6 ⊢; simp [execOp, go_sem, *])
      · intro a' w' u hC hs hd hu
        have e88 : a'.eval (.tmp 88) = .pointer (some ⟨P + 1, 0, none⟩) := hd 24 (by omega)
        have e87 : a'.eval (.tmp 87) = u := (hu 23 rfl).symm
        have ec : ∀ v, a'.eval (.const v) = v := fun _ => rfl
        have ef : ∀ g, a'.eval (.func g) = .func (.func g) #[] #[] := fun _ => rfl
        obtain ⟨hS, s2, c2, rfl, hown⟩ := hC
        refine wp_rowN _ _ rfl (P + 1) ⟨s1, k, c1, none, 0, 0, [], []⟩ s2 (k + 1) c2 e88 e87 hS.b3 hS.x3 ?_
        intro w2 hb2 hbb2 hg2
        have HG2 := hide (hS.set hg2 hb2 hbb2 (by have := HPE.out; omega) (by omega))
        have HO2 := hide (hown.set hS.b3 hg2)
        clear hS hown hb2 hbb2 hg2 e87 e88 ec ef HG HO qa q1 q2 q4 p0 p1 p2 p3 cU cV CU CV C2 C4
        rw [frame_eq hs [false, false, false, false, false, false, false, false, false, false, false, false, false, false, false, false, false, false, false, false, false, false, false, false, false, false, false, false, false, false, false, false, false, false, false, false, false, false, false, false, false, false, false, false, false, false, false, false, false, false, false, false, false, false, false, false, false, false, false, false, false, false, false, false, true, true, true, true, true, true, true, true, true, true, true, true, true, true, true, true, true, true, true, true, true, true, true, true, true, false, false, false, false, false, false, false, false, false, false, false, false, false, false, false, false, false, false, false, false, false, false, false, false, false, false, false, false, false, false, false, false, false, false, false] (by kernel_rfl)]; simp only [mergeL]; clear hs hd hu; generalize a'.tmps = TT at *; try go_frame
        go_wp2_with fail
        go_roundw
        case rel => exact ⟨k + 1, s2, c2, by omega, by go_num, HG2.out, by rw [ndsAt_succ, HX.out]; exact HO2.out⟩
        case measure => simp [intOf]; omega
    · have hi2 : ¬ (k : Int) < (nx : Int) := by omega
      have hkn : k = nx := by omega
      rw [hkn] at HG HO
      obtain ⟨NN, hNN⟩ : ∃ N, N = ndsAt d 3 nx := ⟨_, rfl⟩
      rw [← hNN] at HO
      have HNN := hide hNN
      clear hNN hkn hlt HT1
      go_wp2_with fail
      go_loopw [9] (fun i wr => ∃ (j : Nat) (t : Option Addr) (q : Nat), j ≤ mx ∧ i = .int .i64 (j : Int) ∧ (Gt w P (P + 1) ⟨s1, nx, c1, t, j, q, [], []⟩ wr ∧ OwnN wr P s1 nx c1 NN) ∧ OwnE wr P t j q (edsAt d (4 + 6 * nx) j)) (fun i _ => mx - (intOf i).toNat)
      case atStart => exact ⟨0, none, 0, Nat.zero_le _, rfl, ⟨HG.out, HO.out⟩, OwnE.nil _ _⟩
      case round =>
        obtain ⟨k2, t2, q2, hk2, rfl, ⟨hG, hO⟩, hE⟩ := hrel
        generalize wr = wj at *
        have HG := hide hG
        have HO := hide hO
        have HE := hide hE
        have hm5 := HM5.out
        clear hG hO hE
        by_cases hlt : k2 < mx
        · have hi3 : (k2 : Int) < (mx : Int) := by omega
          have hnn := HH5.out
          have hbig := HNB.out
          obtain ⟨a, ha⟩ : ∃ a, 4 + 6 * nx + 3 * k2 = a := ⟨_, rfl⟩
          obtain ⟨a1, ha1⟩ : ∃ a1, a + 1 = a1 := ⟨_, rfl⟩
          obtain ⟨a2, ha2⟩ : ∃ a2, a + 2 = a2 := ⟨_, rfl⟩
          have qa : (4 : Int) + 6 * (nx : Int) + 3 * (k2 : Int) = (a : Int) := by omega
          have q1 : IntKind.i64.wrap ((a : Int) + 1) = (a1 : Int) := by rw [IntWalk.i64_in _ (by omega)]; omega
          have qq2 : IntKind.i64.wrap ((a : Int) + 2) = (a2 : Int) := by rw [IntWalk.i64_in _ (by omega)]; omega
          have p0 : (0 : Int) ≤ (a : Int) := by omega
          have p1 : (a : Int) < (n : Int) := by omega
          have p2 : (0 : Int) ≤ (a1 : Int) := by omega
          have p3 : (a1 : Int) < (n : Int) := by omega
          have p4 : (0 : Int) ≤ (a2 : Int) := by omega
          have p5 : (a2 : Int) < (n : Int) := by omega
          obtain ⟨U, hU⟩ : ∃ U : Int, U = ((atB d a).toNat : Int) := ⟨_, rfl⟩
          obtain ⟨V, hV⟩ : ∃ V : Int, V = ((atB d a1).toNat : Int) := ⟨_, rfl⟩
          obtain ⟨Y, hY⟩ : ∃ Y : Int, Y = ((atB d a2).toNat : Int) := ⟨_, rfl⟩
          have hUb := toNat_u8 (atB d a)
          have hVb := toNat_u8 (atB d a1)
          have hYb := toNat_u8 (atB d a2)
          rw [← hU] at hUb
          rw [← hV] at hVb
          rw [← hY] at hYb
          have cU : IntKind.i64.wrap U = U := IntWalk.i64_in _ (by omega)
          have cV : IntKind.i64.wrap V = V := IntWalk.i64_in _ (by omega)
          have cY : IntKind.i64.wrap Y = Y := IntWalk.i64_in _ (by omega)
          have CU : Hid (∀ w', Grow w w' → w'.cell? ⟨bb, o + a, none⟩ = some (.int .u8 U)) := hide (fun w' h => by
            obtain ⟨b', o', e, y⟩ := (HI.out.later h).at a (by omega)
            obtain ⟨rfl, rfl⟩ : bb = b' ∧ o = o' := by simpa using e
            rw [hU]; exact y)
          have CV : Hid (∀ w', Grow w w' → w'.cell? ⟨bb, o + a1, none⟩ = some (.int .u8 V)) := hide (fun w' h => by
            obtain ⟨b', o', e, y⟩ := (HI.out.later h).at a1 (by omega)
            obtain ⟨rfl, rfl⟩ : bb = b' ∧ o = o' := by simpa using e
            rw [hV]; exact y)
          have CY : Hid (∀ w', Grow w w' → w'.cell? ⟨bb, o + a2, none⟩ = some (.int .u8 Y)) := hide (fun w' h => by
            obtain ⟨b', o', e, y⟩ := (HI.out.later h).at a2 (by omega)
            obtain ⟨rfl, rfl⟩ : bb = b' ∧ o = o' := by simpa using e
            rw [hY]; exact y)
          have HX : Hid (edAt d (4 + 6 * nx + 3 * k2) = ⟨U, V, Y⟩) := hide (by
            rw [ha, hU, hV, hY, ← ha1, ← ha2]
            rfl)
          clear hnn hbig ha ha1 ha2 hU hV hY hUb hVb hYb
          go_wp2_with fail
          let FF : Nat → Value → Prop := fun i vF => match i with | 0 => vF = .pointer (some ⟨P + 1, 1, none⟩) | 1 => vF = .slice t2 k2 q2 | 2 => vF = .slice (some ⟨bb, o, none⟩) n c | 3 => vF = .int .i64 (a : Int) | 4 => vF = .pointer (some ⟨bb, o + a, none⟩) | 5 => vF = .int .u8 U | 6 => vF = .int .i64 U | 7 => vF = .slice (some ⟨bb, o, none⟩) n c | 8 => vF = .int .i64 (a : Int) | 9 => vF = .int .i64 (a1 : Int) | 10 => vF = .pointer (some ⟨bb, o + a1, none⟩) | 11 => vF = .int .u8 V | 12 => vF = .int .i64 V | 13 => vF = .slice (some ⟨bb, o, none⟩) n c | 14 => vF = .int .i64 (a : Int) | 15 => vF = .int .i64 (a2 : Int) | 16 => vF = .pointer (some ⟨bb, o + a2, none⟩) | 17 => vF = .int .u8 Y | 18 => vF = .int .i64 Y | 19 => vF = .agg #[.int .i64 U, .int .i64 V, .int .i64 Y] | 20 => True | 21 => True | 22 => vF = .pointer (some ⟨P + 1, 1, none⟩) | _ => True
          let CC : Nat → Value → World → Prop := fun p u w' => match p with | 0 => (Gt w P (P + 1) ⟨s1, nx, c1, t2, k2, q2, [], []⟩ w' ∧ OwnN w' P s1 nx c1 NN) ∧ OwnE w' P t2 k2 q2 (edsAt d (4 + 6 * nx) k2) | 1 => (Gt w P (P + 1) ⟨s1, nx, c1, t2, k2, q2, [], []⟩ w' ∧ OwnN w' P s1 nx c1 NN) ∧ OwnE w' P t2 k2 q2 (edsAt d (4 + 6 * nx) k2) ∧ ∃ g, u = .slice (some ⟨g, 0, none⟩) 1 1 ∧ IsEds w' (some ⟨g, 0, none⟩) 1 1 [⟨U, V, Y⟩] | _ => (Gt w P (P + 1) ⟨s1, nx, c1, t2, k2, q2, [], []⟩ w' ∧ OwnN w' P s1 nx c1 NN) ∧ ∃ s2 c2, u = .slice s2 (k2 + 1) c2 ∧ OwnE w' P s2 (k2 + 1) c2 (edsAt d (4 + 6 * nx) k2 ++ [⟨U, V, Y⟩])
          refine wp_region_endC FF CC [20, 21] 23 _ rfl rfl rfl (by kernel_rfl) (by kernel_rfl) (by kernel_rfl) (fun w' hg _ => ⟨⟨HG.out.later hg, HO.out.later hg⟩, HE.out.later hg⟩) ?_ ?_
          · refine ⟨?_, ?_, ?_, ?_, ?_, ?_, ?_, ?_, ?_, ?_, ?_, ?_, ?_, ?_, ?_, ?_, ?_, ?_, ?_, ?_, ?_, ?_, ?_, trivial⟩
            · refine stepC_plain rfl (by decide) ?_
              intro a' w' hC hs hd
              have e6 : a'.eval (.tmp 6) = .pointer (some ⟨P + 1, 0, none⟩) := hs.rest 6 rfl
              have ec : ∀ v, a'.eval (.const v) = v := fun _ => rfl
              have ef : ∀ g, a'.eval (.func g) = .func (.func g) #[] #[] := fun _ => rfl
              clear hd hs
              refine wpv (v := .pointer (some ⟨P + 1, 1, none⟩)) (w' := w') ?_ ⟨_, rfl, rfl, rfl⟩
              (generalize a'.eval = ev at ec ef e6 ⊢; simp [execOp, go_sem, *])
            · refine stepC_plain rfl (by decide) ?_
              intro a' w' hC hs hd
              have e100 : a'.eval (.tmp 100) = .pointer (some ⟨P + 1, 1, none⟩) := hd ⟨0, Ground.data⟩ (by simp) rfl
              have ec : ∀ v, a'.eval (.const v) = v := fun _ => rfl
              have ef : ∀ g, a'.eval (.func g) = .func (.func g) #[] #[] := fun _ => rfl
              obtain ⟨x0, x1⟩ : BoxG w' (P + 1) ⟨s1, nx, c1, t2, k2, q2, [], []⟩ := by obtain ⟨p, u, h⟩ := hC; match p with | 0 => exact h.1.1.x3 | 1 => exact h.1.1.x3 | p + 2 => exact h.1.1.x3
              clear hd hs
              refine wpv (v := .slice t2 k2 q2) (w' := w') ?_ ⟨_, rfl, rfl, rfl⟩
              (generalize a'.eval = ev at ec ef e100 ⊢; simp [execOp, go_sem, *])
            · refine stepC_plain rfl (by decide) ?_
              intro a' w' hC hs hd
              have e0 : a'.eval (.tmp 0) = .slice (some ⟨bb, o, none⟩) n c := hs.rest 0 rfl
              have ec : ∀ v, a'.eval (.const v) = v := fun _ => rfl
              have ef : ∀ g, a'.eval (.func g) = .func (.func g) #[] #[] := fun _ => rfl
              clear hd hs
              refine wpv (v := .slice (some ⟨bb, o, none⟩) n c) (w' := w') ?_ ⟨_, rfl, rfl, rfl⟩
              (generalize a'.eval = ev at ec ef e0 ⊢; simp [execOp, go_sem, *])
            · refine stepC_plain rfl (by decide) ?_
              intro a' w' hC hs hd
              have e10 : a'.eval (.tmp 10) = .int .i64 (a : Int) := hs.rest 10 rfl
              have ec : ∀ v, a'.eval (.const v) = v := fun _ => rfl
              have ef : ∀ g, a'.eval (.func g) = .func (.func g) #[] #[] := fun _ => rfl
              clear hd hs
              refine wpv (v := .int .i64 (a : Int)) (w' := w') ?_ ⟨_, rfl, rfl, rfl⟩
              (generalize a'.eval = ev at ec ef e10 ⊢; simp [execOp, go_sem, *])
            · refine stepC_plain rfl (by decide) ?_
              intro a' w' hC hs hd
              have e102 : a'.eval (.tmp 102) = .slice (some ⟨bb, o, none⟩) n c := hd ⟨2, Ground.data⟩ (by simp) rfl
              have e103 : a'.eval (.tmp 103) = .int .i64 (a : Int) := hd ⟨3, Ground.data⟩ (by simp) rfl
              have ec : ∀ v, a'.eval (.const v) = v := fun _ => rfl
              have ef : ∀ g, a'.eval (.func g) = .func (.func g) #[] #[] := fun _ => rfl
              clear hd hs
              refine wpv (v := .pointer (some ⟨bb, o + a, none⟩)) (w' := w') ?_ ⟨_, rfl, rfl, rfl⟩
              (generalize a'.eval = ev at ec ef e102 e103 ⊢; simp [execOp, go_sem, *])
            · refine stepC_plain rfl (by decide) ?_
              intro a' w' hC hs hd
              have e104 : a'.eval (.tmp 104) = .pointer (some ⟨bb, o + a, none⟩) := hd ⟨4, Ground.data⟩ (by simp) rfl
              have ec : ∀ v, a'.eval (.const v) = v := fun _ => rfl
              have ef : ∀ g, a'.eval (.func g) = .func (.func g) #[] #[] := fun _ => rfl
              have y := CU.out w' (by obtain ⟨p, u, h⟩ := hC; match p with | 0 => exact h.1.1.gw | 1 => exact h.1.1.gw | p + 2 => exact h.1.1.gw)
              clear hd hs
              refine wpv (v := .int .u8 U) (w' := w') ?_ ⟨_, rfl, rfl, rfl⟩
              (generalize a'.eval = ev at ec ef e104 ⊢; simp [execOp, go_sem, *])
            · refine stepC_plain rfl (by decide) ?_
              intro a' w' hC hs hd
              have e105 : a'.eval (.tmp 105) = .int .u8 U := hd ⟨5, Ground.data⟩ (by simp) rfl
              have ec : ∀ v, a'.eval (.const v) = v := fun _ => rfl
              have ef : ∀ g, a'.eval (.func g) = .func (.func g) #[] #[] := fun _ => rfl
              clear hd hs
              refine wpv (v := .int .i64 U) (w' := w') ?_ ⟨_, rfl, rfl, rfl⟩
              (generalize a'.eval = ev at ec ef e105 ⊢; simp [execOp, go_sem, *])
            · refine stepC_plain rfl (by decide) ?_
              intro a' w' hC hs hd
              have e0 : a'.eval (.tmp 0) = .slice (some ⟨bb, o, none⟩) n c := hs.rest 0 rfl
              have ec : ∀ v, a'.eval (.const v) = v := fun _ => rfl
              have ef : ∀ g, a'.eval (.func g) = .func (.func g) #[] #[] := fun _ => rfl
              clear hd hs
              refine wpv (v := .slice (some ⟨bb, o, none⟩) n c) (w' := w') ?_ ⟨_, rfl, rfl, rfl⟩
              (generalize a'.eval = ev at ec ef e0 ⊢; simp [execOp, go_sem, *])
            · refine stepC_plain rfl (by decide) ?_
              intro a' w' hC hs hd
              have e10 : a'.eval (.tmp 10) = .int .i64 (a : Int) := hs.rest 10 rfl
              have ec : ∀ v, a'.eval (.const v) = v := fun _ => rfl
              have ef : ∀ g, a'.eval (.func g) = .func (.func g) #[] #[] := fun _ => rfl
              clear hd hs
              refine wpv (v := .int .i64 (a : Int)) (w' := w') ?_ ⟨_, rfl, rfl, rfl⟩
              (generalize a'.eval = ev at ec ef e10 ⊢; simp [execOp, go_sem, *])
            · refine stepC_plain rfl (by decide) ?_
              intro a' w' hC hs hd
              have e108 : a'.eval (.tmp 108) = .int .i64 (a : Int) := hd ⟨8, Ground.data⟩ (by simp) rfl
              have ec : ∀ v, a'.eval (.const v) = v := fun _ => rfl
              have ef : ∀ g, a'.eval (.func g) = .func (.func g) #[] #[] := fun _ => rfl
              clear hd hs
              refine wpv (v := .int .i64 (a1 : Int)) (w' := w') ?_ ⟨_, rfl, rfl, rfl⟩
              (generalize a'.eval = ev at ec ef e108 ⊢; simp [execOp, go_sem, *])
            · refine stepC_plain rfl (by decide) ?_
              intro a' w' hC hs hd
              have e107 : a'.eval (.tmp 107) = .slice (some ⟨bb, o, none⟩) n c := hd ⟨7, Ground.data⟩ (by simp) rfl
              have e109 : a'.eval (.tmp 109) = .int .i64 (a1 : Int) := hd ⟨9, Ground.data⟩ (by simp) rfl
              have ec : ∀ v, a'.eval (.const v) = v := fun _ => rfl
              have ef : ∀ g, a'.eval (.func g) = .func (.func g) #[] #[] := fun _ => rfl
              clear hd hs
              refine wpv (v := .pointer (some ⟨bb, o + a1, none⟩)) (w' := w') ?_ ⟨_, rfl, rfl, rfl⟩
              (generalize a'.eval = ev at ec ef e107 e109 ⊢; simp [execOp, go_sem, *])
            · refine stepC_plain rfl (by decide) ?_
              intro a' w' hC hs hd
              have e110 : a'.eval (.tmp 110) = .pointer (some ⟨bb, o + a1, none⟩) := hd ⟨10, Ground.data⟩ (by simp) rfl
              have ec : ∀ v, a'.eval (.const v) = v := fun _ => rfl
              have ef : ∀ g, a'.eval (.func g) = .func (.func g) #[] #[] := fun _ => rfl
              have y := CV.out w' (by obtain ⟨p, u, h⟩ := hC; match p with | 0 => exact h.1.1.gw | 1 => exact h.1.1.gw | p + 2 => exact h.1.1.gw)
              clear hd hs
              refine wpv (v := .int .u8 V) (w' := w') ?_ ⟨_, rfl, rfl, rfl⟩
              (generalize a'.eval = ev at ec ef e110 ⊢; simp [execOp, go_sem, *])
            · refine stepC_plain rfl (by decide) ?_
              intro a' w' hC hs hd
              have e111 : a'.eval (.tmp 111) = .int .u8 V := hd ⟨11, Ground.data⟩ (by simp) rfl
              have ec : ∀ v, a'.eval (.const v) = v := fun _ => rfl
              have ef : ∀ g, a'.eval (.func g) = .func (.func g) #[] #[] := fun _ => rfl
              clear hd hs
              refine wpv (v := .int .i64 V) (w' := w') ?_ ⟨_, rfl, rfl, rfl⟩
              (generalize a'.eval = ev at ec ef e111 ⊢; simp [execOp, go_sem, *])
            · refine stepC_plain rfl (by decide) ?_
              intro a' w' hC hs hd
              have e0 : a'.eval (.tmp 0) = .slice (some ⟨bb, o, none⟩) n c := hs.rest 0 rfl
              have ec : ∀ v, a'.eval (.const v) = v := fun _ => rfl
              have ef : ∀ g, a'.eval (.func g) = .func (.func g) #[] #[] := fun _ => rfl
              clear hd hs
              refine wpv (v := .slice (some ⟨bb, o, none⟩) n c) (w' := w') ?_ ⟨_, rfl, rfl, rfl⟩
              (generalize a'.eval = ev at ec ef e0 ⊢; simp [execOp, go_sem, *])
            · refine stepC_plain rfl (by decide) ?_
              intro a' w' hC hs hd
              have e10 : a'.eval (.tmp 10) = .int .i64 (a : Int) := hs.rest 10 rfl
              have ec : ∀ v, a'.eval (.const v) = v := fun _ => rfl
              have ef : ∀ g, a'.eval (.func g) = .func (.func g) #[] #[] := fun _ => rfl
              clear hd hs
              refine wpv (v := .int .i64 (a : Int)) (w' := w') ?_ ⟨_, rfl, rfl, rfl⟩
              (generalize a'.eval = ev at ec ef e10 ⊢; simp [execOp, go_sem, *])
            · refine stepC_plain rfl (by decide) ?_
              intro a' w' hC hs hd
              have e114 : a'.eval (.tmp 114) = .int .i64 (a : Int) := hd ⟨14, Ground.data⟩ (by simp) rfl
              have ec : ∀ v, a'.eval (.const v) = v := fun _ => rfl
              have ef : ∀ g, a'.eval (.func g) = .func (.func g) #[] #[] := fun _ => rfl
              clear hd hs
              refine wpv (v := .int .i64 (a2 : Int)) (w' := w') ?_ ⟨_, rfl, rfl, rfl⟩
              (generalize a'.eval = ev at ec ef e114 ⊢; simp [execOp, go_sem, *])
            · refine stepC_plain rfl (by decide) ?_
              intro a' w' hC hs hd
              have e113 : a'.eval (.tmp 113) = .slice (some ⟨bb, o, none⟩) n c := hd ⟨13, Ground.data⟩ (by simp) rfl
              have e115 : a'.eval (.tmp 115) = .int .i64 (a2 : Int) := hd ⟨15, Ground.data⟩ (by simp) rfl
              have ec : ∀ v, a'.eval (.const v) = v := fun _ => rfl
              have ef : ∀ g, a'.eval (.func g) = .func (.func g) #[] #[] := fun _ => rfl
              clear hd hs
              refine wpv (v := .pointer (some ⟨bb, o + a2, none⟩)) (w' := w') ?_ ⟨_, rfl, rfl, rfl⟩
              (generalize a'.eval = ev at ec ef e113 e115 ⊢; simp [execOp, go_sem, *])
            · refine stepC_plain rfl (by decide) ?_
              intro a' w' hC hs hd
              have e116 : a'.eval (.tmp 116) = .pointer (some ⟨bb, o + a2, none⟩) := hd ⟨16, Ground.data⟩ (by simp) rfl
              have ec : ∀ v, a'.eval (.const v) = v := fun _ => rfl
              have ef : ∀ g, a'.eval (.func g) = .func (.func g) #[] #[] := fun _ => rfl
              have y := CY.out w' (by obtain ⟨p, u, h⟩ := hC; match p with | 0 => exact h.1.1.gw | 1 => exact h.1.1.gw | p + 2 => exact h.1.1.gw)
              clear hd hs
              refine wpv (v := .int .u8 Y) (w' := w') ?_ ⟨_, rfl, rfl, rfl⟩
              (generalize a'.eval = ev at ec ef e116 ⊢; simp [execOp, go_sem, *])
            · refine stepC_plain rfl (by decide) ?_
              intro a' w' hC hs hd
              have e117 : a'.eval (.tmp 117) = .int .u8 Y := hd ⟨17, Ground.data⟩ (by simp) rfl
              have ec : ∀ v, a'.eval (.const v) = v := fun _ => rfl
              have ef : ∀ g, a'.eval (.func g) = .func (.func g) #[] #[] := fun _ => rfl
              clear hd hs
              refine wpv (v := .int .i64 Y) (w' := w') ?_ ⟨_, rfl, rfl, rfl⟩
              (generalize a'.eval = ev at ec ef e117 ⊢; simp [execOp, go_sem, *])
            · refine stepC_plain rfl (by decide) ?_
              intro a' w' hC hs hd
              have e106 : a'.eval (.tmp 106) = .int .i64 U := hd ⟨6, Ground.data⟩ (by simp) rfl
              have e112 : a'.eval (.tmp 112) = .int .i64 V := hd ⟨12, Ground.data⟩ (by simp) rfl
              have e118 : a'.eval (.tmp 118) = .int .i64 Y := hd ⟨18, Ground.data⟩ (by simp) rfl
              have ec : ∀ v, a'.eval (.const v) = v := fun _ => rfl
              have ef : ∀ g, a'.eval (.func g) = .func (.func g) #[] #[] := fun _ => rfl
              clear hd hs
              refine wpv (v := .agg #[.int .i64 U, .int .i64 V, .int .i64 Y]) (w' := w') ?_ ⟨_, rfl, rfl, rfl⟩
              (generalize a'.eval = ev at ec ef e106 e112 e118 ⊢; simp [execOp, go_sem, *])
            · refine stepC_turn (q := 0) rfl rfl ?_
              intro a' w' u hC hs hd hu
              have e119 : a'.eval (.tmp 119) = .agg #[.int .i64 U, .int .i64 V, .int .i64 Y] := hd ⟨19, Ground.data⟩ (by simp) rfl
              have ec : ∀ v, a'.eval (.const v) = v := fun _ => rfl
              have ef : ∀ g, a'.eval (.func g) = .func (.func g) #[] #[] := fun _ => rfl
              clear hd hs hu
              refine wpv (v := .slice (some ⟨w'.heap.size, 0, none⟩) 1 1) (w' := w'.alloc (.cells #[.int .i64 U, .int .i64 V, .int .i64 Y] 39)) ?_ ⟨_, rfl, trivial, ⟨hC.1.1.later (Grow.alloc' _ _), hC.1.2.later (Grow.alloc' _ _)⟩, hC.2.later (Grow.alloc' _ _), w'.heap.size, rfl, isEds_one w' ⟨U, V, Y⟩⟩
              (generalize a'.eval = ev at ec ef e119 ⊢; simp [execOp, go_sem, *])
            · refine stepC_turn (q := 1) rfl rfl ?_
              intro a' w' u hC hs hd hu
              have e101 : a'.eval (.tmp 101) = .slice t2 k2 q2 := hd ⟨1, Ground.data⟩ (by simp) rfl
              have e120 : a'.eval (.tmp 120) = u := (hu 0 20 rfl rfl).symm
              have ec : ∀ v, a'.eval (.const v) = v := fun _ => rfl
              have ef : ∀ g, a'.eval (.func g) = .func (.func g) #[] #[] := fun _ => rfl
              clear hd hs hu
              obtain ⟨g, rfl, hIx⟩ := hC.2.2
              obtain ⟨s2, c2, w2, hrun, hown, hgb⟩ := run_ap_ed w' 25 P t2 k2 q2 (edsAt d (4 + 6 * nx) k2) [⟨U, V, Y⟩] hC.2.1 _ 1 1 hIx (by omega) (by have := hC.1.1.gw.size; have := HPE.out; omega)
              refine wpv (v := .slice s2 (k2 + 1) c2) (w' := w2) ?_ ⟨_, rfl, trivial, ⟨hC.1.1.off hgb (by rw [← HPE.out]; exact hC.2.1.rim hC.1.1.b2 hC.1.1.b3), hC.1.2.else hC.2.1 hgb⟩, s2, c2, rfl, hown⟩
              unfold execOp; simp only [resolve, invoke, builtin, Sem.run_bind, Sem.run_pure, Result.andThen_ok, List.map_toArray, List.map_cons, List.map_nil, e101, e120, hrun]
            · refine stepC_plain rfl (by decide) ?_
              intro a' w' hC hs hd
              have e6 : a'.eval (.tmp 6) = .pointer (some ⟨P + 1, 0, none⟩) := hs.rest 6 rfl
              have ec : ∀ v, a'.eval (.const v) = v := fun _ => rfl
              have ef : ∀ g, a'.eval (.func g) = .func (.func g) #[] #[] := fun _ => rfl
              clear hd hs
              refine wpv (v := .pointer (some ⟨P + 1, 1, none⟩)) (w' := w') ?_ ⟨_, rfl, rfl, rfl⟩
              (generalize a'.eval = ev at ec ef e6 ⊢; simp [execOp, go_sem, *])
          · intro a' w' u hC hs hd hu
            have e122 : a'.eval (.tmp 122) = .pointer (some ⟨P + 1, 1, none⟩) := hd 22 (by omega)
            have e121 : a'.eval (.tmp 121) = u := (hu 21 rfl).symm
            have ec : ∀ v, a'.eval (.const v) = v := fun _ => rfl
            have ef : ∀ g, a'.eval (.func g) = .func (.func g) #[] #[] := fun _ => rfl
            obtain ⟨⟨hS, hNO⟩, s2, c2, rfl, hown⟩ := hC
            refine wp_rowE _ _ rfl (P + 1) ⟨s1, nx, c1, t2, k2, q2, [], []⟩ s2 (k2 + 1) c2 e122 e121 hS.b3 hS.x3 ?_
            intro w2 hb2 hbb2 hg2
            have HG2 := hide (hS.set hg2 hb2 hbb2 (by have := HPE.out; omega) (by omega))
            have HO2 := hide (hNO.set hS.b3 hg2)
            have HE2 := hide (hown.set hS.b3 hg2)
            clear hS hNO hown hb2 hbb2 hg2 e121 e122 ec ef HG HO HE qa q1 qq2 p0 p1 p2 p3 p4 p5 cU cV cY CU CV CY
            rw [frame_eq hs [false, false, false, false, false, false, false, false, false, false, false, false, false, false, false, false, false, false, false, false, false, false, false, false, false, false, false, false, false, false, false, false, false, false, false, false, false, false, false, false, false, false, false, false, false, false, false, false, false, false, false, false, false, false, false, false, false, false, false, false, false, false, false, false, false, false, false, false, false, false, false, false, false, false, false, false, false, false, false, false, false, false, false, false, false, false, false, false, false, false, false, false, false, false, false, false, false, false, false, false, true, true, true, true, true, true, true, true, true, true, true, true, true, true, true, true, true, true, true, true, true, true, true, false] (by kernel_rfl)]; simp only [mergeL]; clear hs hd hu; generalize a'.tmps = TT at *; try go_frame
            go_wp2_with fail
            go_roundw
            case rel => exact ⟨k2 + 1, s2, c2, by omega, by go_num, ⟨HG2.out, HO2.out⟩, by rw [edsAt_succ, HX.out]; exact HE2.out⟩
            case measure => simp [intOf]; omega
        · have hi3 : ¬ (k2 : Int) < (mx : Int) := by omega
          have hjm : k2 = mx := by omega
          rw [hjm] at HG HE
          obtain ⟨x0, x1⟩ := HG.out.x3
          dsimp only at x0 x1
          rw [← hjm] at x1
          have HJ := hide hjm
          clear hlt hm5 hjm
          go_wp2_with (refine wpList_putG2 rfl _ _ rfl P ⟨s1, nx, c1, t2, k2, q2, [], []⟩ rfl rfl HG.out.b2 w HG.out.gw HPW.out ?_)
          intro w5 hg5 hb5 hbb5 hk5 hz5
          have hby : wj.grownBy w5 (some P) := ⟨hg5.os.trans HG.out.gw.os.symm, hg5.tape.trans HG.out.gw.tape.symm, hg5.output.trans HG.out.gw.output.symm, by omega, fun k _ hk => hk5 k (fun e => hk (by rw [e]))⟩
          have HN5' : Hid (OwnN w5 w.heap.size s1 nx c1 (tkN d)) := hide (by
            have h1 := HO.out.set HG.out.b2 hby
            rw [HPE.out] at h1
            rw [HNN.out] at h1
            unfold tkN
            rw [HNX.out]
            exact h1)
          have HE5' : Hid (OwnE w5 w.heap.size t2 mx q2 (tkE d)) := hide (by
            have h1 := HE.out.set HG.out.b2 hby
            rw [HPE.out] at h1
            unfold tkE
            rw [HNX.out, HMX.out]
            exact h1)
          have HG5 := hide hg5
          obtain ⟨b0, b1⟩ := hb5
          dsimp only at b0 b1
          rw [HJ.out] at b1
          clear hg5 hbb5 hk5 hz5 hby x0 x1
          go_wp2_with fail
          exact bodyPost_ret (v := .tuple #[.agg #[.slice s1 nx c1, .slice t2 mx q2], .int .i64 0]) (by simp [results, Tryz.results7, go_sem, b0, b1]) rfl ⟨HG5.out, .inl ⟨HF.out, s1, c1, t2, q2, by rw [HNX.out, HMX.out], by rw [HNX.out]; exact HN5'.out, by rw [HMX.out]; exact HE5'.out⟩⟩
theorem rtake_any (s : Option Addr) (n c : Nat) (d : List UInt8) (w : World) (hn : n ≤ 100000) (hI : IsBy w s n c d) : Calls Tryz.prog 7 #[.slice s n c] w fun e w' => Taken d w e w' := by
  by_cases h1 : n < 4
  · exact rtake_1 s n c d w hn hI h1
  by_cases h2 : atB d 0 = 77
  rotate_left
  · exact rtake_2 s n c d w hn hI h1 h2
  by_cases h3 : atB d 1 = 71
  rotate_left
  · exact rtake_3 s n c d w hn hI h1 h2 h3
  by_cases h4 : n < 4 + 6 * nn d
  · exact rtake_4 s n c d w hn hI h1 h2 h3 h4
  by_cases h5 : n = 4 + 6 * nn d + 3 * ne d
  · exact rtake_6 s n c d w hn hI h1 h2 h3 h4 h5
  · exact rtake_5 s n c d w hn hI h1 h2 h3 h4 h5
end Go.Proofs.YtjebipagehhkjaaGreat
