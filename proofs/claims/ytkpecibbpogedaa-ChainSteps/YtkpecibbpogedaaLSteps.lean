/-
  What the law ChainSteps does: for every row of times it returns true, and what was there stays as it was.
-/
import Derived.Test.YtkpecibbpogedaaHd
import Derived.Test.YtkpecibbpogedaaEqu
import Derived.Test.YtkpecibbpogedaaRAt
import Derived.Test.YtkpecibbpogedaaCut
namespace Go.Proofs.Ytkpecibbpogedaa
set_option maxRecDepth 100000
open Go.RowKit
attribute [local go_sem ↓] run_minI run_headT
set_option linter.unusedVariables false

theorem moreT_at (s : Option Addr) (n cap : Nat) (d : List Tm) (x : Tm) {p : Bool} (h : (kinT.may x && !coverB kinT d x) = p) (w : World) (hbig : n ≤ 90000) (hd : IsTms w s n cap d) :
    Calls Try.prog 11 #[.slice s n cap, .agg #[.int .i64 x.e, .int .i64 x.d, .int .i64 x.x, .int .i64 x.y, .int .i64 x.z]] w fun e w' => ∃ s' n' c', e = .returned (.tuple #[.slice s' n' c', .bool p]) ∧ Grow w w' ∧ IsTms w' s' n' c' (chainO kinT (d ++ [x])) := by
  refine (moreT_any s n cap d x w hbig hd).mono ?_
  rintro e w' ⟨v, rfl, hg, s', n', c', rfl, h1⟩
  rw [h]
  exact ⟨s', n', c', rfl, hg, h1⟩

set_option maxHeartbeats 2000000 in
theorem ChainSteps_any (s : Option Addr) (n cap : Nat) (d : List Tm) (w : World) (hd : IsTms w s n cap d) :
    Calls Try.prog 7 #[.slice s n cap] w fun e w' => e = .returned (.bool true) ∧ Grow w w' := by
  have HD := hide hd
  clear hd
  go_enter Try.func7, Try.ntmps7
  go_wp2_with fail
  refine (shown_any _).mono ?_
  rintro e w1 ⟨rfl, hb⟩
  have G1 := hide hb
  have C1 := hide (fewT_any s n cap d w1 (HD.out.later hb))
  clear hb
  go_wp2_with fail
  refine (C1.out).mono ?_
  rintro e w2 ⟨v, rfl, hb, s1, n1, c1, rfl, hI⟩
  obtain ⟨D, hD⟩ : ∃ D, D = d.take 60 := ⟨_, rfl⟩
  rw [← hD] at hI
  have hn1 : n1 ≤ 60 := by rw [← hI.1, hD, List.length_take]; omega
  have hn2 : n1 ≤ c1 := hI.2.1
  have G2 := hide (Grow.trans' G1.out hb)
  have HI := hide hI
  clear hb hI hD C1 HD G1
  go_wp2_with fail
  have G3 : Hid (Grow w (w2.alloc (.cells #[] 25))) := hide (Grow.trans' G2.out (Grow.alloc' _ _))
  have H3 : Hid (IsTms (w2.alloc (.cells #[] 25)) s1 n1 c1 D) := hide (HI.out.later (Grow.alloc' _ _))
  clear G2 HI
  have hs0 : w2.heap.size = (w2.alloc (.cells #[] 25)).heap.size - 1 := by simp
  generalize w2.alloc (.cells #[] 25) = w3 at *
  generalize w2.heap.size = B at *
  clear hs0
  go_loopw [4, 5] (fun v i wr => ∃ (k : Nat) (s' : Option Addr) (m cap' : Nat), k ≤ n1 ∧ k ≤ 40 ∧ v = .slice s' m cap' ∧ i = .int .i64 k ∧ Grow w3 wr ∧ IsTms wr s' m cap' (chainO kinT (D.take k))) (fun _ i _ => 40 - (intOf i).toNat)
  case atStart => exact ⟨0, _, 0, 0, Nat.zero_le _, Nat.zero_le _, rfl, rfl, Grow.rfl' _, by rw [List.take_zero, chainO_nil]; exact ⟨rfl, Nat.le_refl _, .inl rfl⟩⟩
  case round =>
    obtain ⟨k, s', m, cap', hk, hk40, rfl, rfl, hg, hC⟩ := hrel
    have HG := hide hg
    have HC := hide hC
    have hm : m ≤ 40 := by
      have h1 := hC.1
      have h2 := chainO_len kinT (D.take k)
      rw [List.length_take] at h2
      omega
    clear hC
    by_cases hlt : k < n1 ∧ k < 40
    · obtain ⟨hlt, hlt40⟩ := hlt
      have hkd : k < D.length := by rw [H3.out.1]; exact hlt
      have hne : ¬ D = [] := fun h => by rw [h] at hkd; simp at hkd
      obtain ⟨b, o, rfl, hr1⟩ := H3.out.2.2.resolve_left hne
      obtain ⟨p0, p1, p2, p3, p4⟩ := (hr1.later hg).at k hkd
      obtain ⟨y, hy⟩ : ∃ y, y = D[k] := ⟨_, rfl⟩
      have HS := hide (chainO_take kinT D k hkd)
      have HT := hide (chainO_stays kinT (D.take k) D[k])
      rw [← hy] at p0 p1 p2 p3 p4 HS HT
      have hi1 : (0 : Int) ≤ (k : Int) := by omega
      have hi2 : (k : Int) < (n1 : Int) := by omega
      have hi3 : (k : Int) < 40 := by omega
      have hbl : b < wr.heap.size := World.block_lt_of_cell? _ _ p0
      clear hne hr1 hg hkd hy
      cases hq : coverB kinT (chainO kinT (D.take k)) y <;> cases hr : kinT.may y
      all_goals
        have HQ := hide hq
        have HR := hide hr
        have Q0 := hide p0
        have Q1 := hide p1
        have Q2 := hide p2
        have Q3 := hide p3
        have Q4 := hide p4
        clear hq hr
        go_wp2_with fail
        refine (coversT_any s' m cap' _ y HQ.out wr (by omega) HC.out).mono ?_
        rintro e w4 ⟨rfl, hb⟩
        have G4 := hide hb
        clear p0 p1 p2 p3 p4 hb
        have p0 := cell_later G4.out Q0.out
        have p1 := cell_later G4.out Q1.out
        have p2 := cell_later G4.out Q2.out
        have p3 := cell_later G4.out Q3.out
        have p4 := cell_later G4.out Q4.out
        go_wp2_with fail
        refine (refMayT_at y HR.out w4).mono ?_
        rintro e w5 ⟨rfl, hb⟩
        have G5 := hide (Grow.trans' G4.out hb)
        clear p0 p1 p2 p3 p4 hb
        have p0 := cell_later G5.out Q0.out
        have p1 := cell_later G5.out Q1.out
        have p2 := cell_later G5.out Q2.out
        have p3 := cell_later G5.out Q3.out
        have p4 := cell_later G5.out Q4.out
        go_wp2_with fail
        refine (moreT_at s' m cap' _ y (by rw [HQ.out, HR.out]) w5 (by omega) (HC.out.later G5.out)).mono ?_
        rintro e w6 ⟨s6, n6, c6, rfl, hb, hI⟩
        have H6 := hide hI
        have G6 := hide (Grow.trans' G5.out hb)
        clear p0 p1 p2 p3 p4 hb hI
        dsimp only
        go_wp2_with fail
        try (refine (chainSame_any s6 s' c6 cap' n6 m _ (chainO kinT (D.take k)) true (by first | (rw [HT.out (.inr HQ.out)]; simp) | (rw [HT.out (.inl HR.out)]; simp)) w6 ?_ H6.out (HC.out.later G6.out)).mono ?_)
        try (have h1 := H6.out.1; have h2 := chainO_len kinT (chainO kinT (D.take k) ++ [y]); have h3 := HC.out.1; rw [List.length_append, List.length_singleton] at h2; omega)
        try (rintro e w7 ⟨rfl, hb⟩; have G7 := hide (Grow.trans' G6.out hb); have H7 := hide (H6.out.later hb); clear hb; go_wp2_with fail)
        go_roundw
        case rel =>
          first
            | exact ⟨k + 1, s6, n6, c6, by omega, by omega, rfl, by go_num, Grow.trans' HG.out G7.out, by rw [← HS.out]; exact H7.out⟩
            | exact ⟨k + 1, s6, n6, c6, by omega, by omega, rfl, by go_num, Grow.trans' HG.out G6.out, by rw [← HS.out]; exact H6.out⟩
        case measure => simp [intOf]; omega
    · have hmin : minI (n1 : Int) 40 = (k : Int) := by unfold minI; split <;> omega
      have hi1 : (0 : Int) ≤ (k : Int) := by omega
      have hi4 : (k : Int) ≤ (c1 : Int) := by omega
      have CT := hide (chainT_any s1 k c1 (D.take k) wr (by omega) ((H3.out.later hg).take' k hk))
      clear hg
      by_cases hlt1 : (k : Int) < (n1 : Int)
      all_goals
        have hi5 : ¬ ((k : Int) < (n1 : Int) ∧ (k : Int) < 40) := by omega
        have hi6 : ¬ (k : Int) < 40 ∨ ¬ (k : Int) < (n1 : Int) := by omega
        go_wp2_with fail
        refine (CT.out).mono ?_
        rintro e w4 ⟨v, rfl, hb, s4, n4, c4, rfl, hI⟩
        have G4 := hide hb
        have C5 := hide (chainSame_any s' s4 cap' c4 m n4 _ _ true (by simp) w4 (by omega) (HC.out.later hb) hI)
        clear hb hI
        go_wp2_with fail
        refine (C5.out).mono ?_
        rintro e w5 ⟨rfl, hb⟩
        have G5 := hide (Grow.trans' G3.out (Grow.trans' HG.out (Grow.trans' G4.out hb)))
        clear hb
        go_wp2_with fail
        go_ret
        exact ⟨rfl, G5.out⟩

end Go.Proofs.Ytkpecibbpogedaa
