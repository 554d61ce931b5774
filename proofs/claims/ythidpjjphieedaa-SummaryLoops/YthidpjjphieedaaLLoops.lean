/-
  What the law SummaryLoops does: for every depth and every number of rounds it returns true, and what was there stays as it was.
-/
import Derived.Test.YthidpjjphieedaaSShown
import Derived.Test.YthidpjjphieedaaSFacts2
namespace Go.Proofs.Ythidpjjphieedaa
open Go.RowKit Go.Sort
attribute [local go_sem ↓] eqSm
set_option linter.unusedVariables false

theorem cutP {P Q : Prop} (h : P) (k : P → Q) : Q := k h
theorem world_of {W X : World} (h : Grow W X) : ∃ Y, Y = X := ⟨X, rfl⟩
theorem growS {a w : World} (b o : Nat) (v : Value) (h : Below a.heap.size a w) (hp : a.heap.size ≤ b) : Below a.heap.size a (w.setCell ⟨b, o, none⟩ v) := h.setCell hp v
theorem and3 (m : Int) : ∃ k : Nat, k ≤ 3 ∧ bits .and .i64 m 3 = (k : Int) := by
  refine ⟨(BitVec.ofInt 64 m).toNat &&& 3, Nat.and_le_right, ?_⟩
  have h3 : (BitVec.ofInt 64 m).toNat &&& 3 ≤ 3 := Nat.and_le_right
  show IntKind.i64.wrap ((BitVec.ofInt 64 m &&& BitVec.ofInt 64 3).toNat : Int) = _
  rw [BitVec.toNat_and, show (BitVec.ofInt 64 3).toNat = 3 from rfl, IntKind.wrap_i64]
  omega
theorem and63 (m : Int) : ∃ k : Nat, k ≤ 63 ∧ bits .and .i64 m 63 = (k : Int) := by
  refine ⟨(BitVec.ofInt 64 m).toNat &&& 63, Nat.and_le_right, ?_⟩
  have h3 : (BitVec.ofInt 64 m).toNat &&& 63 ≤ 63 := Nat.and_le_right
  show IntKind.i64.wrap ((BitVec.ofInt 64 m &&& BitVec.ofInt 64 63).toNat : Int) = _
  rw [BitVec.toNat_and, show (BitVec.ofInt 64 63).toNat = 63 from rfl, IntKind.wrap_i64]
  omega

theorem lf_0 (n : Int) (h0 : 0 ≤ n) (h1 : n ≤ 100) : thenE (Sm.mk 0 1 0 0 n 0 0) (Sm.mk 1 1 1 0 1 0 0) = 0 ∧ thenS (Sm.mk 0 1 0 0 n 0 0) (Sm.mk 1 1 1 0 1 0 0) = Sm.mk 0 1 0 0 (n + 1) 0 0 := feed_round (d := 0) (by decide) (by decide) h0 h1
theorem ll_0 (n : Int) (h0 : 0 ≤ n) (h1 : n ≤ 100) : thenE (Sm.mk 0 1 0 0 n 0 0) (Sm.mk 1 0 0 0 0 0 0) = 0 ∧ thenS (Sm.mk 0 1 0 0 n 0 0) (Sm.mk 1 0 0 0 0 0 0) = Sm.mk 0 0 0 0 0 0 0 := leave_round (d := 0) (by decide) (by decide) h0 h1
theorem la_0 (n : Int) (h0 : 0 ≤ n) (h1 : n ≤ 100) : applyE (Sm.mk 0 1 0 0 n 0 0) (Tm.mk 3 0 0 0 0) = 0 ∧ applyT (Sm.mk 0 1 0 0 n 0 0) (Tm.mk 3 0 0 0 0) = Tm.mk 3 1 n 0 0 := apply_round (d := 0) (by decide) (by decide) h0 h1
theorem lf_1 (n : Int) (h0 : 0 ≤ n) (h1 : n ≤ 100) : thenE (Sm.mk 1 2 1 0 0 n 0) (Sm.mk 2 2 2 0 0 1 0) = 0 ∧ thenS (Sm.mk 1 2 1 0 0 n 0) (Sm.mk 2 2 2 0 0 1 0) = Sm.mk 1 2 1 0 0 (n + 1) 0 := feed_round (d := 1) (by decide) (by decide) h0 h1
theorem ll_1 (n : Int) (h0 : 0 ≤ n) (h1 : n ≤ 100) : thenE (Sm.mk 1 2 1 0 0 n 0) (Sm.mk 2 1 1 0 0 0 0) = 0 ∧ thenS (Sm.mk 1 2 1 0 0 n 0) (Sm.mk 2 1 1 0 0 0 0) = Sm.mk 1 1 1 0 0 0 0 := leave_round (d := 1) (by decide) (by decide) h0 h1
theorem la_1 (n : Int) (h0 : 0 ≤ n) (h1 : n ≤ 100) : applyE (Sm.mk 1 2 1 0 0 n 0) (Tm.mk 3 1 0 0 0) = 0 ∧ applyT (Sm.mk 1 2 1 0 0 n 0) (Tm.mk 3 1 0 0 0) = Tm.mk 3 2 0 n 0 := apply_round (d := 1) (by decide) (by decide) h0 h1
theorem lf_2 (n : Int) (h0 : 0 ≤ n) (h1 : n ≤ 100) : thenE (Sm.mk 2 3 2 0 0 0 n) (Sm.mk 3 3 3 0 0 0 1) = 0 ∧ thenS (Sm.mk 2 3 2 0 0 0 n) (Sm.mk 3 3 3 0 0 0 1) = Sm.mk 2 3 2 0 0 0 (n + 1) := feed_round (d := 2) (by decide) (by decide) h0 h1
theorem ll_2 (n : Int) (h0 : 0 ≤ n) (h1 : n ≤ 100) : thenE (Sm.mk 2 3 2 0 0 0 n) (Sm.mk 3 2 2 0 0 0 0) = 0 ∧ thenS (Sm.mk 2 3 2 0 0 0 n) (Sm.mk 3 2 2 0 0 0 0) = Sm.mk 2 2 2 0 0 0 0 := leave_round (d := 2) (by decide) (by decide) h0 h1
theorem la_2 (n : Int) (h0 : 0 ≤ n) (h1 : n ≤ 100) : applyE (Sm.mk 2 3 2 0 0 0 n) (Tm.mk 3 2 0 0 0) = 0 ∧ applyT (Sm.mk 2 3 2 0 0 0 n) (Tm.mk 3 2 0 0 0) = Tm.mk 3 3 0 0 n := apply_round (d := 2) (by decide) (by decide) h0 h1

set_option maxHeartbeats 400000 in
theorem SummaryLoops_3 (dp m : Int) (w : World) (hd : bits .and .i64 dp 3 = 3) :
    Calls Try.prog 8 #[.int .i64 dp, .int .i64 m] w fun e w' => e = .returned (.bool true) ∧ Below w.heap.size w w' := by
  go_enter Try.func8, Try.ntmps8
  go_wp2_with fail
  refine (shown_any _).mono ?_
  rintro e w1 ⟨rfl, hb1⟩
  go_wp2_with fail
  go_ret
  exact ⟨rfl, hb1⟩

set_option maxHeartbeats 4000000 in
set_option maxRecDepth 100000 in
theorem SummaryLoops_0 (dp m : Int) (n : Nat) (w : World) (hd : bits .and .i64 dp 3 = 0) (hn : bits .and .i64 m 63 = (n : Int)) (h63 : n ≤ 63) :
    Calls Try.prog 8 #[.int .i64 dp, .int .i64 m] w fun e w' => e = .returned (.bool true) ∧ Below w.heap.size w w' := by
  have G : Hid (Grow w w) := hide (Grow.rfl' w)
  have n1 : IntKind.i64.wrap 1 = 1 := by decide
  have el : ∀ w, (Op.equalIn 10000 24 (.agg #[.int .i64 0, .int .i64 0, .int .i64 0, .int .i64 0, .int .i64 0, .int .i64 0, .int .i64 0]) (.agg #[.int .i64 0, .int .i64 0, .int .i64 0, .int .i64 0, .int .i64 0, .int .i64 0, .int .i64 0])).run Try.prog w = .ok true w := fun w => eqSm (Sm.mk 0 0 0 0 0 0 0) (Sm.mk 0 0 0 0 0 0 0) w
  go_enter Try.func8, Try.ntmps8
  go_wp2_with fail
  refine (shown_any _).mono ?_
  rintro e w1 ⟨rfl, hb⟩
  have G : Hid (Grow w w1) := hide (Grow.trans' G.out hb)
  clear hb 
  go_wp2_with fail
  refine (enter_0 _).mono ?_
  rintro e w2 ⟨rfl, hb⟩
  have G : Hid (Grow w w2) := hide (Grow.trans' G.out hb)
  clear hb 
  have hB : w.heap.size ≤ w2.heap.size := G.out.size
  go_wp2_with fail
  have HS : Hid (SBox (w2.alloc (.cells #[.int .i64 0, .int .i64 1, .int .i64 0, .int .i64 0, .int .i64 0, .int .i64 0, .int .i64 0] 24)) w2.heap.size (Sm.mk 0 1 0 0 0 0 0)) := hide (SBox.new w2 (Sm.mk 0 1 0 0 0 0 0))
  have FZ : Hid (∀ o, (w2.alloc (.cells #[.int .i64 0, .int .i64 1, .int .i64 0, .int .i64 0, .int .i64 0, .int .i64 0, .int .i64 0] 24)).frozen? ⟨w2.heap.size, o, none⟩ = false) := hide (fun o => by simp [go_sem])
  have G := hide (Grow.trans' G.out (Grow.alloc' w2 (.cells #[.int .i64 0, .int .i64 1, .int .i64 0, .int .i64 0, .int .i64 0, .int .i64 0, .int .i64 0] 24)))
  generalize w2.alloc (.cells #[.int .i64 0, .int .i64 1, .int .i64 0, .int .i64 0, .int .i64 0, .int .i64 0, .int .i64 0] 24) = wa at *
  generalize w2.heap.size = B at *
  go_loopw [9] (fun u wr => ∃ k : Nat, k ≤ n ∧ u = .int .i64 k ∧ SBox wr B (Sm.mk 0 1 0 0 (k : Int) 0 0) ∧ (∀ o, wr.frozen? ⟨B, o, none⟩ = false) ∧ Grow w wr) (fun u _ => n - (intOf u).toNat)
  case atStart => exact ⟨0, Nat.zero_le _, rfl, HS.out, FZ.out, G.out⟩
  case round =>
    clear HS G FZ
    obtain ⟨k, hk, rfl, KS, fz, hg⟩ := hrel
    have FZ := hide fz
    have hlt : B < wr.heap.size := World.block_lt_of_cell? _ _ KS.1
    clear fz
    have G : Hid (Grow w wr) := hide hg
    clear hg
    by_cases hkn : k < n
    · have f1 := hide (lf_0 (k : Int) (by omega) (by omega))
      have HS : Hid (SBox wr (B) (Sm.mk 0 1 0 0 (k : Int) 0 0)) := hide KS
      clear KS
      have HH : ∀ w', Grow wr w' → (fun w' => Grow wr w' ∧ w'.cell? ⟨B, 0, none⟩ = some (.int .i64 (Sm.mk 0 1 0 0 (k : Int) 0 0).f) ∧ w'.cell? ⟨B, 1, none⟩ = some (.int .i64 (Sm.mk 0 1 0 0 (k : Int) 0 0).t) ∧ w'.cell? ⟨B, 2, none⟩ = some (.int .i64 (Sm.mk 0 1 0 0 (k : Int) 0 0).k) ∧ w'.cell? ⟨B, 3, none⟩ = some (.int .i64 (Sm.mk 0 1 0 0 (k : Int) 0 0).ep) ∧ w'.cell? ⟨B, 4, none⟩ = some (.int .i64 (Sm.mk 0 1 0 0 (k : Int) 0 0).x) ∧ w'.cell? ⟨B, 5, none⟩ = some (.int .i64 (Sm.mk 0 1 0 0 (k : Int) 0 0).y) ∧ w'.cell? ⟨B, 6, none⟩ = some (.int .i64 (Sm.mk 0 1 0 0 (k : Int) 0 0).z)) w' := fun w' hq => by
        obtain ⟨qS0, qS1, qS2, qS3, qS4, qS5, qS6⟩ := HS.out.later hq
        exact ⟨hq, qS0, qS1, qS2, qS3, qS4, qS5, qS6⟩
      have HK := hide HH
      clear HH
      go_wp2_with fail
      go_region_held3 (fun w' => Grow wr w' ∧ w'.cell? ⟨B, 0, none⟩ = some (.int .i64 (Sm.mk 0 1 0 0 (k : Int) 0 0).f) ∧ w'.cell? ⟨B, 1, none⟩ = some (.int .i64 (Sm.mk 0 1 0 0 (k : Int) 0 0).t) ∧ w'.cell? ⟨B, 2, none⟩ = some (.int .i64 (Sm.mk 0 1 0 0 (k : Int) 0 0).k) ∧ w'.cell? ⟨B, 3, none⟩ = some (.int .i64 (Sm.mk 0 1 0 0 (k : Int) 0 0).ep) ∧ w'.cell? ⟨B, 4, none⟩ = some (.int .i64 (Sm.mk 0 1 0 0 (k : Int) 0 0).x) ∧ w'.cell? ⟨B, 5, none⟩ = some (.int .i64 (Sm.mk 0 1 0 0 (k : Int) 0 0).y) ∧ w'.cell? ⟨B, 6, none⟩ = some (.int .i64 (Sm.mk 0 1 0 0 (k : Int) 0 0).z)) (first | (refine HK.out _ ?_; simp (maxDischargeDepth := 30) only [growR, growA, growD]; done) | (with_reducible exact HK.out _ gu00) | (refine HK.out _ ?_; simp (maxDischargeDepth := 30) [growA, gu00]; done) | (with_reducible exact HK.out _ gu01) | (refine HK.out _ ?_; simp (maxDischargeDepth := 30) [growA, growS, zu00, gu01]; done)) (first | (go_at_call 16; refine (feed_1 _).mono ?_; rintro e u00 ⟨rfl, hbu00⟩; have gu00 : Below wr.heap.size wr u00 := Grow.trans' (‹Grow wr _ ∧ _›).1 hbu00; have zu00 := gu00.size; have yu00 := hbu00.size; (try simp at yu00); (try (refine (fun v000 : wr.heap.size < u00.heap.size => ?_) ?_; rotate_left; focus omega)); obtain ⟨hcu00, hfu00⟩ := bcell hbu00) | (go_at_call 22; refine (then_at (Sm.mk 0 1 0 0 (k : Int) 0 0) (Sm.mk 1 1 1 0 1 0 0) (Sm.mk 0 1 0 0 ((k : Int) + 1) 0 0) 0 f1.out.2 f1.out.1 _).mono ?_; rintro e u01 ⟨rfl, hbu01⟩; have gu01 : Below wr.heap.size wr u01 := Grow.trans' (‹Grow wr _ ∧ _›).1 hbu01; have zu01 := gu01.size; have yu01 := hbu01.size; (try simp at yu01); (try (refine (fun v010 : wr.heap.size < u01.heap.size => ?_) ?_; rotate_left; focus omega)); (try (refine (fun v011 : u00.heap.size < u01.heap.size => ?_) ?_; rotate_left; focus omega)); obtain ⟨hcu01, hfu01⟩ := bcell hbu01))
      all_goals
        obtain ⟨X0, hX⟩ := world_of (‹Grow wr _ ∧ _›).1
        have HGW := (‹Grow wr _ ∧ _›).1
        rw [← hX] at HGW ⊢
        first
          | (refine cutP (P := SBox X0 u01.heap.size (Sm.mk 0 1 0 0 ((k : Int) + 1) 0 0)) ?_ ?_; (focus (rw [hX]; simp (maxDischargeDepth := 30) [SBox, go_sem, *]; done)); intro KN; obtain ⟨bN, hbl⟩ : ∃ b, b = u01.heap.size := ⟨_, rfl⟩; rw [← hbl] at KN ⊢; clear hbl)
          | (refine cutP (P := SBox X0 u00.heap.size (Sm.mk 0 1 0 0 ((k : Int) + 1) 0 0)) ?_ ?_; (focus (rw [hX]; simp (maxDischargeDepth := 30) [SBox, go_sem, *]; done)); intro KN; obtain ⟨bN, hbl⟩ : ∃ b, b = u00.heap.size := ⟨_, rfl⟩; rw [← hbl] at KN ⊢; clear hbl)
          | (refine cutP (P := SBox X0 wr.heap.size (Sm.mk 0 1 0 0 ((k : Int) + 1) 0 0)) ?_ ?_; (focus (rw [hX]; simp (maxDischargeDepth := 30) [SBox, go_sem, *]; done)); intro KN; obtain ⟨bN, hbl⟩ : ∃ b, b = wr.heap.size := ⟨_, rfl⟩; rw [← hbl] at KN ⊢; clear hbl)
        have KS : SBox X0 (B) (Sm.mk 0 1 0 0 (k : Int) 0 0) := HS.out.later HGW
        have G : Hid (Grow w X0) := hide (Grow.trans' G.out HGW)
        have fz : ∀ o, X0.frozen? ⟨B, o, none⟩ = false := fun o => ((bcell HGW).2 B o hlt).trans (FZ.out o)
        clear hX HGW HK
        clear hcu00 hfu00 hbu00 gu00 zu00 yu00
        clear hcu01 hfu01 hbu01 gu01 zu01 yu01
        obtain ⟨s0, s1, s2, s3, s4, s5, s6⟩ := KS
        obtain ⟨n0, n1, n2, n3, n4, n5, n6⟩ := KN
        dsimp only at s0 s1 s2 s3 s4 s5 s6 n0 n1 n2 n3 n4 n5 n6
        go_wp2
        go_roundw
        case rel =>
          refine ⟨k + 1, by omega, by go_num, ?_, ?_, ?_⟩
          · simp [SBox, go_sem, *]
          · intro o
            simp [go_sem, *]
          · iterate 7 refine Below.setCell ?_ (by simp; omega) _
            exact G.out
        case measure => simp [intOf]; omega
    · have hke : k = n := by omega
      subst hke
      have f2 := hide (ll_0 (k : Int) (by omega) (by omega))
      have f3 := hide (la_0 (k : Int) (by omega) (by omega))
      have HS : Hid (SBox wr (B) (Sm.mk 0 1 0 0 (k : Int) 0 0)) := hide KS
      clear KS
      have HH : ∀ w', Grow wr w' → (fun w' => Grow wr w' ∧ w'.cell? ⟨B, 0, none⟩ = some (.int .i64 (Sm.mk 0 1 0 0 (k : Int) 0 0).f) ∧ w'.cell? ⟨B, 1, none⟩ = some (.int .i64 (Sm.mk 0 1 0 0 (k : Int) 0 0).t) ∧ w'.cell? ⟨B, 2, none⟩ = some (.int .i64 (Sm.mk 0 1 0 0 (k : Int) 0 0).k) ∧ w'.cell? ⟨B, 3, none⟩ = some (.int .i64 (Sm.mk 0 1 0 0 (k : Int) 0 0).ep) ∧ w'.cell? ⟨B, 4, none⟩ = some (.int .i64 (Sm.mk 0 1 0 0 (k : Int) 0 0).x) ∧ w'.cell? ⟨B, 5, none⟩ = some (.int .i64 (Sm.mk 0 1 0 0 (k : Int) 0 0).y) ∧ w'.cell? ⟨B, 6, none⟩ = some (.int .i64 (Sm.mk 0 1 0 0 (k : Int) 0 0).z)) w' := fun w' hq => by
        obtain ⟨qS0, qS1, qS2, qS3, qS4, qS5, qS6⟩ := HS.out.later hq
        exact ⟨hq, qS0, qS1, qS2, qS3, qS4, qS5, qS6⟩
      have HK := hide HH
      clear HH
      go_wp2_with fail
      go_region_held3 (fun w' => Grow wr w' ∧ w'.cell? ⟨B, 0, none⟩ = some (.int .i64 (Sm.mk 0 1 0 0 (k : Int) 0 0).f) ∧ w'.cell? ⟨B, 1, none⟩ = some (.int .i64 (Sm.mk 0 1 0 0 (k : Int) 0 0).t) ∧ w'.cell? ⟨B, 2, none⟩ = some (.int .i64 (Sm.mk 0 1 0 0 (k : Int) 0 0).k) ∧ w'.cell? ⟨B, 3, none⟩ = some (.int .i64 (Sm.mk 0 1 0 0 (k : Int) 0 0).ep) ∧ w'.cell? ⟨B, 4, none⟩ = some (.int .i64 (Sm.mk 0 1 0 0 (k : Int) 0 0).x) ∧ w'.cell? ⟨B, 5, none⟩ = some (.int .i64 (Sm.mk 0 1 0 0 (k : Int) 0 0).y) ∧ w'.cell? ⟨B, 6, none⟩ = some (.int .i64 (Sm.mk 0 1 0 0 (k : Int) 0 0).z)) (first | (refine HK.out _ ?_; simp (maxDischargeDepth := 30) only [growR, growA, growD]; done) | (with_reducible exact HK.out _ gu10) | (refine HK.out _ ?_; simp (maxDischargeDepth := 30) [growA, gu10]; done) | (with_reducible exact HK.out _ gu11) | (refine HK.out _ ?_; simp (maxDischargeDepth := 30) [growA, growS, zu10, gu11]; done)) (first | (go_at_call 14; refine (leave_1 _).mono ?_; rintro e u10 ⟨rfl, hbu10⟩; have gu10 : Below wr.heap.size wr u10 := Grow.trans' (‹Grow wr _ ∧ _›).1 hbu10; have zu10 := gu10.size; have yu10 := hbu10.size; (try simp at yu10); (try (refine (fun v100 : wr.heap.size < u10.heap.size => ?_) ?_; rotate_left; focus omega)); obtain ⟨hcu10, hfu10⟩ := bcell hbu10) | (go_at_call 22; refine (then_at (Sm.mk 0 1 0 0 (k : Int) 0 0) (Sm.mk 1 0 0 0 0 0 0) (Sm.mk 0 0 0 0 0 0 0) 0 f2.out.2 f2.out.1 _).mono ?_; rintro e u11 ⟨rfl, hbu11⟩; have gu11 : Below wr.heap.size wr u11 := Grow.trans' (‹Grow wr _ ∧ _›).1 hbu11; have zu11 := gu11.size; have yu11 := hbu11.size; (try simp at yu11); (try (refine (fun v110 : wr.heap.size < u11.heap.size => ?_) ?_; rotate_left; focus omega)); (try (refine (fun v111 : u10.heap.size < u11.heap.size => ?_) ?_; rotate_left; focus omega)); obtain ⟨hcu11, hfu11⟩ := bcell hbu11))
      all_goals
        obtain ⟨X1, hX⟩ := world_of (‹Grow wr _ ∧ _›).1
        have HGW := (‹Grow wr _ ∧ _›).1
        rw [← hX] at HGW ⊢
        first
          | (refine cutP (P := SBox X1 u11.heap.size (Sm.mk 0 0 0 0 0 0 0)) ?_ ?_; (focus (rw [hX]; simp (maxDischargeDepth := 30) [SBox, go_sem, *]; done)); intro KO; obtain ⟨bO, hbl⟩ : ∃ b, b = u11.heap.size := ⟨_, rfl⟩; rw [← hbl] at KO ⊢; clear hbl)
          | (refine cutP (P := SBox X1 u10.heap.size (Sm.mk 0 0 0 0 0 0 0)) ?_ ?_; (focus (rw [hX]; simp (maxDischargeDepth := 30) [SBox, go_sem, *]; done)); intro KO; obtain ⟨bO, hbl⟩ : ∃ b, b = u10.heap.size := ⟨_, rfl⟩; rw [← hbl] at KO ⊢; clear hbl)
          | (refine cutP (P := SBox X1 wr.heap.size (Sm.mk 0 0 0 0 0 0 0)) ?_ ?_; (focus (rw [hX]; simp (maxDischargeDepth := 30) [SBox, go_sem, *]; done)); intro KO; obtain ⟨bO, hbl⟩ : ∃ b, b = wr.heap.size := ⟨_, rfl⟩; rw [← hbl] at KO ⊢; clear hbl)
        have KS : SBox X1 (B) (Sm.mk 0 1 0 0 (k : Int) 0 0) := HS.out.later HGW
        have G : Hid (Grow w X1) := hide (Grow.trans' G.out HGW)
        clear hX HGW HK
        clear hcu10 hfu10 hbu10 gu10 zu10 yu10
        clear hcu11 hfu11 hbu11 gu11 zu11 yu11
        obtain ⟨s0, s1, s2, s3, s4, s5, s6⟩ := KS
        dsimp only at s0 s1 s2 s3 s4 s5 s6
        go_wp2_with fail
        refine (apply_at (Sm.mk 0 1 0 0 (k : Int) 0 0) (Tm.mk 3 0 0 0 0) (Tm.mk 3 1 (k : Int) 0 0) 0 f3.out.2 f3.out.1 _).mono ?_
        rintro e w5 ⟨rfl, hb⟩
        have KS : SBox (w5.alloc (.cells #[.int .i64 (Tm.mk 3 1 (k : Int) 0 0).e, .int .i64 (Tm.mk 3 1 (k : Int) 0 0).d, .int .i64 (Tm.mk 3 1 (k : Int) 0 0).x, .int .i64 (Tm.mk 3 1 (k : Int) 0 0).y, .int .i64 (Tm.mk 3 1 (k : Int) 0 0).z] 30)) B (Sm.mk 0 1 0 0 (k : Int) 0 0) := (SBox.later hb ⟨s0, s1, s2, s3, s4, s5, s6⟩).later (Grow.alloc' _ _)
        have KO : SBox (w5.alloc (.cells #[.int .i64 (Tm.mk 3 1 (k : Int) 0 0).e, .int .i64 (Tm.mk 3 1 (k : Int) 0 0).d, .int .i64 (Tm.mk 3 1 (k : Int) 0 0).x, .int .i64 (Tm.mk 3 1 (k : Int) 0 0).y, .int .i64 (Tm.mk 3 1 (k : Int) 0 0).z] 30)) bO (Sm.mk 0 0 0 0 0 0 0) := (SBox.later hb KO).later (Grow.alloc' _ _)
        have KT : Box (w5.alloc (.cells #[.int .i64 (Tm.mk 3 1 (k : Int) 0 0).e, .int .i64 (Tm.mk 3 1 (k : Int) 0 0).d, .int .i64 (Tm.mk 3 1 (k : Int) 0 0).x, .int .i64 (Tm.mk 3 1 (k : Int) 0 0).y, .int .i64 (Tm.mk 3 1 (k : Int) 0 0).z] 30)) w5.heap.size (Tm.mk 3 1 (k : Int) 0 0) := Box.new _ _
        have G : Hid (Grow w (w5.alloc (.cells #[.int .i64 (Tm.mk 3 1 (k : Int) 0 0).e, .int .i64 (Tm.mk 3 1 (k : Int) 0 0).d, .int .i64 (Tm.mk 3 1 (k : Int) 0 0).x, .int .i64 (Tm.mk 3 1 (k : Int) 0 0).y, .int .i64 (Tm.mk 3 1 (k : Int) 0 0).z] 30))) := hide (Grow.trans' (Grow.trans' G.out hb) (Grow.alloc' _ _))
        clear s0 s1 s2 s3 s4 s5 s6 hb
        dsimp only at KS KO KT G
        go_wp2_with fail
        generalize hwb : w5.alloc (.cells #[.int .i64 3, .int .i64 1, .int .i64 (k : Int), .int .i64 0, .int .i64 0] 30) = wb at *
        obtain ⟨s0, s1, s2, s3, s4, s5, s6⟩ := KS
        obtain ⟨o0, o1, o2, o3, o4, o5, o6⟩ := KO
        obtain ⟨t0, t1, t2, t3, t4⟩ := KT
        dsimp only at s0 s1 s2 s3 s4 s5 s6 o0 o1 o2 o3 o4 o5 o6 t0 t1 t2 t3 t4
        have cs0 := cell_regrown s0; have cs1 := cell_regrown s1; have cs2 := cell_regrown s2; have cs3 := cell_regrown s3; have cs4 := cell_regrown s4; have cs5 := cell_regrown s5; have cs6 := cell_regrown s6; have co0 := cell_regrown o0; have co1 := cell_regrown o1; have co2 := cell_regrown o2; have co3 := cell_regrown o3; have co4 := cell_regrown o4; have co5 := cell_regrown o5; have co6 := cell_regrown o6; have ct0 := cell_regrown t0; have ct1 := cell_regrown t1; have ct2 := cell_regrown t2; have ct3 := cell_regrown t3; have ct4 := cell_regrown t4
        have q1 := hide (fun dd os => Calls.regrown_of (same_0 (grow (redrawn wb dd) os)))
        clear s0 s1 s2 s3 s4 s5 s6 o0 o1 o2 o3 o4 o5 o6 t0 t1 t2 t3 t4 hwb
        refine wp_region_quiet_below (by kernel_rfl) (by kernel_rfl) ?_
        repeat (go_big_quiet_step (first | (go_at_call 10; exact q1.out _ _)))
        refine wpQuiet_nil ?_
        intro _ hw'
        obtain ⟨⟨dq, osq⟩, hw''⟩ := hw'
        subst hw''
        have GB := hide (Grow.trans' G.out (below_regrown wb dq osq))
        clear cs0 cs1 cs2 cs3 cs4 cs5 cs6 co0 co1 co2 co3 co4 co5 co6 ct0 ct1 ct2 ct3 ct4 q1 G
        generalize grow (redrawn wb dq) osq = wc at *
        go_wp2
        go_ret
        exact ⟨rfl, GB.out⟩

set_option maxHeartbeats 4000000 in
set_option maxRecDepth 100000 in
theorem SummaryLoops_1 (dp m : Int) (n : Nat) (w : World) (hd : bits .and .i64 dp 3 = 1) (hn : bits .and .i64 m 63 = (n : Int)) (h63 : n ≤ 63) :
    Calls Try.prog 8 #[.int .i64 dp, .int .i64 m] w fun e w' => e = .returned (.bool true) ∧ Below w.heap.size w w' := by
  have G : Hid (Grow w w) := hide (Grow.rfl' w)
  have n1 : IntKind.i64.wrap 2 = 2 := by decide
  have el : ∀ w, (Op.equalIn 10000 24 (.agg #[.int .i64 1, .int .i64 1, .int .i64 1, .int .i64 0, .int .i64 0, .int .i64 0, .int .i64 0]) (.agg #[.int .i64 1, .int .i64 1, .int .i64 1, .int .i64 0, .int .i64 0, .int .i64 0, .int .i64 0])).run Try.prog w = .ok true w := fun w => eqSm (Sm.mk 1 1 1 0 0 0 0) (Sm.mk 1 1 1 0 0 0 0) w
  go_enter Try.func8, Try.ntmps8
  go_wp2_with fail
  refine (shown_any _).mono ?_
  rintro e w1 ⟨rfl, hb⟩
  have G : Hid (Grow w w1) := hide (Grow.trans' G.out hb)
  clear hb 
  go_wp2_with fail
  refine (enter_1 _).mono ?_
  rintro e w2 ⟨rfl, hb⟩
  have G : Hid (Grow w w2) := hide (Grow.trans' G.out hb)
  clear hb 
  have hB : w.heap.size ≤ w2.heap.size := G.out.size
  go_wp2_with fail
  have HS : Hid (SBox (w2.alloc (.cells #[.int .i64 1, .int .i64 2, .int .i64 1, .int .i64 0, .int .i64 0, .int .i64 0, .int .i64 0] 24)) w2.heap.size (Sm.mk 1 2 1 0 0 0 0)) := hide (SBox.new w2 (Sm.mk 1 2 1 0 0 0 0))
  have FZ : Hid (∀ o, (w2.alloc (.cells #[.int .i64 1, .int .i64 2, .int .i64 1, .int .i64 0, .int .i64 0, .int .i64 0, .int .i64 0] 24)).frozen? ⟨w2.heap.size, o, none⟩ = false) := hide (fun o => by simp [go_sem])
  have G := hide (Grow.trans' G.out (Grow.alloc' w2 (.cells #[.int .i64 1, .int .i64 2, .int .i64 1, .int .i64 0, .int .i64 0, .int .i64 0, .int .i64 0] 24)))
  generalize w2.alloc (.cells #[.int .i64 1, .int .i64 2, .int .i64 1, .int .i64 0, .int .i64 0, .int .i64 0, .int .i64 0] 24) = wa at *
  generalize w2.heap.size = B at *
  go_loopw [9] (fun u wr => ∃ k : Nat, k ≤ n ∧ u = .int .i64 k ∧ SBox wr B (Sm.mk 1 2 1 0 0 (k : Int) 0) ∧ (∀ o, wr.frozen? ⟨B, o, none⟩ = false) ∧ Grow w wr) (fun u _ => n - (intOf u).toNat)
  case atStart => exact ⟨0, Nat.zero_le _, rfl, HS.out, FZ.out, G.out⟩
  case round =>
    clear HS G FZ
    obtain ⟨k, hk, rfl, KS, fz, hg⟩ := hrel
    have FZ := hide fz
    have hlt : B < wr.heap.size := World.block_lt_of_cell? _ _ KS.1
    clear fz
    have G : Hid (Grow w wr) := hide hg
    clear hg
    by_cases hkn : k < n
    · have f1 := hide (lf_1 (k : Int) (by omega) (by omega))
      have HS : Hid (SBox wr (B) (Sm.mk 1 2 1 0 0 (k : Int) 0)) := hide KS
      clear KS
      have HH : ∀ w', Grow wr w' → (fun w' => Grow wr w' ∧ w'.cell? ⟨B, 0, none⟩ = some (.int .i64 (Sm.mk 1 2 1 0 0 (k : Int) 0).f) ∧ w'.cell? ⟨B, 1, none⟩ = some (.int .i64 (Sm.mk 1 2 1 0 0 (k : Int) 0).t) ∧ w'.cell? ⟨B, 2, none⟩ = some (.int .i64 (Sm.mk 1 2 1 0 0 (k : Int) 0).k) ∧ w'.cell? ⟨B, 3, none⟩ = some (.int .i64 (Sm.mk 1 2 1 0 0 (k : Int) 0).ep) ∧ w'.cell? ⟨B, 4, none⟩ = some (.int .i64 (Sm.mk 1 2 1 0 0 (k : Int) 0).x) ∧ w'.cell? ⟨B, 5, none⟩ = some (.int .i64 (Sm.mk 1 2 1 0 0 (k : Int) 0).y) ∧ w'.cell? ⟨B, 6, none⟩ = some (.int .i64 (Sm.mk 1 2 1 0 0 (k : Int) 0).z)) w' := fun w' hq => by
        obtain ⟨qS0, qS1, qS2, qS3, qS4, qS5, qS6⟩ := HS.out.later hq
        exact ⟨hq, qS0, qS1, qS2, qS3, qS4, qS5, qS6⟩
      have HK := hide HH
      clear HH
      go_wp2_with fail
      go_region_held3 (fun w' => Grow wr w' ∧ w'.cell? ⟨B, 0, none⟩ = some (.int .i64 (Sm.mk 1 2 1 0 0 (k : Int) 0).f) ∧ w'.cell? ⟨B, 1, none⟩ = some (.int .i64 (Sm.mk 1 2 1 0 0 (k : Int) 0).t) ∧ w'.cell? ⟨B, 2, none⟩ = some (.int .i64 (Sm.mk 1 2 1 0 0 (k : Int) 0).k) ∧ w'.cell? ⟨B, 3, none⟩ = some (.int .i64 (Sm.mk 1 2 1 0 0 (k : Int) 0).ep) ∧ w'.cell? ⟨B, 4, none⟩ = some (.int .i64 (Sm.mk 1 2 1 0 0 (k : Int) 0).x) ∧ w'.cell? ⟨B, 5, none⟩ = some (.int .i64 (Sm.mk 1 2 1 0 0 (k : Int) 0).y) ∧ w'.cell? ⟨B, 6, none⟩ = some (.int .i64 (Sm.mk 1 2 1 0 0 (k : Int) 0).z)) (first | (refine HK.out _ ?_; simp (maxDischargeDepth := 30) only [growR, growA, growD]; done) | (with_reducible exact HK.out _ gu00) | (refine HK.out _ ?_; simp (maxDischargeDepth := 30) [growA, gu00]; done) | (with_reducible exact HK.out _ gu01) | (refine HK.out _ ?_; simp (maxDischargeDepth := 30) [growA, growS, zu00, gu01]; done)) (first | (go_at_call 16; refine (feed_2 _).mono ?_; rintro e u00 ⟨rfl, hbu00⟩; have gu00 : Below wr.heap.size wr u00 := Grow.trans' (‹Grow wr _ ∧ _›).1 hbu00; have zu00 := gu00.size; have yu00 := hbu00.size; (try simp at yu00); (try (refine (fun v000 : wr.heap.size < u00.heap.size => ?_) ?_; rotate_left; focus omega)); obtain ⟨hcu00, hfu00⟩ := bcell hbu00) | (go_at_call 22; refine (then_at (Sm.mk 1 2 1 0 0 (k : Int) 0) (Sm.mk 2 2 2 0 0 1 0) (Sm.mk 1 2 1 0 0 ((k : Int) + 1) 0) 0 f1.out.2 f1.out.1 _).mono ?_; rintro e u01 ⟨rfl, hbu01⟩; have gu01 : Below wr.heap.size wr u01 := Grow.trans' (‹Grow wr _ ∧ _›).1 hbu01; have zu01 := gu01.size; have yu01 := hbu01.size; (try simp at yu01); (try (refine (fun v010 : wr.heap.size < u01.heap.size => ?_) ?_; rotate_left; focus omega)); (try (refine (fun v011 : u00.heap.size < u01.heap.size => ?_) ?_; rotate_left; focus omega)); obtain ⟨hcu01, hfu01⟩ := bcell hbu01))
      all_goals
        obtain ⟨X0, hX⟩ := world_of (‹Grow wr _ ∧ _›).1
        have HGW := (‹Grow wr _ ∧ _›).1
        rw [← hX] at HGW ⊢
        first
          | (refine cutP (P := SBox X0 u01.heap.size (Sm.mk 1 2 1 0 0 ((k : Int) + 1) 0)) ?_ ?_; (focus (rw [hX]; simp (maxDischargeDepth := 30) [SBox, go_sem, *]; done)); intro KN; obtain ⟨bN, hbl⟩ : ∃ b, b = u01.heap.size := ⟨_, rfl⟩; rw [← hbl] at KN ⊢; clear hbl)
          | (refine cutP (P := SBox X0 u00.heap.size (Sm.mk 1 2 1 0 0 ((k : Int) + 1) 0)) ?_ ?_; (focus (rw [hX]; simp (maxDischargeDepth := 30) [SBox, go_sem, *]; done)); intro KN; obtain ⟨bN, hbl⟩ : ∃ b, b = u00.heap.size := ⟨_, rfl⟩; rw [← hbl] at KN ⊢; clear hbl)
          | (refine cutP (P := SBox X0 wr.heap.size (Sm.mk 1 2 1 0 0 ((k : Int) + 1) 0)) ?_ ?_; (focus (rw [hX]; simp (maxDischargeDepth := 30) [SBox, go_sem, *]; done)); intro KN; obtain ⟨bN, hbl⟩ : ∃ b, b = wr.heap.size := ⟨_, rfl⟩; rw [← hbl] at KN ⊢; clear hbl)
        have KS : SBox X0 (B) (Sm.mk 1 2 1 0 0 (k : Int) 0) := HS.out.later HGW
        have G : Hid (Grow w X0) := hide (Grow.trans' G.out HGW)
        have fz : ∀ o, X0.frozen? ⟨B, o, none⟩ = false := fun o => ((bcell HGW).2 B o hlt).trans (FZ.out o)
        clear hX HGW HK
        clear hcu00 hfu00 hbu00 gu00 zu00 yu00
        clear hcu01 hfu01 hbu01 gu01 zu01 yu01
        obtain ⟨s0, s1, s2, s3, s4, s5, s6⟩ := KS
        obtain ⟨n0, n1, n2, n3, n4, n5, n6⟩ := KN
        dsimp only at s0 s1 s2 s3 s4 s5 s6 n0 n1 n2 n3 n4 n5 n6
        go_wp2
        go_roundw
        case rel =>
          refine ⟨k + 1, by omega, by go_num, ?_, ?_, ?_⟩
          · simp [SBox, go_sem, *]
          · intro o
            simp [go_sem, *]
          · iterate 7 refine Below.setCell ?_ (by simp; omega) _
            exact G.out
        case measure => simp [intOf]; omega
    · have hke : k = n := by omega
      subst hke
      have f2 := hide (ll_1 (k : Int) (by omega) (by omega))
      have f3 := hide (la_1 (k : Int) (by omega) (by omega))
      have HS : Hid (SBox wr (B) (Sm.mk 1 2 1 0 0 (k : Int) 0)) := hide KS
      clear KS
      have HH : ∀ w', Grow wr w' → (fun w' => Grow wr w' ∧ w'.cell? ⟨B, 0, none⟩ = some (.int .i64 (Sm.mk 1 2 1 0 0 (k : Int) 0).f) ∧ w'.cell? ⟨B, 1, none⟩ = some (.int .i64 (Sm.mk 1 2 1 0 0 (k : Int) 0).t) ∧ w'.cell? ⟨B, 2, none⟩ = some (.int .i64 (Sm.mk 1 2 1 0 0 (k : Int) 0).k) ∧ w'.cell? ⟨B, 3, none⟩ = some (.int .i64 (Sm.mk 1 2 1 0 0 (k : Int) 0).ep) ∧ w'.cell? ⟨B, 4, none⟩ = some (.int .i64 (Sm.mk 1 2 1 0 0 (k : Int) 0).x) ∧ w'.cell? ⟨B, 5, none⟩ = some (.int .i64 (Sm.mk 1 2 1 0 0 (k : Int) 0).y) ∧ w'.cell? ⟨B, 6, none⟩ = some (.int .i64 (Sm.mk 1 2 1 0 0 (k : Int) 0).z)) w' := fun w' hq => by
        obtain ⟨qS0, qS1, qS2, qS3, qS4, qS5, qS6⟩ := HS.out.later hq
        exact ⟨hq, qS0, qS1, qS2, qS3, qS4, qS5, qS6⟩
      have HK := hide HH
      clear HH
      go_wp2_with fail
      go_region_held3 (fun w' => Grow wr w' ∧ w'.cell? ⟨B, 0, none⟩ = some (.int .i64 (Sm.mk 1 2 1 0 0 (k : Int) 0).f) ∧ w'.cell? ⟨B, 1, none⟩ = some (.int .i64 (Sm.mk 1 2 1 0 0 (k : Int) 0).t) ∧ w'.cell? ⟨B, 2, none⟩ = some (.int .i64 (Sm.mk 1 2 1 0 0 (k : Int) 0).k) ∧ w'.cell? ⟨B, 3, none⟩ = some (.int .i64 (Sm.mk 1 2 1 0 0 (k : Int) 0).ep) ∧ w'.cell? ⟨B, 4, none⟩ = some (.int .i64 (Sm.mk 1 2 1 0 0 (k : Int) 0).x) ∧ w'.cell? ⟨B, 5, none⟩ = some (.int .i64 (Sm.mk 1 2 1 0 0 (k : Int) 0).y) ∧ w'.cell? ⟨B, 6, none⟩ = some (.int .i64 (Sm.mk 1 2 1 0 0 (k : Int) 0).z)) (first | (refine HK.out _ ?_; simp (maxDischargeDepth := 30) only [growR, growA, growD]; done) | (with_reducible exact HK.out _ gu10) | (refine HK.out _ ?_; simp (maxDischargeDepth := 30) [growA, gu10]; done) | (with_reducible exact HK.out _ gu11) | (refine HK.out _ ?_; simp (maxDischargeDepth := 30) [growA, growS, zu10, gu11]; done)) (first | (go_at_call 14; refine (leave_2 _).mono ?_; rintro e u10 ⟨rfl, hbu10⟩; have gu10 : Below wr.heap.size wr u10 := Grow.trans' (‹Grow wr _ ∧ _›).1 hbu10; have zu10 := gu10.size; have yu10 := hbu10.size; (try simp at yu10); (try (refine (fun v100 : wr.heap.size < u10.heap.size => ?_) ?_; rotate_left; focus omega)); obtain ⟨hcu10, hfu10⟩ := bcell hbu10) | (go_at_call 22; refine (then_at (Sm.mk 1 2 1 0 0 (k : Int) 0) (Sm.mk 2 1 1 0 0 0 0) (Sm.mk 1 1 1 0 0 0 0) 0 f2.out.2 f2.out.1 _).mono ?_; rintro e u11 ⟨rfl, hbu11⟩; have gu11 : Below wr.heap.size wr u11 := Grow.trans' (‹Grow wr _ ∧ _›).1 hbu11; have zu11 := gu11.size; have yu11 := hbu11.size; (try simp at yu11); (try (refine (fun v110 : wr.heap.size < u11.heap.size => ?_) ?_; rotate_left; focus omega)); (try (refine (fun v111 : u10.heap.size < u11.heap.size => ?_) ?_; rotate_left; focus omega)); obtain ⟨hcu11, hfu11⟩ := bcell hbu11))
      all_goals
        obtain ⟨X1, hX⟩ := world_of (‹Grow wr _ ∧ _›).1
        have HGW := (‹Grow wr _ ∧ _›).1
        rw [← hX] at HGW ⊢
        first
          | (refine cutP (P := SBox X1 u11.heap.size (Sm.mk 1 1 1 0 0 0 0)) ?_ ?_; (focus (rw [hX]; simp (maxDischargeDepth := 30) [SBox, go_sem, *]; done)); intro KO; obtain ⟨bO, hbl⟩ : ∃ b, b = u11.heap.size := ⟨_, rfl⟩; rw [← hbl] at KO ⊢; clear hbl)
          | (refine cutP (P := SBox X1 u10.heap.size (Sm.mk 1 1 1 0 0 0 0)) ?_ ?_; (focus (rw [hX]; simp (maxDischargeDepth := 30) [SBox, go_sem, *]; done)); intro KO; obtain ⟨bO, hbl⟩ : ∃ b, b = u10.heap.size := ⟨_, rfl⟩; rw [← hbl] at KO ⊢; clear hbl)
          | (refine cutP (P := SBox X1 wr.heap.size (Sm.mk 1 1 1 0 0 0 0)) ?_ ?_; (focus (rw [hX]; simp (maxDischargeDepth := 30) [SBox, go_sem, *]; done)); intro KO; obtain ⟨bO, hbl⟩ : ∃ b, b = wr.heap.size := ⟨_, rfl⟩; rw [← hbl] at KO ⊢; clear hbl)
        have KS : SBox X1 (B) (Sm.mk 1 2 1 0 0 (k : Int) 0) := HS.out.later HGW
        have G : Hid (Grow w X1) := hide (Grow.trans' G.out HGW)
        clear hX HGW HK
        clear hcu10 hfu10 hbu10 gu10 zu10 yu10
        clear hcu11 hfu11 hbu11 gu11 zu11 yu11
        obtain ⟨s0, s1, s2, s3, s4, s5, s6⟩ := KS
        dsimp only at s0 s1 s2 s3 s4 s5 s6
        go_wp2_with fail
        refine (apply_at (Sm.mk 1 2 1 0 0 (k : Int) 0) (Tm.mk 3 1 0 0 0) (Tm.mk 3 2 0 (k : Int) 0) 0 f3.out.2 f3.out.1 _).mono ?_
        rintro e w5 ⟨rfl, hb⟩
        have KS : SBox (w5.alloc (.cells #[.int .i64 (Tm.mk 3 2 0 (k : Int) 0).e, .int .i64 (Tm.mk 3 2 0 (k : Int) 0).d, .int .i64 (Tm.mk 3 2 0 (k : Int) 0).x, .int .i64 (Tm.mk 3 2 0 (k : Int) 0).y, .int .i64 (Tm.mk 3 2 0 (k : Int) 0).z] 30)) B (Sm.mk 1 2 1 0 0 (k : Int) 0) := (SBox.later hb ⟨s0, s1, s2, s3, s4, s5, s6⟩).later (Grow.alloc' _ _)
        have KO : SBox (w5.alloc (.cells #[.int .i64 (Tm.mk 3 2 0 (k : Int) 0).e, .int .i64 (Tm.mk 3 2 0 (k : Int) 0).d, .int .i64 (Tm.mk 3 2 0 (k : Int) 0).x, .int .i64 (Tm.mk 3 2 0 (k : Int) 0).y, .int .i64 (Tm.mk 3 2 0 (k : Int) 0).z] 30)) bO (Sm.mk 1 1 1 0 0 0 0) := (SBox.later hb KO).later (Grow.alloc' _ _)
        have KT : Box (w5.alloc (.cells #[.int .i64 (Tm.mk 3 2 0 (k : Int) 0).e, .int .i64 (Tm.mk 3 2 0 (k : Int) 0).d, .int .i64 (Tm.mk 3 2 0 (k : Int) 0).x, .int .i64 (Tm.mk 3 2 0 (k : Int) 0).y, .int .i64 (Tm.mk 3 2 0 (k : Int) 0).z] 30)) w5.heap.size (Tm.mk 3 2 0 (k : Int) 0) := Box.new _ _
        have G : Hid (Grow w (w5.alloc (.cells #[.int .i64 (Tm.mk 3 2 0 (k : Int) 0).e, .int .i64 (Tm.mk 3 2 0 (k : Int) 0).d, .int .i64 (Tm.mk 3 2 0 (k : Int) 0).x, .int .i64 (Tm.mk 3 2 0 (k : Int) 0).y, .int .i64 (Tm.mk 3 2 0 (k : Int) 0).z] 30))) := hide (Grow.trans' (Grow.trans' G.out hb) (Grow.alloc' _ _))
        clear s0 s1 s2 s3 s4 s5 s6 hb
        dsimp only at KS KO KT G
        go_wp2_with fail
        generalize hwb : w5.alloc (.cells #[.int .i64 3, .int .i64 2, .int .i64 0, .int .i64 (k : Int), .int .i64 0] 30) = wb at *
        obtain ⟨s0, s1, s2, s3, s4, s5, s6⟩ := KS
        obtain ⟨o0, o1, o2, o3, o4, o5, o6⟩ := KO
        obtain ⟨t0, t1, t2, t3, t4⟩ := KT
        dsimp only at s0 s1 s2 s3 s4 s5 s6 o0 o1 o2 o3 o4 o5 o6 t0 t1 t2 t3 t4
        have cs0 := cell_regrown s0; have cs1 := cell_regrown s1; have cs2 := cell_regrown s2; have cs3 := cell_regrown s3; have cs4 := cell_regrown s4; have cs5 := cell_regrown s5; have cs6 := cell_regrown s6; have co0 := cell_regrown o0; have co1 := cell_regrown o1; have co2 := cell_regrown o2; have co3 := cell_regrown o3; have co4 := cell_regrown o4; have co5 := cell_regrown o5; have co6 := cell_regrown o6; have ct0 := cell_regrown t0; have ct1 := cell_regrown t1; have ct2 := cell_regrown t2; have ct3 := cell_regrown t3; have ct4 := cell_regrown t4
        have q1 := hide (fun dd os => Calls.regrown_of (same_1 (grow (redrawn wb dd) os)))
        clear s0 s1 s2 s3 s4 s5 s6 o0 o1 o2 o3 o4 o5 o6 t0 t1 t2 t3 t4 hwb
        refine wp_region_quiet_below (by kernel_rfl) (by kernel_rfl) ?_
        repeat (go_big_quiet_step (first | (go_at_call 10; exact q1.out _ _)))
        refine wpQuiet_nil ?_
        intro _ hw'
        obtain ⟨⟨dq, osq⟩, hw''⟩ := hw'
        subst hw''
        have GB := hide (Grow.trans' G.out (below_regrown wb dq osq))
        clear cs0 cs1 cs2 cs3 cs4 cs5 cs6 co0 co1 co2 co3 co4 co5 co6 ct0 ct1 ct2 ct3 ct4 q1 G
        generalize grow (redrawn wb dq) osq = wc at *
        go_wp2
        go_ret
        exact ⟨rfl, GB.out⟩

set_option maxHeartbeats 4000000 in
set_option maxRecDepth 100000 in
theorem SummaryLoops_2 (dp m : Int) (n : Nat) (w : World) (hd : bits .and .i64 dp 3 = 2) (hn : bits .and .i64 m 63 = (n : Int)) (h63 : n ≤ 63) :
    Calls Try.prog 8 #[.int .i64 dp, .int .i64 m] w fun e w' => e = .returned (.bool true) ∧ Below w.heap.size w w' := by
  have G : Hid (Grow w w) := hide (Grow.rfl' w)
  have n1 : IntKind.i64.wrap 3 = 3 := by decide
  have el : ∀ w, (Op.equalIn 10000 24 (.agg #[.int .i64 2, .int .i64 2, .int .i64 2, .int .i64 0, .int .i64 0, .int .i64 0, .int .i64 0]) (.agg #[.int .i64 2, .int .i64 2, .int .i64 2, .int .i64 0, .int .i64 0, .int .i64 0, .int .i64 0])).run Try.prog w = .ok true w := fun w => eqSm (Sm.mk 2 2 2 0 0 0 0) (Sm.mk 2 2 2 0 0 0 0) w
  go_enter Try.func8, Try.ntmps8
  go_wp2_with fail
  refine (shown_any _).mono ?_
  rintro e w1 ⟨rfl, hb⟩
  have G : Hid (Grow w w1) := hide (Grow.trans' G.out hb)
  clear hb 
  go_wp2_with fail
  refine (enter_2 _).mono ?_
  rintro e w2 ⟨rfl, hb⟩
  have G : Hid (Grow w w2) := hide (Grow.trans' G.out hb)
  clear hb 
  have hB : w.heap.size ≤ w2.heap.size := G.out.size
  go_wp2_with fail
  have HS : Hid (SBox (w2.alloc (.cells #[.int .i64 2, .int .i64 3, .int .i64 2, .int .i64 0, .int .i64 0, .int .i64 0, .int .i64 0] 24)) w2.heap.size (Sm.mk 2 3 2 0 0 0 0)) := hide (SBox.new w2 (Sm.mk 2 3 2 0 0 0 0))
  have FZ : Hid (∀ o, (w2.alloc (.cells #[.int .i64 2, .int .i64 3, .int .i64 2, .int .i64 0, .int .i64 0, .int .i64 0, .int .i64 0] 24)).frozen? ⟨w2.heap.size, o, none⟩ = false) := hide (fun o => by simp [go_sem])
  have G := hide (Grow.trans' G.out (Grow.alloc' w2 (.cells #[.int .i64 2, .int .i64 3, .int .i64 2, .int .i64 0, .int .i64 0, .int .i64 0, .int .i64 0] 24)))
  generalize w2.alloc (.cells #[.int .i64 2, .int .i64 3, .int .i64 2, .int .i64 0, .int .i64 0, .int .i64 0, .int .i64 0] 24) = wa at *
  generalize w2.heap.size = B at *
  go_loopw [9] (fun u wr => ∃ k : Nat, k ≤ n ∧ u = .int .i64 k ∧ SBox wr B (Sm.mk 2 3 2 0 0 0 (k : Int)) ∧ (∀ o, wr.frozen? ⟨B, o, none⟩ = false) ∧ Grow w wr) (fun u _ => n - (intOf u).toNat)
  case atStart => exact ⟨0, Nat.zero_le _, rfl, HS.out, FZ.out, G.out⟩
  case round =>
    clear HS G FZ
    obtain ⟨k, hk, rfl, KS, fz, hg⟩ := hrel
    have FZ := hide fz
    have hlt : B < wr.heap.size := World.block_lt_of_cell? _ _ KS.1
    clear fz
    have G : Hid (Grow w wr) := hide hg
    clear hg
    by_cases hkn : k < n
    · have f1 := hide (lf_2 (k : Int) (by omega) (by omega))
      have HS : Hid (SBox wr (B) (Sm.mk 2 3 2 0 0 0 (k : Int))) := hide KS
      clear KS
      have HH : ∀ w', Grow wr w' → (fun w' => Grow wr w' ∧ w'.cell? ⟨B, 0, none⟩ = some (.int .i64 (Sm.mk 2 3 2 0 0 0 (k : Int)).f) ∧ w'.cell? ⟨B, 1, none⟩ = some (.int .i64 (Sm.mk 2 3 2 0 0 0 (k : Int)).t) ∧ w'.cell? ⟨B, 2, none⟩ = some (.int .i64 (Sm.mk 2 3 2 0 0 0 (k : Int)).k) ∧ w'.cell? ⟨B, 3, none⟩ = some (.int .i64 (Sm.mk 2 3 2 0 0 0 (k : Int)).ep) ∧ w'.cell? ⟨B, 4, none⟩ = some (.int .i64 (Sm.mk 2 3 2 0 0 0 (k : Int)).x) ∧ w'.cell? ⟨B, 5, none⟩ = some (.int .i64 (Sm.mk 2 3 2 0 0 0 (k : Int)).y) ∧ w'.cell? ⟨B, 6, none⟩ = some (.int .i64 (Sm.mk 2 3 2 0 0 0 (k : Int)).z)) w' := fun w' hq => by
        obtain ⟨qS0, qS1, qS2, qS3, qS4, qS5, qS6⟩ := HS.out.later hq
        exact ⟨hq, qS0, qS1, qS2, qS3, qS4, qS5, qS6⟩
      have HK := hide HH
      clear HH
      go_wp2_with fail
      go_region_held3 (fun w' => Grow wr w' ∧ w'.cell? ⟨B, 0, none⟩ = some (.int .i64 (Sm.mk 2 3 2 0 0 0 (k : Int)).f) ∧ w'.cell? ⟨B, 1, none⟩ = some (.int .i64 (Sm.mk 2 3 2 0 0 0 (k : Int)).t) ∧ w'.cell? ⟨B, 2, none⟩ = some (.int .i64 (Sm.mk 2 3 2 0 0 0 (k : Int)).k) ∧ w'.cell? ⟨B, 3, none⟩ = some (.int .i64 (Sm.mk 2 3 2 0 0 0 (k : Int)).ep) ∧ w'.cell? ⟨B, 4, none⟩ = some (.int .i64 (Sm.mk 2 3 2 0 0 0 (k : Int)).x) ∧ w'.cell? ⟨B, 5, none⟩ = some (.int .i64 (Sm.mk 2 3 2 0 0 0 (k : Int)).y) ∧ w'.cell? ⟨B, 6, none⟩ = some (.int .i64 (Sm.mk 2 3 2 0 0 0 (k : Int)).z)) (first | (refine HK.out _ ?_; simp (maxDischargeDepth := 30) only [growR, growA, growD]; done) | (with_reducible exact HK.out _ gu00) | (refine HK.out _ ?_; simp (maxDischargeDepth := 30) [growA, gu00]; done) | (with_reducible exact HK.out _ gu01) | (refine HK.out _ ?_; simp (maxDischargeDepth := 30) [growA, growS, zu00, gu01]; done)) (first | (go_at_call 16; refine (feed_3 _).mono ?_; rintro e u00 ⟨rfl, hbu00⟩; have gu00 : Below wr.heap.size wr u00 := Grow.trans' (‹Grow wr _ ∧ _›).1 hbu00; have zu00 := gu00.size; have yu00 := hbu00.size; (try simp at yu00); (try (refine (fun v000 : wr.heap.size < u00.heap.size => ?_) ?_; rotate_left; focus omega)); obtain ⟨hcu00, hfu00⟩ := bcell hbu00) | (go_at_call 22; refine (then_at (Sm.mk 2 3 2 0 0 0 (k : Int)) (Sm.mk 3 3 3 0 0 0 1) (Sm.mk 2 3 2 0 0 0 ((k : Int) + 1)) 0 f1.out.2 f1.out.1 _).mono ?_; rintro e u01 ⟨rfl, hbu01⟩; have gu01 : Below wr.heap.size wr u01 := Grow.trans' (‹Grow wr _ ∧ _›).1 hbu01; have zu01 := gu01.size; have yu01 := hbu01.size; (try simp at yu01); (try (refine (fun v010 : wr.heap.size < u01.heap.size => ?_) ?_; rotate_left; focus omega)); (try (refine (fun v011 : u00.heap.size < u01.heap.size => ?_) ?_; rotate_left; focus omega)); obtain ⟨hcu01, hfu01⟩ := bcell hbu01))
      all_goals
        obtain ⟨X0, hX⟩ := world_of (‹Grow wr _ ∧ _›).1
        have HGW := (‹Grow wr _ ∧ _›).1
        rw [← hX] at HGW ⊢
        first
          | (refine cutP (P := SBox X0 u01.heap.size (Sm.mk 2 3 2 0 0 0 ((k : Int) + 1))) ?_ ?_; (focus (rw [hX]; simp (maxDischargeDepth := 30) [SBox, go_sem, *]; done)); intro KN; obtain ⟨bN, hbl⟩ : ∃ b, b = u01.heap.size := ⟨_, rfl⟩; rw [← hbl] at KN ⊢; clear hbl)
          | (refine cutP (P := SBox X0 u00.heap.size (Sm.mk 2 3 2 0 0 0 ((k : Int) + 1))) ?_ ?_; (focus (rw [hX]; simp (maxDischargeDepth := 30) [SBox, go_sem, *]; done)); intro KN; obtain ⟨bN, hbl⟩ : ∃ b, b = u00.heap.size := ⟨_, rfl⟩; rw [← hbl] at KN ⊢; clear hbl)
          | (refine cutP (P := SBox X0 wr.heap.size (Sm.mk 2 3 2 0 0 0 ((k : Int) + 1))) ?_ ?_; (focus (rw [hX]; simp (maxDischargeDepth := 30) [SBox, go_sem, *]; done)); intro KN; obtain ⟨bN, hbl⟩ : ∃ b, b = wr.heap.size := ⟨_, rfl⟩; rw [← hbl] at KN ⊢; clear hbl)
        have KS : SBox X0 (B) (Sm.mk 2 3 2 0 0 0 (k : Int)) := HS.out.later HGW
        have G : Hid (Grow w X0) := hide (Grow.trans' G.out HGW)
        have fz : ∀ o, X0.frozen? ⟨B, o, none⟩ = false := fun o => ((bcell HGW).2 B o hlt).trans (FZ.out o)
        clear hX HGW HK
        clear hcu00 hfu00 hbu00 gu00 zu00 yu00
        clear hcu01 hfu01 hbu01 gu01 zu01 yu01
        obtain ⟨s0, s1, s2, s3, s4, s5, s6⟩ := KS
        obtain ⟨n0, n1, n2, n3, n4, n5, n6⟩ := KN
        dsimp only at s0 s1 s2 s3 s4 s5 s6 n0 n1 n2 n3 n4 n5 n6
        go_wp2
        go_roundw
        case rel =>
          refine ⟨k + 1, by omega, by go_num, ?_, ?_, ?_⟩
          · simp [SBox, go_sem, *]
          · intro o
            simp [go_sem, *]
          · iterate 7 refine Below.setCell ?_ (by simp; omega) _
            exact G.out
        case measure => simp [intOf]; omega
    · have hke : k = n := by omega
      subst hke
      have f2 := hide (ll_2 (k : Int) (by omega) (by omega))
      have f3 := hide (la_2 (k : Int) (by omega) (by omega))
      have HS : Hid (SBox wr (B) (Sm.mk 2 3 2 0 0 0 (k : Int))) := hide KS
      clear KS
      have HH : ∀ w', Grow wr w' → (fun w' => Grow wr w' ∧ w'.cell? ⟨B, 0, none⟩ = some (.int .i64 (Sm.mk 2 3 2 0 0 0 (k : Int)).f) ∧ w'.cell? ⟨B, 1, none⟩ = some (.int .i64 (Sm.mk 2 3 2 0 0 0 (k : Int)).t) ∧ w'.cell? ⟨B, 2, none⟩ = some (.int .i64 (Sm.mk 2 3 2 0 0 0 (k : Int)).k) ∧ w'.cell? ⟨B, 3, none⟩ = some (.int .i64 (Sm.mk 2 3 2 0 0 0 (k : Int)).ep) ∧ w'.cell? ⟨B, 4, none⟩ = some (.int .i64 (Sm.mk 2 3 2 0 0 0 (k : Int)).x) ∧ w'.cell? ⟨B, 5, none⟩ = some (.int .i64 (Sm.mk 2 3 2 0 0 0 (k : Int)).y) ∧ w'.cell? ⟨B, 6, none⟩ = some (.int .i64 (Sm.mk 2 3 2 0 0 0 (k : Int)).z)) w' := fun w' hq => by
        obtain ⟨qS0, qS1, qS2, qS3, qS4, qS5, qS6⟩ := HS.out.later hq
        exact ⟨hq, qS0, qS1, qS2, qS3, qS4, qS5, qS6⟩
      have HK := hide HH
      clear HH
      go_wp2_with fail
      go_region_held3 (fun w' => Grow wr w' ∧ w'.cell? ⟨B, 0, none⟩ = some (.int .i64 (Sm.mk 2 3 2 0 0 0 (k : Int)).f) ∧ w'.cell? ⟨B, 1, none⟩ = some (.int .i64 (Sm.mk 2 3 2 0 0 0 (k : Int)).t) ∧ w'.cell? ⟨B, 2, none⟩ = some (.int .i64 (Sm.mk 2 3 2 0 0 0 (k : Int)).k) ∧ w'.cell? ⟨B, 3, none⟩ = some (.int .i64 (Sm.mk 2 3 2 0 0 0 (k : Int)).ep) ∧ w'.cell? ⟨B, 4, none⟩ = some (.int .i64 (Sm.mk 2 3 2 0 0 0 (k : Int)).x) ∧ w'.cell? ⟨B, 5, none⟩ = some (.int .i64 (Sm.mk 2 3 2 0 0 0 (k : Int)).y) ∧ w'.cell? ⟨B, 6, none⟩ = some (.int .i64 (Sm.mk 2 3 2 0 0 0 (k : Int)).z)) (first | (refine HK.out _ ?_; simp (maxDischargeDepth := 30) only [growR, growA, growD]; done) | (with_reducible exact HK.out _ gu10) | (refine HK.out _ ?_; simp (maxDischargeDepth := 30) [growA, gu10]; done) | (with_reducible exact HK.out _ gu11) | (refine HK.out _ ?_; simp (maxDischargeDepth := 30) [growA, growS, zu10, gu11]; done)) (first | (go_at_call 14; refine (leave_3 _).mono ?_; rintro e u10 ⟨rfl, hbu10⟩; have gu10 : Below wr.heap.size wr u10 := Grow.trans' (‹Grow wr _ ∧ _›).1 hbu10; have zu10 := gu10.size; have yu10 := hbu10.size; (try simp at yu10); (try (refine (fun v100 : wr.heap.size < u10.heap.size => ?_) ?_; rotate_left; focus omega)); obtain ⟨hcu10, hfu10⟩ := bcell hbu10) | (go_at_call 22; refine (then_at (Sm.mk 2 3 2 0 0 0 (k : Int)) (Sm.mk 3 2 2 0 0 0 0) (Sm.mk 2 2 2 0 0 0 0) 0 f2.out.2 f2.out.1 _).mono ?_; rintro e u11 ⟨rfl, hbu11⟩; have gu11 : Below wr.heap.size wr u11 := Grow.trans' (‹Grow wr _ ∧ _›).1 hbu11; have zu11 := gu11.size; have yu11 := hbu11.size; (try simp at yu11); (try (refine (fun v110 : wr.heap.size < u11.heap.size => ?_) ?_; rotate_left; focus omega)); (try (refine (fun v111 : u10.heap.size < u11.heap.size => ?_) ?_; rotate_left; focus omega)); obtain ⟨hcu11, hfu11⟩ := bcell hbu11))
      all_goals
        obtain ⟨X1, hX⟩ := world_of (‹Grow wr _ ∧ _›).1
        have HGW := (‹Grow wr _ ∧ _›).1
        rw [← hX] at HGW ⊢
        first
          | (refine cutP (P := SBox X1 u11.heap.size (Sm.mk 2 2 2 0 0 0 0)) ?_ ?_; (focus (rw [hX]; simp (maxDischargeDepth := 30) [SBox, go_sem, *]; done)); intro KO; obtain ⟨bO, hbl⟩ : ∃ b, b = u11.heap.size := ⟨_, rfl⟩; rw [← hbl] at KO ⊢; clear hbl)
          | (refine cutP (P := SBox X1 u10.heap.size (Sm.mk 2 2 2 0 0 0 0)) ?_ ?_; (focus (rw [hX]; simp (maxDischargeDepth := 30) [SBox, go_sem, *]; done)); intro KO; obtain ⟨bO, hbl⟩ : ∃ b, b = u10.heap.size := ⟨_, rfl⟩; rw [← hbl] at KO ⊢; clear hbl)
          | (refine cutP (P := SBox X1 wr.heap.size (Sm.mk 2 2 2 0 0 0 0)) ?_ ?_; (focus (rw [hX]; simp (maxDischargeDepth := 30) [SBox, go_sem, *]; done)); intro KO; obtain ⟨bO, hbl⟩ : ∃ b, b = wr.heap.size := ⟨_, rfl⟩; rw [← hbl] at KO ⊢; clear hbl)
        have KS : SBox X1 (B) (Sm.mk 2 3 2 0 0 0 (k : Int)) := HS.out.later HGW
        have G : Hid (Grow w X1) := hide (Grow.trans' G.out HGW)
        clear hX HGW HK
        clear hcu10 hfu10 hbu10 gu10 zu10 yu10
        clear hcu11 hfu11 hbu11 gu11 zu11 yu11
        obtain ⟨s0, s1, s2, s3, s4, s5, s6⟩ := KS
        dsimp only at s0 s1 s2 s3 s4 s5 s6
        go_wp2_with fail
        refine (apply_at (Sm.mk 2 3 2 0 0 0 (k : Int)) (Tm.mk 3 2 0 0 0) (Tm.mk 3 3 0 0 (k : Int)) 0 f3.out.2 f3.out.1 _).mono ?_
        rintro e w5 ⟨rfl, hb⟩
        have KS : SBox (w5.alloc (.cells #[.int .i64 (Tm.mk 3 3 0 0 (k : Int)).e, .int .i64 (Tm.mk 3 3 0 0 (k : Int)).d, .int .i64 (Tm.mk 3 3 0 0 (k : Int)).x, .int .i64 (Tm.mk 3 3 0 0 (k : Int)).y, .int .i64 (Tm.mk 3 3 0 0 (k : Int)).z] 30)) B (Sm.mk 2 3 2 0 0 0 (k : Int)) := (SBox.later hb ⟨s0, s1, s2, s3, s4, s5, s6⟩).later (Grow.alloc' _ _)
        have KO : SBox (w5.alloc (.cells #[.int .i64 (Tm.mk 3 3 0 0 (k : Int)).e, .int .i64 (Tm.mk 3 3 0 0 (k : Int)).d, .int .i64 (Tm.mk 3 3 0 0 (k : Int)).x, .int .i64 (Tm.mk 3 3 0 0 (k : Int)).y, .int .i64 (Tm.mk 3 3 0 0 (k : Int)).z] 30)) bO (Sm.mk 2 2 2 0 0 0 0) := (SBox.later hb KO).later (Grow.alloc' _ _)
        have KT : Box (w5.alloc (.cells #[.int .i64 (Tm.mk 3 3 0 0 (k : Int)).e, .int .i64 (Tm.mk 3 3 0 0 (k : Int)).d, .int .i64 (Tm.mk 3 3 0 0 (k : Int)).x, .int .i64 (Tm.mk 3 3 0 0 (k : Int)).y, .int .i64 (Tm.mk 3 3 0 0 (k : Int)).z] 30)) w5.heap.size (Tm.mk 3 3 0 0 (k : Int)) := Box.new _ _
        have G : Hid (Grow w (w5.alloc (.cells #[.int .i64 (Tm.mk 3 3 0 0 (k : Int)).e, .int .i64 (Tm.mk 3 3 0 0 (k : Int)).d, .int .i64 (Tm.mk 3 3 0 0 (k : Int)).x, .int .i64 (Tm.mk 3 3 0 0 (k : Int)).y, .int .i64 (Tm.mk 3 3 0 0 (k : Int)).z] 30))) := hide (Grow.trans' (Grow.trans' G.out hb) (Grow.alloc' _ _))
        clear s0 s1 s2 s3 s4 s5 s6 hb
        dsimp only at KS KO KT G
        go_wp2_with fail
        generalize hwb : w5.alloc (.cells #[.int .i64 3, .int .i64 3, .int .i64 0, .int .i64 0, .int .i64 (k : Int)] 30) = wb at *
        obtain ⟨s0, s1, s2, s3, s4, s5, s6⟩ := KS
        obtain ⟨o0, o1, o2, o3, o4, o5, o6⟩ := KO
        obtain ⟨t0, t1, t2, t3, t4⟩ := KT
        dsimp only at s0 s1 s2 s3 s4 s5 s6 o0 o1 o2 o3 o4 o5 o6 t0 t1 t2 t3 t4
        have cs0 := cell_regrown s0; have cs1 := cell_regrown s1; have cs2 := cell_regrown s2; have cs3 := cell_regrown s3; have cs4 := cell_regrown s4; have cs5 := cell_regrown s5; have cs6 := cell_regrown s6; have co0 := cell_regrown o0; have co1 := cell_regrown o1; have co2 := cell_regrown o2; have co3 := cell_regrown o3; have co4 := cell_regrown o4; have co5 := cell_regrown o5; have co6 := cell_regrown o6; have ct0 := cell_regrown t0; have ct1 := cell_regrown t1; have ct2 := cell_regrown t2; have ct3 := cell_regrown t3; have ct4 := cell_regrown t4
        have q1 := hide (fun dd os => Calls.regrown_of (same_2 (grow (redrawn wb dd) os)))
        clear s0 s1 s2 s3 s4 s5 s6 o0 o1 o2 o3 o4 o5 o6 t0 t1 t2 t3 t4 hwb
        refine wp_region_quiet_below (by kernel_rfl) (by kernel_rfl) ?_
        repeat (go_big_quiet_step (first | (go_at_call 10; exact q1.out _ _)))
        refine wpQuiet_nil ?_
        intro _ hw'
        obtain ⟨⟨dq, osq⟩, hw''⟩ := hw'
        subst hw''
        have GB := hide (Grow.trans' G.out (below_regrown wb dq osq))
        clear cs0 cs1 cs2 cs3 cs4 cs5 cs6 co0 co1 co2 co3 co4 co5 co6 ct0 ct1 ct2 ct3 ct4 q1 G
        generalize grow (redrawn wb dq) osq = wc at *
        go_wp2
        go_ret
        exact ⟨rfl, GB.out⟩

theorem SummaryLoops_any (dp m : Int) (w : World) :
    Calls Try.prog 8 #[.int .i64 dp, .int .i64 m] w fun e w' => e = .returned (.bool true) ∧ Below w.heap.size w w' := by
  obtain ⟨d, h3, hd⟩ := and3 dp
  obtain ⟨n, h63, hn⟩ := and63 m
  have : d = 0 ∨ d = 1 ∨ d = 2 ∨ d = 3 := by omega
  rcases this with rfl | rfl | rfl | rfl
  · exact SummaryLoops_0 dp m n w hd hn h63
  · exact SummaryLoops_1 dp m n w hd hn h63
  · exact SummaryLoops_2 dp m n w hd hn h63
  · exact SummaryLoops_3 dp m w hd

end Go.Proofs.Ythidpjjphieedaa
