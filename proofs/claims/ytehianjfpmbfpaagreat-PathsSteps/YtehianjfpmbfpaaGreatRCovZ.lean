import Derived.Test.YtehianjfpmbfpaaGreatChFZ
import Derived.Test.YtehianjfpmbfpaaGreatLe
import Derived.Test.YtehianjfpmbfpaaGreatMy
import Derived.Test.YtehianjfpmbfpaaGreatOd
import Derived.Test.YtehianjfpmbfpaaGreatSLe
import Derived.Test.YtehianjfpmbfpaaGreatSROd
import Derived.Test.YtehianjfpmbfpaaGreatCovZ
section
/-
  The document's own May, LessEq, Order of times and of summaries, with the answer named.
-/
namespace Go.Proofs.YtehianjfpmbfpaaGreat
open Go.RowKit
set_option linter.unusedVariables false

theorem refMayT_at (x : Tm) {p : Bool} (h : kinT.may x = p) (w : World) : Calls Tryz.prog 22 #[.agg #[.int .i64 x.e, .int .i64 x.d, .int .i64 x.x, .int .i64 x.y, .int .i64 x.z]] w fun e w' => e = .returned (.bool p) ∧ Grow w w' := by
  rw [← h]; exact refMay_any x w
theorem refMayM_at (x : Sm) {p : Bool} (h : kinS.may x = p) (w : World) : Calls Tryz.prog 44 #[.agg #[.int .i64 x.f, .int .i64 x.t, .int .i64 x.k, .int .i64 x.ep, .int .i64 x.x, .int .i64 x.y, .int .i64 x.z]] w fun e w' => e = .returned (.bool p) ∧ Grow w w' := by
  rw [← h]; exact refMayS_any x w
theorem refLeT_at (x y : Tm) {p : Bool} (h : kinT.le x y = p) (w : World) : Calls Tryz.prog 24 #[.agg #[.int .i64 x.e, .int .i64 x.d, .int .i64 x.x, .int .i64 x.y, .int .i64 x.z], .agg #[.int .i64 y.e, .int .i64 y.d, .int .i64 y.x, .int .i64 y.y, .int .i64 y.z]] w fun e w' => e = .returned (.bool p) ∧ Grow w w' := by
  rw [← h]; exact refLessEq_any x y w
theorem refLeM_at (x y : Sm) {p : Bool} (h : kinS.le x y = p) (w : World) : Calls Tryz.prog 105 #[.agg #[.int .i64 x.f, .int .i64 x.t, .int .i64 x.k, .int .i64 x.ep, .int .i64 x.x, .int .i64 x.y, .int .i64 x.z], .agg #[.int .i64 y.f, .int .i64 y.t, .int .i64 y.k, .int .i64 y.ep, .int .i64 y.x, .int .i64 y.y, .int .i64 y.z]] w fun e w' => e = .returned (.bool p) ∧ Grow w w' := by
  rw [← h]; exact refLeS_any x y w
theorem refOrderT_at (x y : Tm) {r : Int} (h : kinT.ord x y = r) (w : World) : Calls Tryz.prog 71 #[.agg #[.int .i64 x.e, .int .i64 x.d, .int .i64 x.x, .int .i64 x.y, .int .i64 x.z], .agg #[.int .i64 y.e, .int .i64 y.d, .int .i64 y.x, .int .i64 y.y, .int .i64 y.z]] w fun e w' => e = .returned (.int .i64 r) ∧ Grow w w' := by
  rw [← h]; exact refOrder_any x y w
theorem refOrderT_neg (x y : Tm) (h : kinT.ord x y < 0) (w : World) : Calls Tryz.prog 71 #[.agg #[.int .i64 x.e, .int .i64 x.d, .int .i64 x.x, .int .i64 x.y, .int .i64 x.z], .agg #[.int .i64 y.e, .int .i64 y.d, .int .i64 y.x, .int .i64 y.y, .int .i64 y.z]] w fun e w' => e = .returned (.int .i64 (-1)) ∧ Grow w w' :=
  refOrderT_at x y (orderI_neg x y h) w
theorem refOrderM_at (x y : Sm) {r : Int} (h : kinS.ord x y = r) (w : World) : Calls Tryz.prog 107 #[.agg #[.int .i64 x.f, .int .i64 x.t, .int .i64 x.k, .int .i64 x.ep, .int .i64 x.x, .int .i64 x.y, .int .i64 x.z], .agg #[.int .i64 y.f, .int .i64 y.t, .int .i64 y.k, .int .i64 y.ep, .int .i64 y.x, .int .i64 y.y, .int .i64 y.z]] w fun e w' => e = .returned (.int .i64 r) ∧ Grow w w' := by
  rw [← h]; exact refOrderS_any x y w
theorem refOrderM_neg (x y : Sm) (h : kinS.ord x y < 0) (w : World) : Calls Tryz.prog 107 #[.agg #[.int .i64 x.f, .int .i64 x.t, .int .i64 x.k, .int .i64 x.ep, .int .i64 x.x, .int .i64 x.y, .int .i64 x.z], .agg #[.int .i64 y.f, .int .i64 y.t, .int .i64 y.k, .int .i64 y.ep, .int .i64 y.x, .int .i64 y.y, .int .i64 y.z]] w fun e w' => e = .returned (.int .i64 (-1)) ∧ Grow w w' :=
  refOrderM_at x y (orderS_neg x y h) w

end Go.Proofs.YtehianjfpmbfpaaGreat
end

section
/-
  What the document's own Covers and CoversSum do to the world: of every row and every time (or summary) whether one of the row is at most it; what was there stays as it was.
-/
namespace Go.Proofs.YtehianjfpmbfpaaGreat
set_option maxRecDepth 100000
open Go.RowKit Go.Sort
set_option linter.unusedVariables false

set_option maxHeartbeats 2000000 in
theorem refCovT_any (s : Option Addr) (n cap : Nat) (d : List Tm) (x : Tm) {p : Bool} (hp : coverB kinT d x = p) (w : World) (hbig : n ≤ 1000000000000) (hd : IsTms w s n cap d) :
    Calls Tryz.prog 20 #[.slice s n cap, .agg #[.int .i64 x.e, .int .i64 x.d, .int .i64 x.x, .int .i64 x.y, .int .i64 x.z]] w fun e w' => e = .returned (.bool p) ∧ Grow w w' := by
  have HP := hide hp
  have G0 : Hid (Grow w (w.alloc (.cells #[.int .i64 x.e, .int .i64 x.d, .int .i64 x.x, .int .i64 x.y, .int .i64 x.z] 43))) := hide (Grow.alloc' _ _)
  have HI := hide (hd.later G0.out)
  have KX : Hid (Box (w.alloc (.cells #[.int .i64 x.e, .int .i64 x.d, .int .i64 x.x, .int .i64 x.y, .int .i64 x.z] 43)) w.heap.size x) := hide (Box.new _ _)
  clear hd hp
  go_enter Tryz.func20, Tryz.ntmps20
  go_wp2_with fail
  generalize w.alloc (.cells #[.int .i64 x.e, .int .i64 x.d, .int .i64 x.x, .int .i64 x.y, .int .i64 x.z] 43) = w0 at *
  go_loopw [5] (fun i wr => ∃ k : Nat, k ≤ n ∧ i = .int .i64 k ∧ Grow w0 wr ∧ ∀ j (h : j < d.length), j < k → kinT.le d[j] x = false) (fun i _ => n - (intOf i).toNat)
  case atStart => exact ⟨0, Nat.zero_le _, rfl, Grow.rfl' _, fun j _ h => by omega⟩
  case round =>
    obtain ⟨k, hk, rfl, hg, hall⟩ := hrel
    have HA := hide hall
    have HG := hide hg
    clear hall
    by_cases hlt : k < n
    · have hkd : k < d.length := by rw [HI.out.1]; exact hlt
      have hne : ¬ d = [] := fun h => by rw [h] at hkd; simp at hkd
      obtain ⟨b, o, rfl, hr1⟩ := HI.out.2.2.resolve_left hne
      obtain ⟨p0, p1, p2, p3, p4⟩ := (hr1.later hg).at k hkd
      obtain ⟨x0, x1, x2, x3, x4⟩ := KX.out.later hg
      obtain ⟨y, hy⟩ : ∃ y, y = d[k] := ⟨_, rfl⟩
      rw [← hy] at p0 p1 p2 p3 p4
      have hi1 : (0 : Int) ≤ (k : Int) := by omega
      have hi2 : (k : Int) < (n : Int) := by omega
      have HY := hide hy
      clear hne hr1 hy hg
      cases hq : kinT.le y x
      all_goals
        have CC := hide (fun dd os => Calls.regrown_of (refLeT_at y x hq (grow (redrawn wr dd) os)))
        have HQ := hide hq
        clear hq
        have sx0 := cell_regrown x0; have sp0 := cell_regrown p0; have sx1 := cell_regrown x1; have sp1 := cell_regrown p1; have sx2 := cell_regrown x2; have sp2 := cell_regrown p2; have sx3 := cell_regrown x3; have sp3 := cell_regrown p3; have sx4 := cell_regrown x4; have sp4 := cell_regrown p4
        go_wp2
        refine wp_region_quiet_below (by kernel_rfl) (by kernel_rfl) ?_
        repeat (go_big_quiet_step (exact CC.out _ _))
        refine wpQuiet_nil ?_
        intro _ hw'
        obtain ⟨⟨dq, osq⟩, hw''⟩ := hw'
        subst hw''
        have GB := hide (Grow.trans' HG.out (below_regrown wr dq osq))
        clear CC sx0 sp0 x0 p0 sx1 sp1 x1 p1 sx2 sp2 x2 p2 sx3 sp3 x3 p3 sx4 sp4 x4 p4
        generalize grow (redrawn wr dq) osq = wc at *
        go_wp2
      · go_roundw
        case rel =>
          refine ⟨k + 1, by omega, by go_num, GB.out, fun j hj h => ?_⟩
          by_cases hjk : j < k
          · exact HA.out j hj hjk
          · have : j = k := by omega
            subst this
            rw [← HY.out]; exact HQ.out
        case measure => simp [intOf]; omega
      · go_ret
        have e := cover_cons kinT d x k hkd (by rw [← HY.out]; exact HQ.out)
        rw [HP.out] at e
        subst e
        exact ⟨rfl, Grow.trans' G0.out GB.out⟩
    · have hi2 : ¬ (k : Int) < (n : Int) := by omega
      clear hg
      go_wp2
      go_ret
      have e := cover_none kinT d x (fun j hj => HA.out j hj (by rw [HI.out.1] at hj; omega))
      rw [HP.out] at e
      subst e
      exact ⟨rfl, Grow.trans' G0.out HG.out⟩
set_option maxHeartbeats 2000000 in
theorem refCovM_any (s : Option Addr) (n cap : Nat) (d : List Sm) (x : Sm) {p : Bool} (hp : coverB kinS d x = p) (w : World) (hbig : n ≤ 1000000000000) (hd : IsSms w s n cap d) :
    Calls Tryz.prog 85 #[.slice s n cap, .agg #[.int .i64 x.f, .int .i64 x.t, .int .i64 x.k, .int .i64 x.ep, .int .i64 x.x, .int .i64 x.y, .int .i64 x.z]] w fun e w' => e = .returned (.bool p) ∧ Grow w w' := by
  have HP := hide hp
  have G0 : Hid (Grow w (w.alloc (.cells #[.int .i64 x.f, .int .i64 x.t, .int .i64 x.k, .int .i64 x.ep, .int .i64 x.x, .int .i64 x.y, .int .i64 x.z] 68))) := hide (Grow.alloc' _ _)
  have HI := hide (hd.later G0.out)
  have KX : Hid (SBox (w.alloc (.cells #[.int .i64 x.f, .int .i64 x.t, .int .i64 x.k, .int .i64 x.ep, .int .i64 x.x, .int .i64 x.y, .int .i64 x.z] 68)) w.heap.size x) := hide (SBox.new _ _)
  clear hd hp
  go_enter Tryz.func85, Tryz.ntmps85
  go_wp2_with fail
  generalize w.alloc (.cells #[.int .i64 x.f, .int .i64 x.t, .int .i64 x.k, .int .i64 x.ep, .int .i64 x.x, .int .i64 x.y, .int .i64 x.z] 68) = w0 at *
  go_loopw [5] (fun i wr => ∃ k : Nat, k ≤ n ∧ i = .int .i64 k ∧ Grow w0 wr ∧ ∀ j (h : j < d.length), j < k → kinS.le d[j] x = false) (fun i _ => n - (intOf i).toNat)
  case atStart => exact ⟨0, Nat.zero_le _, rfl, Grow.rfl' _, fun j _ h => by omega⟩
  case round =>
    obtain ⟨k, hk, rfl, hg, hall⟩ := hrel
    have HA := hide hall
    have HG := hide hg
    clear hall
    by_cases hlt : k < n
    · have hkd : k < d.length := by rw [HI.out.1]; exact hlt
      have hne : ¬ d = [] := fun h => by rw [h] at hkd; simp at hkd
      obtain ⟨b, o, rfl, hr1⟩ := HI.out.2.2.resolve_left hne
      obtain ⟨p0, p1, p2, p3, p4, p5, p6⟩ := (hr1.later hg).at k hkd
      obtain ⟨x0, x1, x2, x3, x4, x5, x6⟩ := KX.out.later hg
      obtain ⟨y, hy⟩ : ∃ y, y = d[k] := ⟨_, rfl⟩
      rw [← hy] at p0 p1 p2 p3 p4 p5 p6
      have hi1 : (0 : Int) ≤ (k : Int) := by omega
      have hi2 : (k : Int) < (n : Int) := by omega
      have HY := hide hy
      clear hne hr1 hy hg
      cases hq : kinS.le y x
      all_goals
        have CC := hide (fun dd os => Calls.regrown_of (refLeM_at y x hq (grow (redrawn wr dd) os)))
        have HQ := hide hq
        clear hq
        have sx0 := cell_regrown x0; have sp0 := cell_regrown p0; have sx1 := cell_regrown x1; have sp1 := cell_regrown p1; have sx2 := cell_regrown x2; have sp2 := cell_regrown p2; have sx3 := cell_regrown x3; have sp3 := cell_regrown p3; have sx4 := cell_regrown x4; have sp4 := cell_regrown p4; have sx5 := cell_regrown x5; have sp5 := cell_regrown p5; have sx6 := cell_regrown x6; have sp6 := cell_regrown p6
        go_wp2
        refine wp_region_quiet_below (by kernel_rfl) (by kernel_rfl) ?_
        repeat (go_big_quiet_step (exact CC.out _ _))
        refine wpQuiet_nil ?_
        intro _ hw'
        obtain ⟨⟨dq, osq⟩, hw''⟩ := hw'
        subst hw''
        have GB := hide (Grow.trans' HG.out (below_regrown wr dq osq))
        clear CC sx0 sp0 x0 p0 sx1 sp1 x1 p1 sx2 sp2 x2 p2 sx3 sp3 x3 p3 sx4 sp4 x4 p4 sx5 sp5 x5 p5 sx6 sp6 x6 p6
        generalize grow (redrawn wr dq) osq = wc at *
        go_wp2
      · go_roundw
        case rel =>
          refine ⟨k + 1, by omega, by go_num, GB.out, fun j hj h => ?_⟩
          by_cases hjk : j < k
          · exact HA.out j hj hjk
          · have : j = k := by omega
            subst this
            rw [← HY.out]; exact HQ.out
        case measure => simp [intOf]; omega
      · go_ret
        have e := cover_cons kinS d x k hkd (by rw [← HY.out]; exact HQ.out)
        rw [HP.out] at e
        subst e
        exact ⟨rfl, Grow.trans' G0.out GB.out⟩
    · have hi2 : ¬ (k : Int) < (n : Int) := by omega
      clear hg
      go_wp2
      go_ret
      have e := cover_none kinS d x (fun j hj => HA.out j hj (by rw [HI.out.1] at hj; omega))
      rw [HP.out] at e
      subst e
      exact ⟨rfl, Grow.trans' G0.out HG.out⟩

end Go.Proofs.YtehianjfpmbfpaaGreat
end
