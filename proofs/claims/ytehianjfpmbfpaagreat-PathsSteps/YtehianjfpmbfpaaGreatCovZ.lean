/-
  What covers does to the world: of every row and every time (or summary) whether one of the row is at most it; what was there stays as it was.
-/
import Derived.Test.YtehianjfpmbfpaaGreatRowVZ
import Derived.Test.YtehianjfpmbfpaaGreatLe
import Derived.Test.YtehianjfpmbfpaaGreatSLe
import Derived.Test.YtehianjfpmbfpaaGreatChFZ
namespace Go.Proofs.YtehianjfpmbfpaaGreat
open Go.RowKit
set_option linter.unusedVariables false

theorem run_store_fn (P : Program) (w : World) (a : Addr) (m : Mode) (fn : Fn) (first captured : Array Value) : (store a (.func fn first captured) m).run P w = stored P w a (.func fn first captured) m := run_store P w a _ m rfl
attribute [local go_sem] run_store_fn

theorem cover_cons {α : Type} (O : Kin α) (d : List α) (x : α) (k : Nat) (h : k < d.length) (hl : O.le d[k] x = true) : coverB O d x = true :=
  (cover_iff O d x).2 ⟨d[k], List.getElem_mem _, hl⟩
theorem cover_none {α : Type} (O : Kin α) (d : List α) (x : α) (h : ∀ k (h : k < d.length), O.le d[k] x = false) : coverB O d x = false := by
  cases hc : coverB O d x
  · rfl
  · obtain ⟨y, hy, hl⟩ := (cover_iff O d x).1 hc
    obtain ⟨k, hk, rfl⟩ := List.getElem_of_mem hy
    rw [h k hk] at hl; cases hl

/-- The functions that a chain asks lie in a block. -/
def OBoxT (w : World) (b : Nat) : Prop :=
  w.cell? ⟨b, 0, none⟩ = some (.func (.func 87) #[] #[]) ∧ w.cell? ⟨b, 1, none⟩ = some (.func (.func 88) #[] #[]) ∧ w.cell? ⟨b, 2, none⟩ = some (.func (.func 89) #[] #[])
theorem OBoxT.later {w w' : World} {b : Nat} (hg : Grow w w') (h : OBoxT w b) : OBoxT w' b := ⟨cell_later hg h.1, cell_later hg h.2.1, cell_later hg h.2.2⟩
theorem OBoxT.lt {w : World} {b : Nat} (h : OBoxT w b) : b < w.heap.size := World.block_lt_of_cell? _ _ h.1
theorem OBoxT.new (w : World) : OBoxT (w.alloc (.cells #[.func (.func 87) #[] #[], .func (.func 88) #[] #[], .func (.func 89) #[] #[]] 112)) w.heap.size := by
  simp [OBoxT, go_sem]
theorem mkT_any (w : World) :
    Calls Tryz.prog 67 #[] w fun e w' => e = .returned (.agg #[.func (.func 87) #[] #[], .func (.func 88) #[] #[], .func (.func 89) #[] #[]]) ∧ Grow w w' := by
  go_enter Tryz.func67, Tryz.ntmps67
  go_wp2
  refine bodyPost_ret (v := .agg #[.func (.func 87) #[] #[], .func (.func 88) #[] #[], .func (.func 89) #[] #[]]) (by simp [results, Tryz.results67, go_sem]) rfl ⟨rfl, ?_⟩
  repeat (first | exact Below.refl _ _ | apply below_drewN | refine Below.alloc ?_ (by simp; try omega) _ | refine Below.setCell ?_ (by simp; try omega) _)

set_option maxHeartbeats 400000 in
theorem cov1T (y x : Tm) (B X : Nat) (w : World) (hB : OBoxT w B) (hX : Box w X x) :
    Calls Tryz.prog 115 #[.agg #[.int .i64 y.e, .int .i64 y.d, .int .i64 y.x, .int .i64 y.y, .int .i64 y.z], .pointer (some ⟨B, 0, none⟩), .pointer (some ⟨X, 0, none⟩)] w fun e w' => e = .returned (.bool (kinT.le y x)) ∧ Grow w w' := by
  have hBl : B < w.heap.size := hB.lt
  have hXl : X < w.heap.size := World.block_lt_of_cell? _ _ hX.1
  obtain ⟨-, b1, -⟩ := hB
  obtain ⟨x0, x1, x2, x3, x4⟩ := hX
  go_enter Tryz.func115, Tryz.ntmps115
  go_wp2_with fail
  refine (lessEq_any y x _).mono ?_
  rintro e w1 ⟨rfl, hb⟩
  go_wp2
  go_ret
  exact ⟨rfl, Grow.trans' (Grow.alloc' _ _) hb⟩

set_option maxHeartbeats 1000000 in
theorem idxT_any (s : Option Addr) (n cap : Nat) (d : List Tm) (x : Tm) (B X : Nat) (w : World) (hbig : n ≤ 1000000000000) (hd : IsTms w s n cap d) (hB : OBoxT w B) (hX : Box w X x) :
    Calls Tryz.prog 134 #[.slice s n cap, .func (.func 115) #[] #[.pointer (some ⟨B, 0, none⟩), .pointer (some ⟨X, 0, none⟩)]] w
      fun e w' => (∃ r : Int, e = .returned (.int .i64 r) ∧ (decide (0 ≤ r) = true ↔ coverB kinT d x = true)) ∧ Grow w w' := by
  have H1 := hide hd.2.2
  have HD := hide hd.1
  have HB := hide hB
  have HX := hide hX
  clear hd hB hX
  go_enter Tryz.func134, Tryz.ntmps134
  go_wp2
  go_loopw [8] (fun i wr => ∃ k : Nat, k ≤ n ∧ i = .int .i64 k ∧ Grow w wr ∧ ∀ j (h : j < d.length), j < k → kinT.le d[j] x = false) (fun i _ => n - (intOf i).toNat)
  case atStart => exact ⟨0, Nat.zero_le _, rfl, Grow.rfl' _, fun j _ h => by omega⟩
  case round =>
    obtain ⟨k, hk, rfl, hg, hall⟩ := hrel
    have HA := hide hall
    have HG := hide hg
    clear hall
    by_cases hlt : k < n
    · have hkd : k < d.length := by rw [HD.out]; exact hlt
      have hne : ¬ d = [] := fun h => by rw [h] at hkd; simp at hkd
      obtain ⟨b, o, rfl, hr1⟩ := H1.out.resolve_left hne
      obtain ⟨p0, p1, p2, p3, p4⟩ := (hr1.later hg).at k hkd
      obtain ⟨y, hy⟩ : ∃ y, y = d[k] := ⟨_, rfl⟩
      rw [← hy] at p0 p1 p2 p3 p4
      have hi1 : (0 : Int) ≤ (k : Int) := by omega
      have hi2 : (k : Int) < (n : Int) := by omega
      have HY := hide hy
      have CC := hide (cov1T y x B X wr (HB.out.later hg) (HX.out.later hg))
      clear hne hr1 hy hg
      generalize hp : kinT.le y x = p at CC
      have HP := hide hp
      clear hp
      cases p
      · go_wp2_with fail
        refine (CC.out).mono ?_
        rintro e w1 ⟨rfl, hb⟩
        go_wp2
        go_roundw
        case rel =>
          refine ⟨k + 1, by omega, by go_num, Grow.trans' HG.out hb, fun j hj h => ?_⟩
          by_cases hjk : j < k
          · exact HA.out j hj hjk
          · have : j = k := by omega
            subst this
            rw [← HY.out]; exact HP.out
        case measure => simp [intOf]; omega
      · go_wp2_with fail
        refine (CC.out).mono ?_
        rintro e w1 ⟨rfl, hb⟩
        go_wp2
        go_ret
        refine ⟨⟨k, rfl, ?_⟩, Grow.trans' HG.out hb⟩
        rw [cover_cons kinT d x k hkd (by rw [← HY.out]; exact HP.out)]
        simp
    · go_wp2
      go_ret
      refine ⟨⟨-1, rfl, ?_⟩, HG.out⟩
      rw [cover_none kinT d x (fun j hj => HA.out j hj (by rw [HD.out] at hj; omega))]
      simp

set_option maxHeartbeats 400000 in
theorem hasT_any (s : Option Addr) (n cap : Nat) (d : List Tm) (x : Tm) (B X : Nat) (w : World) (hbig : n ≤ 1000000000000) (hd : IsTms w s n cap d) (hB : OBoxT w B) (hX : Box w X x) :
    Calls Tryz.prog 114 #[.slice s n cap, .func (.func 115) #[] #[.pointer (some ⟨B, 0, none⟩), .pointer (some ⟨X, 0, none⟩)]] w
      fun e w' => e = .returned (.bool (coverB kinT d x)) ∧ Grow w w' := by
  have CC := hide (idxT_any s n cap d x B X w hbig hd hB hX)
  clear hd hB hX
  go_enter Tryz.func114, Tryz.ntmps114
  go_wp2_with fail
  refine (CC.out).mono ?_
  rintro e w1 ⟨⟨r, rfl, hr⟩, hb⟩
  have HR := hide hr
  clear hr
  go_wp2
  go_ret
  exact ⟨ret_bool HR.out, hb⟩

set_option maxHeartbeats 400000 in
theorem covT_any (s : Option Addr) (n cap : Nat) (d : List Tm) (x : Tm) (w : World) (hbig : n ≤ 1000000000000) (hd : IsTms w s n cap d) :
    Calls Tryz.prog 92 #[.agg #[.func (.func 87) #[] #[], .func (.func 88) #[] #[], .func (.func 89) #[] #[]], .slice s n cap, .agg #[.int .i64 x.e, .int .i64 x.d, .int .i64 x.x, .int .i64 x.y, .int .i64 x.z]] w
      fun e w' => e = .returned (.bool (coverB kinT d x)) ∧ Grow w w' := by
  have HB := hide (OBoxT.new w)
  have HD := hide (hd.later (Grow.alloc' w (.cells #[.func (.func 87) #[] #[], .func (.func 88) #[] #[], .func (.func 89) #[] #[]] 112)))
  clear hd
  go_enter Tryz.func92, Tryz.ntmps92
  go_wp2_with fail
  refine (hasT_any s n cap d x w.heap.size (w.heap.size + 1) _ hbig (HD.out.later (Grow.alloc' _ _)) (HB.out.later (Grow.alloc' _ _)) ?_).mono ?_
  · simp [Box, go_sem]
  rintro e w1 ⟨rfl, hb⟩
  go_wp2
  go_ret
  exact ⟨rfl, Grow.trans' (Grow.trans' (Grow.alloc' _ _) (Grow.alloc' _ _)) hb⟩
/-- The functions that a chain asks lie in a block. -/
def OBoxM (w : World) (b : Nat) : Prop :=
  w.cell? ⟨b, 0, none⟩ = some (.func (.func 93) #[] #[]) ∧ w.cell? ⟨b, 1, none⟩ = some (.func (.func 119) #[] #[]) ∧ w.cell? ⟨b, 2, none⟩ = some (.func (.func 120) #[] #[])
theorem OBoxM.later {w w' : World} {b : Nat} (hg : Grow w w') (h : OBoxM w b) : OBoxM w' b := ⟨cell_later hg h.1, cell_later hg h.2.1, cell_later hg h.2.2⟩
theorem OBoxM.lt {w : World} {b : Nat} (h : OBoxM w b) : b < w.heap.size := World.block_lt_of_cell? _ _ h.1
theorem OBoxM.new (w : World) : OBoxM (w.alloc (.cells #[.func (.func 93) #[] #[], .func (.func 119) #[] #[], .func (.func 120) #[] #[]] 130)) w.heap.size := by
  simp [OBoxM, go_sem]
theorem mkM_any (w : World) :
    Calls Tryz.prog 102 #[] w fun e w' => e = .returned (.agg #[.func (.func 93) #[] #[], .func (.func 119) #[] #[], .func (.func 120) #[] #[]]) ∧ Grow w w' := by
  go_enter Tryz.func102, Tryz.ntmps102
  go_wp2
  refine bodyPost_ret (v := .agg #[.func (.func 93) #[] #[], .func (.func 119) #[] #[], .func (.func 120) #[] #[]]) (by simp [results, Tryz.results102, go_sem]) rfl ⟨rfl, ?_⟩
  repeat (first | exact Below.refl _ _ | apply below_drewN | refine Below.alloc ?_ (by simp; try omega) _ | refine Below.setCell ?_ (by simp; try omega) _)

set_option maxHeartbeats 400000 in
theorem cov1M (y x : Sm) (B X : Nat) (w : World) (hB : OBoxM w B) (hX : SBox w X x) :
    Calls Tryz.prog 140 #[.agg #[.int .i64 y.f, .int .i64 y.t, .int .i64 y.k, .int .i64 y.ep, .int .i64 y.x, .int .i64 y.y, .int .i64 y.z], .pointer (some ⟨B, 0, none⟩), .pointer (some ⟨X, 0, none⟩)] w fun e w' => e = .returned (.bool (kinS.le y x)) ∧ Grow w w' := by
  have hBl : B < w.heap.size := hB.lt
  have hXl : X < w.heap.size := World.block_lt_of_cell? _ _ hX.1
  obtain ⟨-, b1, -⟩ := hB
  obtain ⟨x0, x1, x2, x3, x4, x5, x6⟩ := hX
  go_enter Tryz.func140, Tryz.ntmps140
  go_wp2_with fail
  refine (sLe_any y x _).mono ?_
  rintro e w1 ⟨rfl, hb⟩
  go_wp2
  go_ret
  exact ⟨rfl, Grow.trans' (Grow.alloc' _ _) hb⟩

set_option maxHeartbeats 1000000 in
theorem idxM_any (s : Option Addr) (n cap : Nat) (d : List Sm) (x : Sm) (B X : Nat) (w : World) (hbig : n ≤ 1000000000000) (hd : IsSms w s n cap d) (hB : OBoxM w B) (hX : SBox w X x) :
    Calls Tryz.prog 147 #[.slice s n cap, .func (.func 140) #[] #[.pointer (some ⟨B, 0, none⟩), .pointer (some ⟨X, 0, none⟩)]] w
      fun e w' => (∃ r : Int, e = .returned (.int .i64 r) ∧ (decide (0 ≤ r) = true ↔ coverB kinS d x = true)) ∧ Grow w w' := by
  have H1 := hide hd.2.2
  have HD := hide hd.1
  have HB := hide hB
  have HX := hide hX
  clear hd hB hX
  go_enter Tryz.func147, Tryz.ntmps147
  go_wp2
  go_loopw [8] (fun i wr => ∃ k : Nat, k ≤ n ∧ i = .int .i64 k ∧ Grow w wr ∧ ∀ j (h : j < d.length), j < k → kinS.le d[j] x = false) (fun i _ => n - (intOf i).toNat)
  case atStart => exact ⟨0, Nat.zero_le _, rfl, Grow.rfl' _, fun j _ h => by omega⟩
  case round =>
    obtain ⟨k, hk, rfl, hg, hall⟩ := hrel
    have HA := hide hall
    have HG := hide hg
    clear hall
    by_cases hlt : k < n
    · have hkd : k < d.length := by rw [HD.out]; exact hlt
      have hne : ¬ d = [] := fun h => by rw [h] at hkd; simp at hkd
      obtain ⟨b, o, rfl, hr1⟩ := H1.out.resolve_left hne
      obtain ⟨p0, p1, p2, p3, p4, p5, p6⟩ := (hr1.later hg).at k hkd
      obtain ⟨y, hy⟩ : ∃ y, y = d[k] := ⟨_, rfl⟩
      rw [← hy] at p0 p1 p2 p3 p4 p5 p6
      have hi1 : (0 : Int) ≤ (k : Int) := by omega
      have hi2 : (k : Int) < (n : Int) := by omega
      have HY := hide hy
      have CC := hide (cov1M y x B X wr (HB.out.later hg) (HX.out.later hg))
      clear hne hr1 hy hg
      generalize hp : kinS.le y x = p at CC
      have HP := hide hp
      clear hp
      cases p
      · go_wp2_with fail
        refine (CC.out).mono ?_
        rintro e w1 ⟨rfl, hb⟩
        go_wp2
        go_roundw
        case rel =>
          refine ⟨k + 1, by omega, by go_num, Grow.trans' HG.out hb, fun j hj h => ?_⟩
          by_cases hjk : j < k
          · exact HA.out j hj hjk
          · have : j = k := by omega
            subst this
            rw [← HY.out]; exact HP.out
        case measure => simp [intOf]; omega
      · go_wp2_with fail
        refine (CC.out).mono ?_
        rintro e w1 ⟨rfl, hb⟩
        go_wp2
        go_ret
        refine ⟨⟨k, rfl, ?_⟩, Grow.trans' HG.out hb⟩
        rw [cover_cons kinS d x k hkd (by rw [← HY.out]; exact HP.out)]
        simp
    · go_wp2
      go_ret
      refine ⟨⟨-1, rfl, ?_⟩, HG.out⟩
      rw [cover_none kinS d x (fun j hj => HA.out j hj (by rw [HD.out] at hj; omega))]
      simp

set_option maxHeartbeats 400000 in
theorem hasM_any (s : Option Addr) (n cap : Nat) (d : List Sm) (x : Sm) (B X : Nat) (w : World) (hbig : n ≤ 1000000000000) (hd : IsSms w s n cap d) (hB : OBoxM w B) (hX : SBox w X x) :
    Calls Tryz.prog 139 #[.slice s n cap, .func (.func 140) #[] #[.pointer (some ⟨B, 0, none⟩), .pointer (some ⟨X, 0, none⟩)]] w
      fun e w' => e = .returned (.bool (coverB kinS d x)) ∧ Grow w w' := by
  have CC := hide (idxM_any s n cap d x B X w hbig hd hB hX)
  clear hd hB hX
  go_enter Tryz.func139, Tryz.ntmps139
  go_wp2_with fail
  refine (CC.out).mono ?_
  rintro e w1 ⟨⟨r, rfl, hr⟩, hb⟩
  have HR := hide hr
  clear hr
  go_wp2
  go_ret
  exact ⟨ret_bool HR.out, hb⟩

set_option maxHeartbeats 400000 in
theorem covM_any (s : Option Addr) (n cap : Nat) (d : List Sm) (x : Sm) (w : World) (hbig : n ≤ 1000000000000) (hd : IsSms w s n cap d) :
    Calls Tryz.prog 122 #[.agg #[.func (.func 93) #[] #[], .func (.func 119) #[] #[], .func (.func 120) #[] #[]], .slice s n cap, .agg #[.int .i64 x.f, .int .i64 x.t, .int .i64 x.k, .int .i64 x.ep, .int .i64 x.x, .int .i64 x.y, .int .i64 x.z]] w
      fun e w' => e = .returned (.bool (coverB kinS d x)) ∧ Grow w w' := by
  have HB := hide (OBoxM.new w)
  have HD := hide (hd.later (Grow.alloc' w (.cells #[.func (.func 93) #[] #[], .func (.func 119) #[] #[], .func (.func 120) #[] #[]] 130)))
  clear hd
  go_enter Tryz.func122, Tryz.ntmps122
  go_wp2_with fail
  refine (hasM_any s n cap d x w.heap.size (w.heap.size + 1) _ hbig (HD.out.later (Grow.alloc' _ _)) (HB.out.later (Grow.alloc' _ _)) ?_).mono ?_
  · simp [SBox, go_sem]
  rintro e w1 ⟨rfl, hb⟩
  go_wp2
  go_ret
  exact ⟨rfl, Grow.trans' (Grow.trans' (Grow.alloc' _ _) (Grow.alloc' _ _)) hb⟩

end Go.Proofs.YtehianjfpmbfpaaGreat
