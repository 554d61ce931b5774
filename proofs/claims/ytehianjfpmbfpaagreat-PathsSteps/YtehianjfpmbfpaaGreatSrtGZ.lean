import Derived.Test.YtehianjfpmbfpaaGreatRows
import Derived.Shelf.SlSortCmp.WholeK
import Derived.Test.YtehianjfpmbfpaaGreatOd
import Derived.Sort.Grow
import Derived.Test.YtehianjfpmbfpaaGreatSOd
import Derived.Test.YtehianjfpmbfpaaGreatRowVZ
import Derived.Test.YtehianjfpmbfpaaGreatChFZ
import Derived.Lib.SlBuf
section
/-
  The library's sort by a function, laid at times and at summaries: that the program's functions are those of the library's own text, number by number.
-/
namespace Go.Proofs.YtehianjfpmbfpaaGreat
open Go.Shelf Go.Proofs

def Tryz.sortT_ren : Go.Shelf.Ren := ⟨fun | 6 => 91 | 15 => 113 | 14 => 112 | 28 => 132 | 29 => 133 | 20 => 124 | 21 => 125 | 22 => 126 | 23 => 127 | 24 => 128 | 25 => 129 | 26 => 130 | 27 => 131 | 46 => 141 | 47 => 142 | 48 => 143 | 49 => 144 | 50 => 145 | 57 => 148 | n => n, fun | 22 => 39 | 24 => 43 | 25 => 110 | 3 => 3 | 39 => 135 | 0 => 0 | 53 => 147 | 55 => 149 | 4 => 4 | 46 => 140 | 45 => 139 | 50 => 144 | 5 => 5 | 9 => 9 | 66 => 156 | 70 => 160 | 76 => 164 | 77 => 165 | n => n, fun | n => n⟩
theorem Tryz.sortT : Go.Proofs.SlLaysF0.n6 Tryz.prog Tryz.sortT_ren := {
  mixed := by kernel_rfl,
  f6 := ⟨Tryz.f91.name, by decide, Tryz.func91.trans (congrArg some (by kernel_rfl))⟩,
  f14 := ⟨Tryz.f112.name, by decide, Tryz.func112.trans (congrArg some (by kernel_rfl))⟩,
  f15 := Tryz.func113.trans (congrArg some (by kernel_rfl)),
  f20 := ⟨Tryz.f124.name, by decide, Tryz.func124.trans (congrArg some (by kernel_rfl))⟩,
  f21 := ⟨Tryz.f125.name, by decide, Tryz.func125.trans (congrArg some (by kernel_rfl))⟩,
  f22 := ⟨Tryz.f126.name, by decide, Tryz.func126.trans (congrArg some (by kernel_rfl))⟩,
  f23 := ⟨Tryz.f127.name, by decide, Tryz.func127.trans (congrArg some (by kernel_rfl))⟩,
  f24 := ⟨Tryz.f128.name, by decide, Tryz.func128.trans (congrArg some (by kernel_rfl))⟩,
  f25 := ⟨Tryz.f129.name, by decide, Tryz.func129.trans (congrArg some (by kernel_rfl))⟩,
  f26 := ⟨Tryz.f130.name, by decide, Tryz.func130.trans (congrArg some (by kernel_rfl))⟩,
  f27 := ⟨Tryz.f131.name, by decide, Tryz.func131.trans (congrArg some (by kernel_rfl))⟩,
  f28 := Tryz.func132.trans (congrArg some (by kernel_rfl)),
  f29 := Tryz.func133.trans (congrArg some (by kernel_rfl)),
  f46 := ⟨Tryz.f141.name, by decide, Tryz.func141.trans (congrArg some (by kernel_rfl))⟩,
  f47 := Tryz.func142.trans (congrArg some (by kernel_rfl)),
  f48 := Tryz.func143.trans (congrArg some (by kernel_rfl)),
  f49 := ⟨Tryz.f144.name, by decide, Tryz.func144.trans (congrArg some (by kernel_rfl))⟩,
  f50 := ⟨Tryz.f145.name, by decide, Tryz.func145.trans (congrArg some (by kernel_rfl))⟩,
  f57 := ⟨Tryz.f148.name, by decide, Tryz.func148.trans (congrArg some (by kernel_rfl))⟩,
  t0 := Tryz.underlying0,
  a0 := Tryz.isAgg0,
  z0 := Tryz.sizeOf0,
  v0 := Tryz.zeroValue0,
  t3 := Tryz.underlying3,
  a3 := Tryz.isAgg3,
  z3 := Tryz.sizeOf3,
  v3 := Tryz.zeroValue3,
  t4 := Tryz.underlying4,
  a4 := Tryz.isAgg4,
  z4 := Tryz.sizeOf4,
  v4 := Tryz.zeroValue4,
  t5 := Tryz.underlying5,
  a5 := Tryz.isAgg5,
  z5 := Tryz.sizeOf5,
  v5 := Tryz.zeroValue5,
  t9 := Tryz.underlying9,
  a9 := Tryz.isAgg9,
  z9 := Tryz.sizeOf9,
  v9 := Tryz.zeroValue9,
  t22 := Tryz.underlying39,
  a22 := Tryz.isAgg39,
  z22 := Tryz.sizeOf39,
  v22 := Tryz.zeroValue39,
  t25 := Tryz.underlying110,
  a25 := Tryz.isAgg110,
  z25 := Tryz.sizeOf110,
  v25 := Tryz.zeroValue110,
  t39 := Tryz.underlying135,
  a39 := Tryz.isAgg135,
  z39 := Tryz.sizeOf135,
  v39 := Tryz.zeroValue135,
  t45 := Tryz.underlying139,
  a45 := Tryz.isAgg139,
  z45 := Tryz.sizeOf139,
  v45 := Tryz.zeroValue139,
  t46 := Tryz.underlying140,
  a46 := Tryz.isAgg140,
  z46 := Tryz.sizeOf140,
  v46 := Tryz.zeroValue140,
  t50 := Tryz.underlying144,
  a50 := Tryz.isAgg144,
  z50 := Tryz.sizeOf144,
  v50 := Tryz.zeroValue144,
  t53 := Tryz.underlying147,
  a53 := Tryz.isAgg147,
  z53 := Tryz.sizeOf147,
  v53 := Tryz.zeroValue147,
  t55 := Tryz.underlying149,
  a55 := Tryz.isAgg149,
  z55 := Tryz.sizeOf149,
  v55 := Tryz.zeroValue149,
  t66 := Tryz.underlying156,
  a66 := Tryz.isAgg156,
  z66 := Tryz.sizeOf156,
  v66 := Tryz.zeroValue156,
  t70 := Tryz.underlying160,
  a70 := Tryz.isAgg160,
  z70 := Tryz.sizeOf160,
  v70 := Tryz.zeroValue160,
  t76 := Tryz.underlying164,
  a76 := Tryz.isAgg164,
  z76 := Tryz.sizeOf164,
  v76 := Tryz.zeroValue164,
  t77 := Tryz.underlying165,
  a77 := Tryz.isAgg165,
  z77 := Tryz.sizeOf165,
  v77 := Tryz.zeroValue165 }


def Tryz.sortM_ren : Go.Shelf.Ren := ⟨fun | 6 => 138 | 15 => 113 | 14 => 146 | 28 => 132 | 29 => 133 | 20 => 149 | 21 => 150 | 22 => 151 | 23 => 152 | 24 => 153 | 25 => 154 | 26 => 155 | 27 => 156 | 46 => 157 | 47 => 142 | 48 => 143 | 49 => 158 | 50 => 159 | 57 => 160 | n => n, fun | 22 => 33 | 24 => 68 | 25 => 128 | 3 => 3 | 39 => 135 | 0 => 0 | 53 => 147 | 55 => 149 | 4 => 4 | 46 => 140 | 45 => 139 | 50 => 144 | 5 => 5 | 9 => 9 | 66 => 156 | 70 => 160 | 76 => 164 | 77 => 165 | n => n, fun | n => n⟩
theorem Tryz.sortM : Go.Proofs.SlLaysF0.n6 Tryz.prog Tryz.sortM_ren := {
  mixed := by kernel_rfl,
  f6 := ⟨Tryz.f138.name, by decide, Tryz.func138.trans (congrArg some (by kernel_rfl))⟩,
  f14 := ⟨Tryz.f146.name, by decide, Tryz.func146.trans (congrArg some (by kernel_rfl))⟩,
  f15 := Tryz.func113.trans (congrArg some (by kernel_rfl)),
  f20 := ⟨Tryz.f149.name, by decide, Tryz.func149.trans (congrArg some (by kernel_rfl))⟩,
  f21 := ⟨Tryz.f150.name, by decide, Tryz.func150.trans (congrArg some (by kernel_rfl))⟩,
  f22 := ⟨Tryz.f151.name, by decide, Tryz.func151.trans (congrArg some (by kernel_rfl))⟩,
  f23 := ⟨Tryz.f152.name, by decide, Tryz.func152.trans (congrArg some (by kernel_rfl))⟩,
  f24 := ⟨Tryz.f153.name, by decide, Tryz.func153.trans (congrArg some (by kernel_rfl))⟩,
  f25 := ⟨Tryz.f154.name, by decide, Tryz.func154.trans (congrArg some (by kernel_rfl))⟩,
  f26 := ⟨Tryz.f155.name, by decide, Tryz.func155.trans (congrArg some (by kernel_rfl))⟩,
  f27 := ⟨Tryz.f156.name, by decide, Tryz.func156.trans (congrArg some (by kernel_rfl))⟩,
  f28 := Tryz.func132.trans (congrArg some (by kernel_rfl)),
  f29 := Tryz.func133.trans (congrArg some (by kernel_rfl)),
  f46 := ⟨Tryz.f157.name, by decide, Tryz.func157.trans (congrArg some (by kernel_rfl))⟩,
  f47 := Tryz.func142.trans (congrArg some (by kernel_rfl)),
  f48 := Tryz.func143.trans (congrArg some (by kernel_rfl)),
  f49 := ⟨Tryz.f158.name, by decide, Tryz.func158.trans (congrArg some (by kernel_rfl))⟩,
  f50 := ⟨Tryz.f159.name, by decide, Tryz.func159.trans (congrArg some (by kernel_rfl))⟩,
  f57 := ⟨Tryz.f160.name, by decide, Tryz.func160.trans (congrArg some (by kernel_rfl))⟩,
  t0 := Tryz.underlying0,
  a0 := Tryz.isAgg0,
  z0 := Tryz.sizeOf0,
  v0 := Tryz.zeroValue0,
  t3 := Tryz.underlying3,
  a3 := Tryz.isAgg3,
  z3 := Tryz.sizeOf3,
  v3 := Tryz.zeroValue3,
  t4 := Tryz.underlying4,
  a4 := Tryz.isAgg4,
  z4 := Tryz.sizeOf4,
  v4 := Tryz.zeroValue4,
  t5 := Tryz.underlying5,
  a5 := Tryz.isAgg5,
  z5 := Tryz.sizeOf5,
  v5 := Tryz.zeroValue5,
  t9 := Tryz.underlying9,
  a9 := Tryz.isAgg9,
  z9 := Tryz.sizeOf9,
  v9 := Tryz.zeroValue9,
  t22 := Tryz.underlying33,
  a22 := Tryz.isAgg33,
  z22 := Tryz.sizeOf33,
  v22 := Tryz.zeroValue33,
  t25 := Tryz.underlying128,
  a25 := Tryz.isAgg128,
  z25 := Tryz.sizeOf128,
  v25 := Tryz.zeroValue128,
  t39 := Tryz.underlying135,
  a39 := Tryz.isAgg135,
  z39 := Tryz.sizeOf135,
  v39 := Tryz.zeroValue135,
  t45 := Tryz.underlying139,
  a45 := Tryz.isAgg139,
  z45 := Tryz.sizeOf139,
  v45 := Tryz.zeroValue139,
  t46 := Tryz.underlying140,
  a46 := Tryz.isAgg140,
  z46 := Tryz.sizeOf140,
  v46 := Tryz.zeroValue140,
  t50 := Tryz.underlying144,
  a50 := Tryz.isAgg144,
  z50 := Tryz.sizeOf144,
  v50 := Tryz.zeroValue144,
  t53 := Tryz.underlying147,
  a53 := Tryz.isAgg147,
  z53 := Tryz.sizeOf147,
  v53 := Tryz.zeroValue147,
  t55 := Tryz.underlying149,
  a55 := Tryz.isAgg149,
  z55 := Tryz.sizeOf149,
  v55 := Tryz.zeroValue149,
  t66 := Tryz.underlying156,
  a66 := Tryz.isAgg156,
  z66 := Tryz.sizeOf156,
  v66 := Tryz.zeroValue156,
  t70 := Tryz.underlying160,
  a70 := Tryz.isAgg160,
  z70 := Tryz.sizeOf160,
  v70 := Tryz.zeroValue160,
  t76 := Tryz.underlying164,
  a76 := Tryz.isAgg164,
  z76 := Tryz.sizeOf164,
  v76 := Tryz.zeroValue164,
  t77 := Tryz.underlying165,
  a77 := Tryz.isAgg165,
  z77 := Tryz.sizeOf165,
  v77 := Tryz.zeroValue165 }


end Go.Proofs.YtehianjfpmbfpaaGreat
end

section
/-
  What ts.Order does to the world, said for the library's sort: it draws and lays blocks behind the world, and nothing else.
-/
namespace Go.Proofs.YtehianjfpmbfpaaGreat
open Go.RowKit Go.Sort

def GrowD (w w' : World) : Prop := ∃ q os, w' = grow (w.drewN q) os
theorem GrowD.rfl' (w : World) : GrowD w w := ⟨0, #[], by simp [World.drewN]⟩
theorem GrowD.drewN' {w w' : World} (h : GrowD w w') (n : Nat) : GrowD w (w'.drewN n) := by
  obtain ⟨q, os, rfl⟩ := h
  exact ⟨q + n, os, by rw [← World.drewN_drewN]; rfl⟩
theorem GrowD.alloc' {w w' : World} (h : GrowD w w') (o : Obj) : GrowD w (w'.alloc o) := by
  obtain ⟨q, os, rfl⟩ := h
  exact ⟨q, os ++ #[o], by rw [alloc_eq_grow, grow_grow]⟩

set_option maxHeartbeats 1000000 in
theorem order_grow (a b : Tm) (w : World) :
    Calls Tryz.prog 89 #[.agg #[.int .i64 a.e, .int .i64 a.d, .int .i64 a.x, .int .i64 a.y, .int .i64 a.z], .agg #[.int .i64 b.e, .int .i64 b.d, .int .i64 b.x, .int .i64 b.y, .int .i64 b.z]] w fun e w' => e = .returned (.int .i64 (orderI a b)) ∧ GrowD w w' := by
  obtain ⟨ae, ad, ax, ay, az⟩ := a
  obtain ⟨be, bd, bx, bY, bz⟩ := b
  dsimp only
  go_enter Tryz.func89, Tryz.ntmps89
  go_wp2_with (go_at_call 111; refine (compare_any _ _ _).mono ?_; rintro e w' ⟨rfl, rfl⟩)
  repeat any_goals (first | (refine wp_loop_rounds 4 ?_; rw [rounds_succ]; go_wp2) | (rw [rounds_succ]; go_wp2) | (go_quiet ((go_at_call 111; refine (compare_any _ _ _).mono ?_; rintro e w' ⟨rfl, rfl⟩; exact ⟨rfl, _, rfl⟩)); go_wp2))
  all_goals go_ret
  all_goals refine ⟨ret_int ?_, ?_⟩
  all_goals simp at *
  all_goals first | (simp [orderI, *]; done) | (repeat (first | exact GrowD.rfl' _ | refine GrowD.drewN' ?_ _ | refine GrowD.alloc' ?_ _))

end Go.Proofs.YtehianjfpmbfpaaGreat
end

section
/-
  What summary.Order does to the world, said for the library's sort: it draws and lays blocks behind the world, and nothing else.
-/
namespace Go.Proofs.YtehianjfpmbfpaaGreat
open Go.RowKit Go.Sort
set_option linter.unusedVariables false

/-- The world has grown, and has drawn no less. -/
def Gro (w w' : World) : Prop := Below w.heap.size w w' ∧ w.drawn ≤ w'.drawn
theorem groR (a : World) : Gro a a := ⟨Below.refl _ _, Nat.le_refl _⟩
theorem groA {a w : World} (o : Obj) (h : Gro a w) : Gro a (w.alloc o) := ⟨growA o h.1, h.2⟩
theorem groD {a w : World} (h : Gro a w) : Gro a w.drew := ⟨growD h.1, Nat.le_succ_of_le h.2⟩
theorem groN {a w : World} (n : Nat) (h : Gro a w) : Gro a (w.drewN n) := ⟨below_drewN h.1 n, Nat.le_trans h.2 (Nat.le_add_right _ _)⟩
theorem setCell_drawn (w : World) (a : Addr) (v : Value) : (w.setCell a v).drawn = w.drawn := rfl
theorem groS {a w : World} (b o : Nat) (v : Value) (h : Gro a w) (hp : a.heap.size ≤ b) : Gro a (w.setCell ⟨b, o, none⟩ v) := ⟨growS b o v h.1 hp, by rw [setCell_drawn]; exact h.2⟩
theorem Gro.trans {a b c : World} (h : Gro a b) (k : Gro b c) : Gro a c := ⟨Grow.trans' h.1 k.1, Nat.le_trans h.2 k.2⟩
theorem Gro.size {a b : World} (h : Gro a b) : a.heap.size ≤ b.heap.size := h.1.size
theorem Gro.below {a b : World} (h : Gro a b) : Below a.heap.size a b := h.1
theorem Gro.growD {w w' : World} (h : Gro w w') : GrowD w w' := by
  obtain ⟨⟨h1, h2, h3, h4, h5⟩, h6⟩ := h
  refine ⟨w'.drawn - w.drawn, w'.heap.extract w.heap.size w'.heap.size, ?_⟩
  obtain ⟨H, T, D, O, U⟩ := w
  obtain ⟨H', T', D', O', U'⟩ := w'
  simp only at h1 h2 h3 h4 h5 h6
  subst h1 h2 h3
  simp only [grow, World.drewN, World.mk.injEq, and_true, true_and]
  refine ⟨?_, by omega⟩
  apply Array.ext_getElem?
  intro i
  by_cases hi : i < H.size
  · rw [Array.getElem?_append_left hi]; exact h5 i hi
  · rw [Array.getElem?_append_right (by omega), Array.getElem?_extract]
    by_cases hj : i < H'.size
    · rw [if_pos (by omega), show H.size + (i - H.size) = i by omega]
    · rw [if_neg (by omega), Array.getElem?_eq_none (by omega)]

set_option maxHeartbeats 2000000 in
theorem cmpSlices_gro (s r : Sm) (b c : Nat) (w : World) (hs : SBox w b s) (hr : SBox w c r) :
    Calls Tryz.prog 136 #[.slice (some ⟨b, 0, none⟩) 7 7, .slice (some ⟨c, 0, none⟩) 7 7] w fun e w' => e = .returned (.int .i64 (orderS s r)) ∧ Gro w w' := by
  obtain ⟨k0, k1, k2, k3, k4, k5, k6⟩ := hs
  obtain ⟨l0, l1, l2, l3, l4, l5, l6⟩ := hr
  obtain ⟨sf, st, sk, sp, sx, sy, sz⟩ := s
  obtain ⟨rf, rt, rk, rp, rx, ry, rz⟩ := r
  dsimp only at k0 k1 k2 k3 k4 k5 k6 l0 l1 l2 l3 l4 l5 l6
  go_enter Tryz.func136, Tryz.ntmps136
  go_wp2_with (go_at_call 111; refine (cmpInt_any _ _ _).mono ?_; rintro e w' ⟨rfl, rfl⟩)
  repeat any_goals (first | (refine wp_loop_rounds 8 ?_; rw [rounds_succ]; go_wp2_with (go_at_call 111; refine (cmpInt_any _ _ _).mono ?_; rintro e w' ⟨rfl, rfl⟩)) | (rw [rounds_succ]; go_wp2_with (go_at_call 111; refine (cmpInt_any _ _ _).mono ?_; rintro e w' ⟨rfl, rfl⟩)) | (go_quiet ((go_at_call 111; refine (cmpInt_any _ _ _).mono ?_; rintro e w' ⟨rfl, rfl⟩; exact ⟨rfl, _, rfl⟩)); go_wp2_with (go_at_call 111; refine (cmpInt_any _ _ _).mono ?_; rintro e w' ⟨rfl, rfl⟩)))
  all_goals go_ret
  all_goals refine ⟨ret_int ?_, ?_⟩
  all_goals clear k0 k1 k2 k3 k4 k5 k6 l0 l1 l2 l3 l4 l5 l6
  all_goals simp at *
  all_goals first | (simp [orderS, *]; done) | (repeat (first | exact groR _ | apply groN))

set_option maxHeartbeats 1000000 in
theorem numbers_gro (s : Sm) (w : World) :
    Calls Tryz.prog 135 #[.agg #[.int .i64 s.f, .int .i64 s.t, .int .i64 s.k, .int .i64 s.ep, .int .i64 s.x, .int .i64 s.y, .int .i64 s.z]] w fun e w' => e = .returned (.agg #[.int .i64 s.f, .int .i64 s.t, .int .i64 s.k, .int .i64 s.ep, .int .i64 s.x, .int .i64 s.y, .int .i64 s.z]) ∧ Gro w w' := by
  go_enter Tryz.func135, Tryz.ntmps135
  go_wp2
  repeat any_goals (go_region; try go_wp2)
  all_goals refine bodyPost_ret (v := .agg #[.int .i64 s.f, .int .i64 s.t, .int .i64 s.k, .int .i64 s.ep, .int .i64 s.x, .int .i64 s.y, .int .i64 s.z]) (by simp [results, Tryz.results135, go_sem]) rfl ⟨rfl, ?_⟩
  all_goals (repeat (first | exact groR _ | apply groN | apply groD | refine groA _ ?_))

theorem heldG {W w' : World} {b b' : Nat} {s r : Sm} (hs : SBox W b s) (hr : SBox W b' r) (hg : Gro W w') :
    Gro W w' ∧ w'.cell? ⟨b, 0, none⟩ = some (.int .i64 s.f) ∧ w'.cell? ⟨b, 1, none⟩ = some (.int .i64 s.t) ∧ w'.cell? ⟨b, 2, none⟩ = some (.int .i64 s.k) ∧ w'.cell? ⟨b, 3, none⟩ = some (.int .i64 s.ep) ∧ w'.cell? ⟨b, 4, none⟩ = some (.int .i64 s.x) ∧ w'.cell? ⟨b, 5, none⟩ = some (.int .i64 s.y) ∧ w'.cell? ⟨b, 6, none⟩ = some (.int .i64 s.z) ∧ w'.cell? ⟨b', 0, none⟩ = some (.int .i64 r.f) ∧ w'.cell? ⟨b', 1, none⟩ = some (.int .i64 r.t) ∧ w'.cell? ⟨b', 2, none⟩ = some (.int .i64 r.k) ∧ w'.cell? ⟨b', 3, none⟩ = some (.int .i64 r.ep) ∧ w'.cell? ⟨b', 4, none⟩ = some (.int .i64 r.x) ∧ w'.cell? ⟨b', 5, none⟩ = some (.int .i64 r.y) ∧ w'.cell? ⟨b', 6, none⟩ = some (.int .i64 r.z) := by
  obtain ⟨a1, a2, a3, a4, a5, a6, a7⟩ := hs.later hg.1
  obtain ⟨b1, b2, b3, b4, b5, b6, b7⟩ := hr.later hg.1
  exact ⟨hg, a1, a2, a3, a4, a5, a6, a7, b1, b2, b3, b4, b5, b6, b7⟩

set_option maxHeartbeats 4000000 in
theorem orderS_grow (s r : Sm) (w : World) :
    Calls Tryz.prog 120 #[.agg #[.int .i64 s.f, .int .i64 s.t, .int .i64 s.k, .int .i64 s.ep, .int .i64 s.x, .int .i64 s.y, .int .i64 s.z], .agg #[.int .i64 r.f, .int .i64 r.t, .int .i64 r.k, .int .i64 r.ep, .int .i64 r.x, .int .i64 r.y, .int .i64 r.z]] w fun e w' => e = .returned (.int .i64 (orderS s r)) ∧ GrowD w w' := by
  go_enter Tryz.func120, Tryz.ntmps120
  go_wp2_with fail
  generalize hw0 : (w.alloc (.cells #[.int .i64 s.f, .int .i64 s.t, .int .i64 s.k, .int .i64 s.ep, .int .i64 s.x, .int .i64 s.y, .int .i64 s.z] 68)).alloc (.cells #[.int .i64 r.f, .int .i64 r.t, .int .i64 r.k, .int .i64 r.ep, .int .i64 r.x, .int .i64 r.y, .int .i64 r.z] 68) = w0
  have KS : Hid (SBox w0 w.heap.size s) := hide (by rw [← hw0]; simp [SBox, go_sem])
  have KR : Hid (SBox w0 (w.heap.size + 1) r) := hide (by rw [← hw0]; simp [SBox, go_sem])
  have G0 : Hid (Gro w w0) := hide (by rw [← hw0]; exact groA _ (groA _ (groR _)))
  clear hw0
  go_region_held3 (fun w' => Gro w0 w' ∧ w'.cell? ⟨w.heap.size, 0, none⟩ = some (.int .i64 s.f) ∧ w'.cell? ⟨w.heap.size, 1, none⟩ = some (.int .i64 s.t) ∧ w'.cell? ⟨w.heap.size, 2, none⟩ = some (.int .i64 s.k) ∧ w'.cell? ⟨w.heap.size, 3, none⟩ = some (.int .i64 s.ep) ∧ w'.cell? ⟨w.heap.size, 4, none⟩ = some (.int .i64 s.x) ∧ w'.cell? ⟨w.heap.size, 5, none⟩ = some (.int .i64 s.y) ∧ w'.cell? ⟨w.heap.size, 6, none⟩ = some (.int .i64 s.z) ∧ w'.cell? ⟨w.heap.size + 1, 0, none⟩ = some (.int .i64 r.f) ∧ w'.cell? ⟨w.heap.size + 1, 1, none⟩ = some (.int .i64 r.t) ∧ w'.cell? ⟨w.heap.size + 1, 2, none⟩ = some (.int .i64 r.k) ∧ w'.cell? ⟨w.heap.size + 1, 3, none⟩ = some (.int .i64 r.ep) ∧ w'.cell? ⟨w.heap.size + 1, 4, none⟩ = some (.int .i64 r.x) ∧ w'.cell? ⟨w.heap.size + 1, 5, none⟩ = some (.int .i64 r.y) ∧ w'.cell? ⟨w.heap.size + 1, 6, none⟩ = some (.int .i64 r.z)) (first | (refine heldG KS.out KR.out ?_; simp (maxDischargeDepth := 30) [groR, groA, groD]; done) | (refine heldG KS.out KR.out ?_; simp (maxDischargeDepth := 30) [groA, g3]; done) | (refine heldG KS.out KR.out ?_; simp (maxDischargeDepth := 30) [groA, groS, z3, x3, g4]; done)) (first | (go_at_call 135; with_reducible show Calls _ _ #[.agg #[.int .i64 s.f, .int .i64 s.t, .int .i64 s.k, .int .i64 s.ep, .int .i64 s.x, .int .i64 s.y, .int .i64 s.z]] _ _; refine (numbers_gro s _).mono ?_; rintro e w3 ⟨rfl, hb3⟩; have gH := (‹Gro w0 _ ∧ _›).1; have g3 : Gro w0 w3 := Gro.trans gH hb3; clear gH; have z3 := Gro.size g3; have x3 := Nat.le_succ_of_le z3; have y3 := Gro.size hb3; (try simp at y3); (try (refine (fun u0 : w0.heap.size < w3.heap.size => ?_) ?_; rotate_left; focus omega)); (try (refine (fun u1 : w0.heap.size + 1 < w3.heap.size => ?_) ?_; rotate_left; focus omega)); obtain ⟨hc3, hf3⟩ := bcell (Gro.below hb3)) | (go_at_call 135; with_reducible show Calls _ _ #[.agg #[.int .i64 r.f, .int .i64 r.t, .int .i64 r.k, .int .i64 r.ep, .int .i64 r.x, .int .i64 r.y, .int .i64 r.z]] _ _; refine (numbers_gro r _).mono ?_; rintro e w4 ⟨rfl, hb4⟩; have gH := (‹Gro w0 _ ∧ _›).1; have g4 : Gro w0 w4 := Gro.trans gH hb4; clear gH; have z4 := Gro.size g4; have y4 := Gro.size hb4; (try simp at y4); (try (refine (fun v0 : w0.heap.size < w4.heap.size => ?_) ?_; rotate_left; focus omega)); (try (refine (fun v1 : w0.heap.size + 1 < w4.heap.size => ?_) ?_; rotate_left; focus omega)); (try (refine (fun v2 : w3.heap.size < w4.heap.size => ?_) ?_; rotate_left; focus omega)); (try (refine (fun v3 : w3.heap.size + 1 < w4.heap.size => ?_) ?_; rotate_left; focus omega)); obtain ⟨hc4, hf4⟩ := bcell (Gro.below hb4)))
  all_goals
    have hg := hide (‹Gro w0 _ ∧ _›).1
    go_wp2_with fail
    go_region_held3 (fun _ => True) (trivial) (first | (go_at_call 136; refine (cmpSlices_gro s r _ _ _ ?_ ?_).mono ?_; (focus (simp (maxDischargeDepth := 30) [SBox, go_sem, *]; done)); (focus (simp (maxDischargeDepth := 30) [SBox, go_sem, *]; done)); rintro e w5 ⟨rfl, hb5⟩))
    go_wp2_with fail
    go_ret
    exact ⟨rfl, Gro.growD (Gro.trans (groD (Gro.trans G0.out hg.out)) hb5)⟩

end Go.Proofs.YtehianjfpmbfpaaGreat
end

section
/-
  What the library's sort by a function does to a row of times, or of summaries, that the call owns: the same ones, in order; what lay below stays as it was.
-/
namespace Go.Proofs.YtehianjfpmbfpaaGreat
open Go.RowKit Go.Sort Go.Shelf
set_option linter.unusedVariables false

theorem swoO {α : Type} (O : Kin α) : SWO (ltOf O.ord) :=
  { irrefl := fun a => by simp [ltOf, O.oself]
    trans := fun a b c h k => by
      simp only [ltOf, decide_eq_true_eq] at h k ⊢
      exact O.otrans _ _ _ h k
    ntrans := fun a b c h k => by
      simp only [ltOf, decide_eq_false_iff_not] at h k ⊢
      intro x
      rcases O.otot a b with y | y | y
      · exact h y
      · subst y; exact k x
      · exact k (O.otrans _ _ _ y x) }
theorem sortedO {α : Type} [Inhabited α] (O : Kin α) {d : Array α} (h : SortedIn (ltOf O.ord) 0 d.size d) : d.toList.Pairwise fun a b => O.ord a b ≤ 0 := by
  rw [List.pairwise_iff_getElem]
  intro i j hi hj hij
  have hi' : i < d.size := by simpa using hi
  have hj' : j < d.size := by simpa using hj
  have := h i j (Nat.zero_le _) hij hj'
  rw [getElem!_pos d j hj', getElem!_pos d i hi'] at this
  simp only [ltOf, decide_eq_false_iff_not] at this
  have h2 := O.oanti d[j] d[i]
  simp only [Array.getElem_toList]
  omega
theorem below_sortK {α : Type} [Inhabited α] (enc : α → List Value) (k B : Nat) (W : World) (g q : Nat) (d : Array α) (os : Array Obj) (hg : B ≤ g) (hs : B ≤ W.heap.size) : Below B W (sortWorldK enc k W g 0 q d os) := by
  unfold sortWorldK putRowK
  refine ⟨rfl, rfl, rfl, ?_, fun j hj => ?_⟩
  · simp [grow, putRow, mapBlock, Sort.ahead]
  · simp only [grow]
    rw [Array.getElem?_append_left (by simp [putRow, mapBlock, Sort.ahead]; omega)]
    simp [putRow, mapBlock, Sort.ahead, Array.getElem?_modify, show g ≠ j by omega]

set_option maxHeartbeats 400000 in
theorem len0_any (w : World) : Calls Tryz.prog 113 #[.int .u64 0] w fun e w' => (∃ k : Int, e = .returned (.int .i64 k)) ∧ w' = w := by
  go_enter Tryz.func113, Tryz.ntmps113
  go_wp2
  all_goals go_ret
  all_goals exact ⟨⟨_, rfl⟩, rfl⟩

theorem flatKT_eq [Inhabited Tm] (d : Array Tm) : flatK encT 5 d = (flatT d.toList).toArray := by
  apply Array.ext_getElem?
  intro t
  by_cases h : t < d.size * 5
  · have h1 : t / 5 < d.toList.length := by simp; omega
    have e : t = t / 5 * 5 + t % 5 := by omega
    have hg := flatT_get d.toList (t / 5) (t % 5) h1 (by omega)
    rw [← e] at hg
    have h5 : t % 5 < (encT d.toList[t / 5]).length := by rw [encT_len]; omega
    have e2 : (flatT d.toList).toArray[t]? = (flatT d.toList)[t]? := by simp
    rw [e2, hg, List.getElem?_eq_getElem h5]
    have h2 : t < (flatK encT 5 d).size := by simpa using h
    rw [Array.getElem?_eq_getElem h2]
    congr 1
    have := get_flatK encT 5 d t h
    rw [getElem!_pos _ t h2] at this
    rw [this]
    have h3 : t / 5 < d.size := by omega
    rw [getElem!_pos d (t / 5) h3, getElem!_pos _ (t % 5) (by rw [encT_len]; omega)]
    rfl
  · rw [Array.getElem?_eq_none (by simp; omega), Array.getElem?_eq_none (by simp [flatT_len]; omega)]
theorem rowT_of_holds [Inhabited Tm] {w : World} {b o : Nat} {d : Array Tm} (h : HoldsK encT 5 w b o d) : RowT w b o d.toList := by
  intro j v hj
  unfold HoldsK at h
  rw [flatKT_eq] at h
  have hj' : j < (flatT d.toList).length := (List.getElem?_eq_some_iff.1 hj).1
  have := (h j (by simpa using hj')).1
  rw [this]
  simp [getElem!_pos, hj'] at this ⊢
  rw [List.getElem?_eq_getElem hj'] at hj
  simpa using hj
theorem holds_of_ownT [Inhabited Tm] {w : World} {base g cap : Nat} {d : Array Tm} (h : OwnS w base g cap d.toList) : HoldsK encT 5 w g 0 d := by
  unfold HoldsK
  rw [flatKT_eq]
  intro j hj
  have hj' : j < (flatT d.toList).length := by simpa using hj
  refine ⟨?_, ?_⟩
  · have := h.row j ((flatT d.toList)[j]) (by rw [List.getElem?_eq_getElem hj'])
    rw [this]
    simp [getElem!_pos, hj']
  · rw [Nat.zero_add]; exact World.ownsRow.frozenAt h j
theorem cmpLaysT [Inhabited Tm] (blk off size : Nat) (w : World) : CmpLays Tryz.prog 89 #[] encT 5 kinT.ord blk off size w :=
  fun _ _ _ _ a b => order_grow a b _
theorem sortT_own (g cap base : Nat) (l : List Tm) (w : World) (hbig : l.length ≤ 1000000000000) (hO : OwnS w base g cap l) :
    Calls Tryz.prog 91 #[.slice (some ⟨g, 0, none⟩) l.length cap, .func (.func 89) #[] #[]] w
      fun e w' => e = .returned (.tuple #[]) ∧ Below base w w' ∧ ∃ l' : List Tm, l'.Perm l ∧ l'.Pairwise (fun a b => kinT.ord a b ≤ 0) ∧ RowT w' g 0 l' := by
  have : Inhabited Tm := ⟨⟨0, 0, 0, 0, 0⟩⟩
  obtain ⟨d, rfl⟩ : ∃ d : Array Tm, d.toList = l := ⟨l.toArray, by simp⟩
  have eg : ∀ args w, (callFunc 89 args).run Tryz.prog w = .ok (.enter 89 args) w := enters_of Tryz.func89 (by kernel_rfl) rfl
  have hH := holds_of_ownT hO
  have hg := hO.lt
  have hbg := hO.le.1
  have hcon := AnyQ.slices_SortFunc Tryz.sortT 5 Tryz.isAgg43 Tryz.sizeOf43 encT (fun _ => rfl) oneCell_encT kinT.ord (swoO kinT) 89 #[] g 0 cap d w eg (cmpLaysT _ _ _ _) hH hg (by simp at hbig; omega)
  change Calls Tryz.prog 91 _ _ _ at hcon
  rw [show d.toList.length = d.size by simp]
  refine hcon.mono ?_
  rintro e w' ⟨rfl, d', q, os, hp, hs, rfl⟩
  have hsz : d'.size = d.size := hp.1
  refine ⟨rfl, below_sortK _ _ _ _ _ _ _ _ hbg (by omega), d'.toList, ?_, sortedO kinT (by rw [hsz]; exact hs), rowT_of_holds (holdsK_sortWorldK encT 5 w g 0 q d d' os hg hH hsz)⟩
  have := hp.2.2
  simp only [Array.toList_extract, List.extract_eq_take_drop, List.drop_zero, Nat.sub_zero] at this
  rwa [List.take_of_length_le (by simp [hsz]), List.take_of_length_le (by simp)] at this
theorem insT_nil (w : World) :
    Calls Tryz.prog 124 #[.slice none 0 0, .int .i64 0, .int .i64 0, .func (.func 89) #[] #[]] w fun e w' => e = .returned (.tuple #[]) ∧ Grow w w' := by
  go_enter Tryz.func124, Tryz.ntmps124
  go_wp2
  repeat any_goals (first | (refine wp_loop_rounds 2 ?_; rw [rounds_succ]; go_wp2) | (rw [rounds_succ]; go_wp2))
  all_goals go_end0
  all_goals exact ⟨rfl, Below.refl _ _⟩
set_option maxHeartbeats 1000000 in
theorem pdqT_nil (k : Int) (w : World) :
    Calls Tryz.prog 112 #[.slice none 0 0, .int .i64 0, .int .i64 0, .int .i64 k, .func (.func 89) #[] #[]] w fun e w' => e = .returned (.tuple #[]) ∧ Grow w w' := by
  go_enter Tryz.func112, Tryz.ntmps112
  go_wp2_with fail
  refine wp_loop_rounds 2 ?_
  rw [rounds_succ]
  go_wp2_with fail
  refine (insT_nil _).mono ?_
  rintro e w1 ⟨rfl, hb⟩
  go_wp2_with fail
  refine bodyPost_ret (v := .tuple #[]) (by simp [results, Tryz.results112, go_sem]) rfl ?_
  exact ⟨rfl, hb⟩
set_option maxHeartbeats 1000000 in
theorem sortT_nil (w : World) :
    Calls Tryz.prog 91 #[.slice none 0 0, .func (.func 89) #[] #[]] w
      fun e w' => e = .returned (.tuple #[]) ∧ Grow w w' := by
  go_enter Tryz.func91, Tryz.ntmps91
  go_wp2_with fail
  refine (len0_any _).mono ?_
  rintro e w1 ⟨⟨k, rfl⟩, rfl⟩
  go_wp2_with fail
  refine (pdqT_nil k _).mono ?_
  rintro e w1 ⟨rfl, hb⟩
  go_wp2_with fail
  go_end0
  exact ⟨rfl, hb⟩
/-- A row that the call owns, or nil. -/
theorem sortT_any (s : Option Addr) (n cap base : Nat) (l : List Tm) (w : World) (hbig : n ≤ 1000000000000) (hb : base ≤ w.heap.size) (hO : OwnSV w base s n cap l) :
    Calls Tryz.prog 91 #[.slice s n cap, .func (.func 89) #[] #[]] w
      fun e w' => e = .returned (.tuple #[]) ∧ Below base w w' ∧ ∃ l' : List Tm, l'.Perm l ∧ l'.Pairwise (fun a b => kinT.ord a b ≤ 0) ∧ IsTms w' s n cap l' := by
  obtain ⟨hn, ⟨rfl, rfl, rfl⟩ | ⟨g, rfl, hO⟩⟩ := hO
  · simp at hn
    subst hn
    exact (sortT_nil w).mono fun e w' ⟨he, hg⟩ => ⟨he, hg.mono hb, [], List.Perm.refl _, List.Pairwise.nil, rfl, Nat.le_refl _, .inl rfl⟩
  · subst hn
    refine (sortT_own g cap base l w hbig hO).mono fun e w' ⟨he, hg, l', h1, h2, h3⟩ => ⟨he, hg, l', h1, h2, h1.length_eq, hO.le.2.1, .inr ⟨g, 0, rfl, h3⟩⟩
theorem flatKM_eq [Inhabited Sm] (d : Array Sm) : flatK encM 7 d = (flatM d.toList).toArray := by
  apply Array.ext_getElem?
  intro t
  by_cases h : t < d.size * 7
  · have h1 : t / 7 < d.toList.length := by simp; omega
    have e : t = t / 7 * 7 + t % 7 := by omega
    have hg := flatM_get d.toList (t / 7) (t % 7) h1 (by omega)
    rw [← e] at hg
    have h5 : t % 7 < (encM d.toList[t / 7]).length := by rw [encM_len]; omega
    have e2 : (flatM d.toList).toArray[t]? = (flatM d.toList)[t]? := by simp
    rw [e2, hg, List.getElem?_eq_getElem h5]
    have h2 : t < (flatK encM 7 d).size := by simpa using h
    rw [Array.getElem?_eq_getElem h2]
    congr 1
    have := get_flatK encM 7 d t h
    rw [getElem!_pos _ t h2] at this
    rw [this]
    have h3 : t / 7 < d.size := by omega
    rw [getElem!_pos d (t / 7) h3, getElem!_pos _ (t % 7) (by rw [encM_len]; omega)]
    rfl
  · rw [Array.getElem?_eq_none (by simp; omega), Array.getElem?_eq_none (by simp [flatM_len]; omega)]
theorem rowM_of_holds [Inhabited Sm] {w : World} {b o : Nat} {d : Array Sm} (h : HoldsK encM 7 w b o d) : RowM w b o d.toList := by
  intro j v hj
  unfold HoldsK at h
  rw [flatKM_eq] at h
  have hj' : j < (flatM d.toList).length := (List.getElem?_eq_some_iff.1 hj).1
  have := (h j (by simpa using hj')).1
  rw [this]
  simp [getElem!_pos, hj'] at this ⊢
  rw [List.getElem?_eq_getElem hj'] at hj
  simpa using hj
theorem holds_of_ownM [Inhabited Sm] {w : World} {base g cap : Nat} {d : Array Sm} (h : OwnM w base g cap d.toList) : HoldsK encM 7 w g 0 d := by
  unfold HoldsK
  rw [flatKM_eq]
  intro j hj
  have hj' : j < (flatM d.toList).length := by simpa using hj
  refine ⟨?_, ?_⟩
  · have := h.row j ((flatM d.toList)[j]) (by rw [List.getElem?_eq_getElem hj'])
    rw [this]
    simp [getElem!_pos, hj']
  · rw [Nat.zero_add]; exact World.ownsRow.frozenAt h j
theorem cmpLaysM [Inhabited Sm] (blk off size : Nat) (w : World) : CmpLays Tryz.prog 120 #[] encM 7 kinS.ord blk off size w :=
  fun _ _ _ _ a b => orderS_grow a b _
theorem sortM_own (g cap base : Nat) (l : List Sm) (w : World) (hbig : l.length ≤ 1000000000000) (hO : OwnM w base g cap l) :
    Calls Tryz.prog 138 #[.slice (some ⟨g, 0, none⟩) l.length cap, .func (.func 120) #[] #[]] w
      fun e w' => e = .returned (.tuple #[]) ∧ Below base w w' ∧ ∃ l' : List Sm, l'.Perm l ∧ l'.Pairwise (fun a b => kinS.ord a b ≤ 0) ∧ RowM w' g 0 l' := by
  have : Inhabited Sm := ⟨⟨0, 0, 0, 0, 0, 0, 0⟩⟩
  obtain ⟨d, rfl⟩ : ∃ d : Array Sm, d.toList = l := ⟨l.toArray, by simp⟩
  have eg : ∀ args w, (callFunc 120 args).run Tryz.prog w = .ok (.enter 120 args) w := enters_of Tryz.func120 (by kernel_rfl) rfl
  have hH := holds_of_ownM hO
  have hg := hO.lt
  have hbg := hO.le.1
  have hcon := AnyQ.slices_SortFunc Tryz.sortM 7 Tryz.isAgg68 Tryz.sizeOf68 encM (fun _ => rfl) oneCell_encM kinS.ord (swoO kinS) 120 #[] g 0 cap d w eg (cmpLaysM _ _ _ _) hH hg (by simp at hbig; omega)
  change Calls Tryz.prog 138 _ _ _ at hcon
  rw [show d.toList.length = d.size by simp]
  refine hcon.mono ?_
  rintro e w' ⟨rfl, d', q, os, hp, hs, rfl⟩
  have hsz : d'.size = d.size := hp.1
  refine ⟨rfl, below_sortK _ _ _ _ _ _ _ _ hbg (by omega), d'.toList, ?_, sortedO kinS (by rw [hsz]; exact hs), rowM_of_holds (holdsK_sortWorldK encM 7 w g 0 q d d' os hg hH hsz)⟩
  have := hp.2.2
  simp only [Array.toList_extract, List.extract_eq_take_drop, List.drop_zero, Nat.sub_zero] at this
  rwa [List.take_of_length_le (by simp [hsz]), List.take_of_length_le (by simp)] at this
theorem insM_nil (w : World) :
    Calls Tryz.prog 149 #[.slice none 0 0, .int .i64 0, .int .i64 0, .func (.func 120) #[] #[]] w fun e w' => e = .returned (.tuple #[]) ∧ Grow w w' := by
  go_enter Tryz.func149, Tryz.ntmps149
  go_wp2
  repeat any_goals (first | (refine wp_loop_rounds 2 ?_; rw [rounds_succ]; go_wp2) | (rw [rounds_succ]; go_wp2))
  all_goals go_end0
  all_goals exact ⟨rfl, Below.refl _ _⟩
set_option maxHeartbeats 1000000 in
theorem pdqM_nil (k : Int) (w : World) :
    Calls Tryz.prog 146 #[.slice none 0 0, .int .i64 0, .int .i64 0, .int .i64 k, .func (.func 120) #[] #[]] w fun e w' => e = .returned (.tuple #[]) ∧ Grow w w' := by
  go_enter Tryz.func146, Tryz.ntmps146
  go_wp2_with fail
  refine wp_loop_rounds 2 ?_
  rw [rounds_succ]
  go_wp2_with fail
  refine (insM_nil _).mono ?_
  rintro e w1 ⟨rfl, hb⟩
  go_wp2_with fail
  refine bodyPost_ret (v := .tuple #[]) (by simp [results, Tryz.results146, go_sem]) rfl ?_
  exact ⟨rfl, hb⟩
set_option maxHeartbeats 1000000 in
theorem sortM_nil (w : World) :
    Calls Tryz.prog 138 #[.slice none 0 0, .func (.func 120) #[] #[]] w
      fun e w' => e = .returned (.tuple #[]) ∧ Grow w w' := by
  go_enter Tryz.func138, Tryz.ntmps138
  go_wp2_with fail
  refine (len0_any _).mono ?_
  rintro e w1 ⟨⟨k, rfl⟩, rfl⟩
  go_wp2_with fail
  refine (pdqM_nil k _).mono ?_
  rintro e w1 ⟨rfl, hb⟩
  go_wp2_with fail
  go_end0
  exact ⟨rfl, hb⟩
/-- A row that the call owns, or nil. -/
theorem sortM_any (s : Option Addr) (n cap base : Nat) (l : List Sm) (w : World) (hbig : n ≤ 1000000000000) (hb : base ≤ w.heap.size) (hO : OwnMV w base s n cap l) :
    Calls Tryz.prog 138 #[.slice s n cap, .func (.func 120) #[] #[]] w
      fun e w' => e = .returned (.tuple #[]) ∧ Below base w w' ∧ ∃ l' : List Sm, l'.Perm l ∧ l'.Pairwise (fun a b => kinS.ord a b ≤ 0) ∧ IsSms w' s n cap l' := by
  obtain ⟨hn, ⟨rfl, rfl, rfl⟩ | ⟨g, rfl, hO⟩⟩ := hO
  · simp at hn
    subst hn
    exact (sortM_nil w).mono fun e w' ⟨he, hg⟩ => ⟨he, hg.mono hb, [], List.Perm.refl _, List.Pairwise.nil, rfl, Nat.le_refl _, .inl rfl⟩
  · subst hn
    refine (sortM_own g cap base l w hbig hO).mono fun e w' ⟨he, hg, l', h1, h2, h3⟩ => ⟨he, hg, l', h1, h2, h1.length_eq, hO.le.2.1, .inr ⟨g, 0, rfl, h3⟩⟩

end Go.Proofs.YtehianjfpmbfpaaGreat
end
