/-
  What fn.sum, fn.sharing, the table of aggregates and each function in it do to the world: each returns its plain answer, and what was there stays as it was.
-/
import Derived.Test.YthkkjhjbojbbaaaFCon
import Derived.Lib.QuietBelow
namespace Go.Proofs.Ythkkjhjbojbbaaa
set_option maxRecDepth 100000
open Go.RowKit Go.Sort
set_option linter.unusedVariables false
set_option linter.unusedSimpArgs false

theorem shr_lt : ∀ (l : List Rc) (k : Nat) (hk : k < l.length) (h0 : 0 < l.length), k < shr l → (l[k]).k = (l[0]).k
  | [], _, _, h0, _ => by simp at h0
  | x :: l, 0, _, _, _ => rfl
  | x :: l, k + 1, hk, _, h => by
    have h1 : k < (l.takeWhile (ofKey x.k)).length := by
      have : shr (x :: l) = 1 + (l.takeWhile (ofKey x.k)).length := rfl
      omega
    have h2 : (l.takeWhile (ofKey x.k))[k] = l[k]'(by simpa using hk) := (List.takeWhile_prefix (ofKey x.k)).getElem h1
    have h3 := List.all_eq_true.1 (List.all_takeWhile (p := ofKey x.k) (l := l)) _ (List.getElem_mem h1)
    rw [h2] at h3
    simpa [ofKey] using h3
theorem tw_at {α : Type} (p : α → Bool) : ∀ (l : List α) (k : Nat) (hk : k < l.length), k = (l.takeWhile p).length → p l[k] = false
  | [], _, hk, _ => by simp at hk
  | x :: l, k, hk, h => by
    by_cases hp : p x = true
    · rw [List.takeWhile_cons, if_pos hp, List.length_cons] at h
      subst h
      simpa using tw_at p l _ (by simpa using hk) rfl
    · rw [List.takeWhile_cons, if_neg hp, List.length_nil] at h
      subst h
      simpa using hp
theorem shr_at : ∀ (l : List Rc) (k : Nat) (hk : k < l.length) (h0 : 0 < l.length), k = shr l → (l[k]).k ≠ (l[0]).k
  | [], _, _, h0, _ => by simp at h0
  | x :: l, 0, _, _, h => by
    have : shr (x :: l) = 1 + (l.takeWhile (ofKey x.k)).length := rfl
    omega
  | x :: l, k + 1, hk, _, h => by
    have h1 : k = (l.takeWhile (ofKey x.k)).length := by
      have : shr (x :: l) = 1 + (l.takeWhile (ofKey x.k)).length := rfl
      omega
    have := tw_at (ofKey x.k) l k (by simpa using hk) h1
    simpa [ofKey] using this
theorem sum_to {g : List Rc} (k : Nat) (hk : k < g.length) : sumV (g.take (k + 1)) = sumV (g.take k) + g[k].v := by
  rw [← List.take_append_getElem hk, sumV_app, sumV_one]

set_option maxHeartbeats 2000000 in
theorem sum_at (s : Option Addr) (n cap : Nat) (d : List Rc) (w : World) (hbig : n ≤ 1000000) (hv : ∀ r ∈ d, -1099511627776 ≤ r.v ∧ r.v ≤ 1099511627776) (hd : IsRcs w s n cap d) :
    Calls Try.prog 53 #[.slice s n cap] w fun e w' => e = .returned (.int .i64 (sumV d)) ∧ Grow w w' := by
  have HI := hide hd
  have HV := hide hv
  clear hd hv
  go_enter Try.func53, Try.ntmps53
  go_wp2_with fail
  go_loopw [3, 8] (fun v i wr => ∃ (k : Nat), k ≤ n ∧ v = .int .i64 (sumV (d.take k)) ∧ i = .int .i64 k ∧ Grow w wr) (fun _ i _ => n - (intOf i).toNat)
  case atStart => exact ⟨0, Nat.zero_le _, rfl, rfl, Grow.rfl' _⟩
  case round =>
    obtain ⟨k, hk, rfl, rfl, hg⟩ := hrel
    have HG := hide hg
    by_cases hlt : k < n
    · have hkd : k < d.length := by rw [HI.out.1]; exact hlt
      have hne : ¬ d = [] := fun h => by rw [h] at hkd; simp at hkd
      obtain ⟨b, o, rfl, hr1⟩ := HI.out.2.2.resolve_left hne
      obtain ⟨p0, p1⟩ := (hr1.later hg).at k hkd
      have hb1 := sumV_bound 1099511627776 (d.take k) (fun r hr => HV.out r (List.mem_of_mem_take hr))
      have hb2 := HV.out d[k] (List.getElem_mem _)
      have hlen : (d.take k).length = k := by rw [List.length_take]; omega
      rw [hlen] at hb1
      have HX := hide (sum_to k hkd)
      obtain ⟨x, hx⟩ : ∃ x, x = d[k] := ⟨_, rfl⟩
      rw [← hx] at p0 p1 hb2 HX
      obtain ⟨c, hc⟩ : ∃ c, c = sumV (d.take k) := ⟨_, rfl⟩
      rw [← hc] at hb1 HX
      rw [← hc]
      have hwr : IntKind.i64.wrap (c + x.v) = c + x.v := IntWalk.i64_in _ ⟨by omega, by omega⟩
      have hi1 : (0 : Int) ≤ (k : Int) := by omega
      have hi2 : (k : Int) < (n : Int) := by omega
      have KX : Hid (Box (wr.alloc (.cells #[.int .i64 x.k, .int .i64 x.v] 23)) wr.heap.size x) := hide (Box.new _ _)
      obtain ⟨q0, q1⟩ := KX.out
      have G2 : Hid (Grow w (wr.alloc (.cells #[.int .i64 x.k, .int .i64 x.v] 23))) := hide (Grow.trans' HG.out (Grow.alloc' _ _))
      clear hne hr1 hx hkd hg hc hb1 hb2 hlen
      go_wp2_with fail
      go_roundw
      case rel => exact ⟨k + 1, by omega, by rw [HX.out], by go_num, G2.out⟩
      case measure => simp [intOf]; omega
    · have hkn : k = n := by omega
      have HA : Hid (d.take k = d) := hide (List.take_of_length_le (by rw [HI.out.1]; omega))
      rw [HA.out]
      clear hg
      go_wp2_with fail
      go_ret
      exact ⟨rfl, HG.out⟩

set_option maxHeartbeats 2000000 in
theorem sharing_at (s : Option Addr) (n cap : Nat) (d : List Rc) (w : World) (hbig : n ≤ 1000000) (hn : 0 < n) (hd : IsRcs w s n cap d) :
    Calls Try.prog 38 #[.slice s n cap] w fun e w' => e = .returned (.int .i64 (shr d : Nat)) ∧ Grow w w' := by
  have HI := hide hd
  have h0 : 0 < d.length := by rw [hd.1]; exact hn
  have hne : ¬ d = [] := fun h => by rw [h] at h0; simp at h0
  obtain ⟨b, o, rfl, hr1⟩ := hd.2.2.resolve_left hne
  have HR := hide hr1
  have hq := shr_pos h0
  have HL := hide hd.1
  have HLT := hide (fun k hk h => shr_lt d k hk h0 h)
  have HAT := hide (fun k hk h => shr_at d k hk h0 h)
  obtain ⟨y, hy⟩ : ∃ y, y = d[0] := ⟨_, rfl⟩
  rw [← hy] at HLT HAT
  obtain ⟨q, hqq⟩ : ∃ q, q = shr d := ⟨_, rfl⟩
  rw [← hqq] at hq HLT HAT
  rw [← hqq]
  have HY := hide hy
  rw [hd.1] at hq
  clear hd hr1 hy hne hqq
  go_enter Try.func38, Try.ntmps38
  go_wp2_with fail
  go_loopw [3] (fun i wr => ∃ (k : Nat), 1 ≤ k ∧ k ≤ q ∧ i = .int .i64 k ∧ Grow w wr) (fun i _ => q - (intOf i).toNat)
  case atStart => exact ⟨1, Nat.le_refl _, hq.1, rfl, Grow.rfl' _⟩
  case round =>
    obtain ⟨k, hk1, hk, rfl, hg⟩ := hrel
    have HG := hide hg
    obtain ⟨q0, q1⟩ := (HR.out.later hg).at 0 h0
    rw [← HY.out] at q0 q1
    simp only [Nat.zero_mul, Nat.add_zero] at q0 q1
    have hn0 : (0 : Int) < (n : Int) := by omega
    by_cases hlt : k < q
    · have hkd : k < d.length := by rw [HL.out]; omega
      obtain ⟨p0, p1⟩ := (HR.out.later hg).at k hkd
      have hK := HLT.out k hkd hlt
      obtain ⟨x, hx⟩ : ∃ x, x = d[k] := ⟨_, rfl⟩
      rw [← hx] at p0 p1 hK
      have hi1 : (0 : Int) ≤ (k : Int) := by omega
      have hi2 : (k : Int) < (n : Int) := by omega
      have hi3 : decide ((k : Int) < (n : Int)) = true := by simpa using hi2
      have hi4 : decide (k < n) = true := by simp; omega
      have hi5 : (x.k == y.k) = true := by simpa using hK
      clear hx hkd hg hK
      go_wp2
      go_quiet (fail)
      have G2 := hide (Grow.trans' HG.out (below_drewN (Below.refl _ _) nq))
      clear p0 p1 q0 q1 HG
      generalize wr.drewN nq = wz at *
      go_wp2_with fail
      go_roundw
      case rel => exact ⟨k + 1, by omega, by omega, by go_num, G2.out⟩
      case measure => simp [intOf]; omega
    · have hkq : k = q := by omega
      by_cases hkn : k < n
      · have hkd : k < d.length := by rw [HL.out]; omega
        obtain ⟨p0, p1⟩ := (HR.out.later hg).at k hkd
        have hK := HAT.out k hkd hkq
        obtain ⟨x, hx⟩ : ∃ x, x = d[k] := ⟨_, rfl⟩
        rw [← hx] at p0 p1 hK
        have hi1 : (0 : Int) ≤ (k : Int) := by omega
        have hi2 : (k : Int) < (n : Int) := by omega
        have hi3 : decide ((k : Int) < (n : Int)) = true := by simpa using hi2
        have hi4 : decide (k < n) = true := by simp; omega
        have hi5 : (x.k == y.k) = false := by simpa using hK
        have HQ := hide hkq
        clear hx hkd hg hK hkq
        go_wp2
        go_quiet (fail)
        have G2 := hide (Grow.trans' HG.out (below_drewN (Below.refl _ _) nq))
        clear p0 p1 q0 q1 HG
        generalize wr.drewN nq = wz at *
        go_wp2_with fail
        go_ret
        exact ⟨ret_int (by rw [HQ.out]), G2.out⟩
      · have hi3 : decide ((k : Int) < (n : Int)) = false := by simp; omega
        have hi4 : decide (k < n) = false := by simp; omega
        have HQ := hide hkq
        clear hg hkq
        go_wp2
        go_quiet (fail)
        have G2 := hide (Grow.trans' HG.out (below_drewN (Below.refl _ _) nq))
        clear q0 q1 HG
        generalize wr.drewN nq = wz at *
        go_wp2_with fail
        go_ret
        exact ⟨ret_int (by rw [HQ.out]), G2.out⟩

theorem aggregates_any (w : World) : Calls Try.prog 36 #[] w fun e w' => e = .returned (.agg #[.nilFunc, .func (.func 51) #[] #[], .func (.func 52) #[] #[], .func (.func 54) #[] #[], .func (.func 55) #[] #[]]) ∧ Grow w w' := by
  go_enter Try.func36, Try.ntmps36
  go_wp2
  refine bodyPost_ret (v := .agg #[.nilFunc, .func (.func 51) #[] #[], .func (.func 52) #[] #[], .func (.func 54) #[] #[], .func (.func 55) #[] #[]]) (by simp [results, Try.results36, go_sem]) rfl ⟨rfl, Grow.alloc' _ _⟩
theorem aggAt_1 (w : World) : (Instr.index 56 (.agg #[.nilFunc, .func (.func 51) #[] #[], .func (.func 52) #[] #[], .func (.func 54) #[] #[], .func (.func 55) #[] #[]]) (.int .i64 1)).run Try.prog w = .ok (.agg #[.func (.func 51) #[] #[]]) w := by kernel_rfl
theorem aggAt_2 (w : World) : (Instr.index 56 (.agg #[.nilFunc, .func (.func 51) #[] #[], .func (.func 52) #[] #[], .func (.func 54) #[] #[], .func (.func 55) #[] #[]]) (.int .i64 2)).run Try.prog w = .ok (.agg #[.func (.func 52) #[] #[]]) w := by kernel_rfl
theorem aggAt_3 (w : World) : (Instr.index 56 (.agg #[.nilFunc, .func (.func 51) #[] #[], .func (.func 52) #[] #[], .func (.func 54) #[] #[], .func (.func 55) #[] #[]]) (.int .i64 3)).run Try.prog w = .ok (.agg #[.func (.func 54) #[] #[]]) w := by kernel_rfl
theorem aggAt_4 (w : World) : (Instr.index 56 (.agg #[.nilFunc, .func (.func 51) #[] #[], .func (.func 52) #[] #[], .func (.func 54) #[] #[], .func (.func 55) #[] #[]]) (.int .i64 4)).run Try.prog w = .ok (.agg #[.func (.func 55) #[] #[]]) w := by kernel_rfl
theorem aggF_0 (g : Fn) (w : World) : (Instr.field 55 (.agg #[.func g #[] #[]]) 0).run Try.prog w = .ok (.func g #[] #[]) w := by kernel_rfl
/-- The records of one key, in order. -/
structure Grp (w : World) (s : Option Addr) (n cap : Nat) (g : List Rc) : Prop where
  is : IsRcs w s n cap g
  pos : 0 < n
  big : n ≤ 1000000
  sorted : SortedR g
  key : ∃ k, ∀ y ∈ g, y.k = k
  val : ∀ r ∈ g, -1099511627776 ≤ r.v ∧ r.v ≤ 1099511627776
theorem aggC1 (s : Option Addr) (n cap : Nat) (g : List Rc) (w : World) (h : Grp w s n cap g) :
    Calls Try.prog 51 #[.slice s n cap] w fun e w' => e = .returned (.int .i64 (agg 1 g)) ∧ Grow w w' := by
  have HA := hide (show (n : Int) = agg 1 g by unfold agg; rw [if_pos rfl, h.is.1])
  clear h
  go_enter Try.func51, Try.ntmps51
  go_wp2_with fail
  go_ret
  exact ⟨ret_int HA.out, Grow.rfl' _⟩
theorem aggC2 (s : Option Addr) (n cap : Nat) (g : List Rc) (w : World) (h : Grp w s n cap g) :
    Calls Try.prog 52 #[.slice s n cap] w fun e w' => e = .returned (.int .i64 (agg 2 g)) ∧ Grow w w' := by
  have HA := hide (show heldI (sumV g) = agg 2 g by unfold agg; rw [if_neg (by decide), if_pos rfl])
  have C := hide (sum_at s n cap g w h.big h.val h.is)
  clear h
  go_enter Try.func52, Try.ntmps52
  go_wp2_with fail
  refine (C.out).mono ?_
  rintro e w1 ⟨rfl, hb⟩
  have G1 := hide hb
  clear hb C
  go_wp2_with fail
  refine (held_any _ _).mono ?_
  rintro e w2 ⟨rfl, rfl⟩
  go_wp2_with fail
  go_ret
  exact ⟨ret_int HA.out, G1.out⟩
theorem aggC3 (s : Option Addr) (n cap : Nat) (g : List Rc) (w : World) (h : Grp w s n cap g) :
    Calls Try.prog 54 #[.slice s n cap] w fun e w' => e = .returned (.int .i64 (agg 3 g)) ∧ Grow w w' := by
  obtain ⟨m, rfl⟩ : ∃ m, n = m + 1 := ⟨n - 1, by have := h.pos; omega⟩
  have hm : m < g.length := by rw [h.is.1]; omega
  have hne : ¬ g = [] := fun e => by rw [e] at hm; simp at hm
  obtain ⟨k, hk⟩ := h.key
  have HA := hide (show (g[m]).v = agg 3 g by unfold agg; rw [if_neg (by decide), if_neg (by decide), if_pos rfl, group_max h.sorted hk m (by rw [h.is.1])])
  obtain ⟨b, o, rfl, hr⟩ := h.is.2.2.resolve_left hne
  obtain ⟨p0, p1⟩ := hr.at m hm
  have hbig := h.big
  have hwr : IntKind.i64.wrap (((m + 1 : Nat) : Int) - 1) = (m : Int) := by rw [IntWalk.i64_in _ ⟨by omega, by omega⟩]; omega
  have hi1 : (0 : Int) ≤ (m : Int) := by omega
  have hi2 : (m : Int) < ((m + 1 : Nat) : Int) := by omega
  have hi3 : ((m + 1 : Nat) : Int) - 1 = (m : Int) := by omega
  obtain ⟨x, hx⟩ : ∃ x, x = g[m] := ⟨_, rfl⟩
  rw [← hx] at p0 p1 HA
  clear hx hr hk hne h
  go_enter Try.func54, Try.ntmps54
  go_wp2_with fail
  go_ret
  exact ⟨ret_int HA.out, Grow.rfl' _⟩
theorem aggC4 (s : Option Addr) (n cap : Nat) (g : List Rc) (w : World) (h : Grp w s n cap g) :
    Calls Try.prog 55 #[.slice s n cap] w fun e w' => e = .returned (.int .i64 (agg 4 g)) ∧ Grow w w' := by
  obtain ⟨hI, hpos, hbig, hs, ⟨k, hk⟩, _⟩ := h
  cases g with
  | nil => exact absurd hI.1 (by simp; omega)
  | cons x l =>
    have HA := hide (show x.v = agg 4 (x :: l) by
      unfold agg
      rw [if_neg (by decide), if_neg (by decide), if_neg (by decide), group_min hs (fun y hy => by rw [hk y (by simp [hy]), hk x (by simp)])])
    obtain ⟨b, o, rfl, hr⟩ := hI.2.2.resolve_left (by simp)
    obtain ⟨p0, p1⟩ := hr.at 0 (by simp)
    simp only [Nat.zero_mul, Nat.add_zero, List.getElem_cons_zero] at p0 p1
    have hi2 : (0 : Int) < (n : Int) := by omega
    clear hr hk hI hs
    go_enter Try.func55, Try.ntmps55
    go_wp2_with fail
    go_ret
    exact ⟨ret_int HA.out, Grow.rfl' _⟩

end Go.Proofs.Ythkkjhjbojbbaaa
