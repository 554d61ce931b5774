/-
  What counted's without does to the world: those of a row of times that another row, which rises, has not, in a row of its own; what was there stays as it was.
-/
import Derived.Test.YtpkhmhigoafklaaBsf
import Derived.Test.YtpkhmhigoafklaaLow
namespace Go.Proofs.Ytpkhmhigoafklaa
set_option maxRecDepth 100000
open Go.RowKit
set_option linter.unusedVariables false
set_option linter.unusedSimpArgs false

theorem out_take_succ (a b : List Tm) (k : Nat) (h : k < a.length) : outO (a.take (k + 1)) b = outO (a.take k) b ++ (if (b.any fun z => eqB a[k] z) = true then [] else [a[k]]) := by
  unfold outO
  rw [filter_take_succ _ a k h]
  by_cases e : (b.any fun z => eqB a[k] z) = true <;> simp [e]
set_option maxHeartbeats 2000000 in
theorem without_any (s : Option Addr) (n cap : Nat) (a : List Tm) (s1 : Option Addr) (n1 cap1 : Nat) (b : List Tm) (w : World) (hbig : n ≤ 100000) (hbig1 : n1 ≤ 100000) (ha : IsTms w s n cap a) (hb : IsTms w s1 n1 cap1 b) (hrise : Rises kinT b) :
    Calls Try.prog 27 #[.slice s n cap, .slice s1 n1 cap1] w fun e w' => ∃ v, e = .returned v ∧ Grow w w' ∧ IsRowT (outO a b) v w' := by
  have HA := hide ha
  have HB := hide hb
  have HN := hide ha.1
  have HR := hide hrise
  clear ha hb hrise
  go_enter Try.func27, Try.ntmps27
  go_wp2_with fail
  go_loopw [5, 12] (fun v i wr => ∃ (k : Nat) (s' : Option Addr) (m cap' : Nat), k ≤ n ∧ v = .slice s' m cap' ∧ i = .int .i64 k ∧ Grow w wr ∧ OwnSV wr w.heap.size s' m cap' (outO (a.take k) b)) (fun _ i _ => n - (intOf i).toNat)
  case atStart => exact ⟨0, none, 0, 0, Nat.zero_le _, rfl, rfl, Grow.rfl' _, OwnSV.nil _ _⟩
  case round =>
    obtain ⟨k, s', m, cap', hk, rfl, rfl, hg, hO⟩ := hrel
    have HG := hide hg
    have HO := hide hO
    clear hO
    by_cases hlt : k < n
    · have hkd : k < a.length := by rw [HN.out]; exact hlt
      have hne : ¬ a = [] := fun h => by rw [h] at hkd; simp at hkd
      obtain ⟨bb, o, rfl, hr1⟩ := HA.out.2.2.resolve_left hne
      obtain ⟨p0, p1, p2, p3, p4⟩ := (hr1.later hg).at k hkd
      obtain ⟨y, hy⟩ : ∃ y, y = a[k] := ⟨_, rfl⟩
      rw [← hy] at p0 p1 p2 p3 p4
      have hi1 : (0 : Int) ≤ (k : Int) := by omega
      have hi2 : (k : Int) < (n : Int) := by omega
      have HE := hide (out_take_succ a b k hkd)
      rw [← hy] at HE
      have hml : m ≤ n := by
        have h1 := HO.out.1
        have h2 := outO_len (a.take k) b
        rw [List.length_take] at h2
        omega
      have KX : Hid (Box (wr.alloc (.cells #[.int .i64 y.e, .int .i64 y.d, .int .i64 y.x, .int .i64 y.y, .int .i64 y.z] 25)) wr.heap.size y) := hide (Box.new _ _)
      have G1 := hide (Grow.alloc' wr (.cells #[.int .i64 y.e, .int .i64 y.d, .int .i64 y.x, .int .i64 y.y, .int .i64 y.z] 25))
      have hzr : w.heap.size ≤ wr.heap.size := HG.out.size
      clear hne hr1 hg hy
      go_wp2_with fail
      generalize wr.alloc (.cells #[.int .i64 y.e, .int .i64 y.d, .int .i64 y.x, .int .i64 y.y, .int .i64 y.z] 25) = W1 at *
      refine (bsf_any s1 n1 cap1 b y W1 (by omega) ((HB.out.later HG.out).later G1.out) HR.out).mono ?_
      rintro e w3 ⟨i, rfl, hb3⟩
      have G3 := hide (Grow.trans' (Grow.trans' HG.out G1.out) hb3)
      have HO1 := hide ((HO.out.later G1.out).later hb3)
      obtain ⟨x0, x1, x2, x3, x4⟩ := KX.out.later hb3
      have hz1 : w.heap.size ≤ w3.heap.size := G3.out.size
      clear hb3 G1 HO KX p0 p1 p2 p3 p4
      cases hp : (b.any fun z => eqB y z)
      · have HP := hide hp
        clear hp
        go_wp2_with (at_builtin; refine wpList_apv_tm rfl _ _ rfl w.heap.size s' cap' (outO (a.take k) b) [y] m rfl (HO1.out.later (Grow.alloc' _ _)) w3.heap.size 0 1 1 rfl rfl (by omega) (RowT_one w3 y) ?hl ?hb ?_)
        case hl => rw [HO1.out.1]; omega
        case hb => simp; omega
        intro g' c' w4 O2 gb
        have G4 := hide (gb.grow (Grow.trans' G3.out (Grow.alloc' _ _)) (Nat.le_refl _))
        have HO2 := hide O2
        clear gb O2
        go_wp2_with fail
        go_roundw
        case rel =>
          refine ⟨k + 1, some ⟨g', 0, none⟩, m + 1, c', by omega, rfl, by go_num, G4.out, ?_⟩
          rw [HE.out, HP.out, if_neg (by simp)]
          refine OwnSV.of HO2.out ?_
          have := HO1.out.1
          simp [this]
        case measure => simp [intOf]; omega
      · have HP := hide hp
        clear hp
        go_wp2_with fail
        go_roundw
        case rel =>
          refine ⟨k + 1, s', m, cap', by omega, rfl, by go_num, G3.out, ?_⟩
          rw [HE.out, HP.out, if_pos rfl, List.append_nil]
          exact HO1.out
        case measure => simp [intOf]; omega
    · have hkn : k = n := by omega
      subst hkn
      clear hg
      go_wp2_with fail
      go_ret
      refine ⟨_, rfl, HG.out, s', m, cap', rfl, ?_⟩
      have h1 := HO.out.is
      rw [List.take_of_length_le (by rw [HN.out]; omega)] at h1
      exact h1

end Go.Proofs.Ytpkhmhigoafklaa
