/-
  What counted's Frontier does to the world: the chain of the times with a number above 0, in a row of its own; what was there stays as it was.
-/
import Derived.Test.YtpkhmhigoafklaaRng
import Derived.Test.YtpkhmhigoafklaaCSet
import Derived.Test.YtpkhmhigoafklaaPub
namespace Go.Proofs.Ytpkhmhigoafklaa
set_option maxRecDepth 100000
open Go.RowKit
set_option linter.unusedVariables false
set_option linter.unusedSimpArgs false

set_option maxHeartbeats 2000000 in
theorem front_any (p b : Nat) (s : Cs) (w : World) (hok : s.ok) (hR : RepC w p b s) :
    Calls Try.prog 16 #[.pointer (some ⟨p, 0, none⟩)] w fun e w' => ∃ v, e = .returned v ∧ Grow w w' ∧ IsRowT s.front v w' := by
  obtain ⟨D, hD⟩ := hR.map
  have HD := hide hD
  have hc := hR.cell
  have hpl := hR.lt
  have hbl : b < w.heap.size := hR.map.lt
  clear hR hD
  go_enter Try.func16, Try.ntmps16
  go_wp2_with (at_range; refine wpList_range_T rfl _ rfl b s D rfl HD.out ?_; intro w0 hrg0 hg0 hs0)
  go_frame
  have HG0 := hide hg0
  have HRG := hide hrg0
  obtain ⟨r, hr⟩ : ∃ r, r = w.heap.size := ⟨_, rfl⟩
  rw [← hr] at HRG hs0 hbl hpl ⊢
  have hrw : w.heap.size ≤ r := by omega
  clear hrg0 hg0 hr
  go_loopw [3] (fun v wr => ∃ (left : Lit → Bool) (cnt : Nat) (acc : List Tm) (s' : Option Addr) (m cap' : Nat), v = .slice s' m cap' ∧ RangesT wr b r s.T.length D left cnt ∧ OwnSV wr (r + 1) s' m cap' acc ∧ Grow w wr ∧ Coll (fun x => 0 < s.f x) left acc ∧ acc.length + cnt ≤ s.T.length ∧ r + 1 ≤ wr.heap.size) (fun _ wr => wr.rangeLeft b r)
  case atStart => exact ⟨Maps.has D, s.T.length, [], none, 0, 0, rfl, HRG.out, OwnSV.nil _ _, HG0.out, Coll.start HD.out _ (fun x h => by omega), by simp, by omega⟩
  case round =>
    obtain ⟨left, cnt, acc, s', m, cap', rfl, hrg, hO, hg, hC, hcnt, hsz⟩ := hrel
    have HRG1 := hide hrg
    have HO := hide hO
    have HG := hide hg
    have HC := hide hC
    have hm : m ≤ 400 := by have h1 := hO.1; have h2 := hok.few; omega
    clear hrg hO hg hC HRG HG0
    go_wp2_with (at_next; refine wpList_next_T rfl _ rfl b r s D w HD.out left cnt rfl HRG1.out ?_ ?_)
    · intro hl
      have HL := hide hl
      clear hl
      go_wp2_with fail
      refine (chainT_any s' m cap' acc wr (by omega) HO.out.is).mono ?_
      rintro e w2 ⟨v, rfl, hb, hr2⟩
      obtain ⟨s2, m2, c2, rfl, hI⟩ := hr2
      have G2 := hide (Grow.trans' HG.out hb)
      have H2 := hide hI
      clear hb hI
      go_wp2_with fail
      go_ret
      refine ⟨_, rfl, G2.out, s2, m2, c2, rfl, ?_⟩
      have h1 := H2.out
      rw [Cs.front_of hok (HC.out.fin HL.out fun x h => wf_of_num hok (by omega))] at h1
      exact h1
    · intro x w1 cnt1 hwx hlx hrg1 hlt hg1 hs1 hen
      have HRG2 := hide (hrg1.alloc (.cells #[.int .i64 x.e, .int .i64 x.d, .int .i64 x.x, .int .i64 x.y, .int .i64 x.z] 25))
      have HG1 := hide (Grow.trans' (grow_step HG.out hg1 (by omega)) (Grow.alloc' w1 (.cells #[.int .i64 x.e, .int .i64 x.d, .int .i64 x.x, .int .i64 x.y, .int .i64 x.z] 25)))
      have HO1 := hide ((ownSV_grown HO.out hg1 (fun k e => by cases e; omega)).later (Grow.alloc' w1 (.cells #[.int .i64 x.e, .int .i64 x.d, .int .i64 x.x, .int .i64 x.y, .int .i64 x.z] 25)))
      have HX := hide hwx
      have HLX := hide hlx
      have HLE := hide HRG1.out.left_eq
      have hsz1 : r + 1 ≤ w1.heap.size := by omega
      clear hrg1 hg1 HG HO hwx hlx HRG1 hs1
      by_cases hx : 0 < s.f x
      · have HC1 := hide (HC.out.take HX.out HLX.out hx)
        have hrow : Hid (RowT ((w1.alloc (.cells #[.int .i64 x.e, .int .i64 x.d, .int .i64 x.x, .int .i64 x.y, .int .i64 x.z] 25)).alloc (.cells #[.int .i64 x.e, .int .i64 x.d, .int .i64 x.x, .int .i64 x.y, .int .i64 x.z] 25)) (w1.heap.size + 1) 0 [x]) := hide (by have := RowT_one (w1.alloc (.cells #[.int .i64 x.e, .int .i64 x.d, .int .i64 x.x, .int .i64 x.y, .int .i64 x.z] 25)) x; simpa using this)
        go_wp2_with (at_builtin; refine wpList_apv_tm rfl _ _ rfl (r + 1) s' cap' acc [x] m rfl (HO1.out.later (Grow.alloc' _ _)) (w1.heap.size + 1) 0 1 1 rfl rfl (by omega) hrow.out ?hl ?hb ?_)
        case hl => rw [HO1.out.1]; omega
        case hb => simp; omega
        intro g' c' w2 O2 gb
        have hz2 : ((w1.alloc (.cells #[.int .i64 x.e, .int .i64 x.d, .int .i64 x.x, .int .i64 x.y, .int .i64 x.z] 25)).alloc (.cells #[.int .i64 x.e, .int .i64 x.d, .int .i64 x.x, .int .i64 x.y, .int .i64 x.z] 25)).heap.size ≤ w2.heap.size := gb.grown.size
        have G3 := hide (gb.grow (Grow.trans' HG1.out (Grow.alloc' _ _)) (by omega))
        have HRG3 := hide (ranges_grew (HRG2.out.alloc _) gb hbl)
        have HO2 := hide O2
        clear gb O2
        go_wp2_with fail
        go_roundw
        case rel =>
          refine ⟨_, cnt1, acc ++ [x], some ⟨g', 0, none⟩, m + 1, c', rfl, HRG3.out, OwnSV.of HO2.out ?_, G3.out, HC1.out, ?_, ?_⟩
          · have := HO1.out.1
            simp [this]
          · simp; omega
          · simp at hz2; omega
        case measure => rw [HRG3.out.left_eq, HLE.out]; exact hlt
      · have HC1 := hide (HC.out.skip HX.out HLX.out hx)
        go_wp2_with fail
        go_roundw
        case rel => exact ⟨_, cnt1, acc, s', m, cap', rfl, HRG2.out, HO1.out, HG1.out, HC1.out, by omega, by simp; omega⟩
        case measure => rw [HRG2.out.left_eq, HLE.out]; exact hlt

end Go.Proofs.Ytpkhmhigoafklaa
