/-
  What counted's All does to the world: the times whose number is not 0, in their order, in a row of its own; what was there stays as it was.
-/
import Derived.Test.YtpkhmhigoafklaaRng
import Derived.Test.YtpkhmhigoafklaaCSet
import Derived.Test.YtpkhmhigoafklaaTSrt
namespace Go.Proofs.Ytpkhmhigoafklaa
set_option maxRecDepth 100000
open Go.RowKit Go.Maps
set_option linter.unusedVariables false
set_option linter.unusedSimpArgs false

/-- What is sorted, with none twice, rises. -/
theorem rises_of_sorted {l : List Tm} (h : l.Pairwise fun a b => kinT.ord a b ≤ 0) (hn : l.Nodup) : Rises kinT l := by
  refine (List.Pairwise.and h hn).imp fun {a b} ⟨h1, h2⟩ => ?_
  rcases Kin.otot kinT a b with k | k | k
  · exact k
  · exact absurd k h2
  · have := kinT.oanti a b; omega

set_option maxHeartbeats 2000000 in
theorem all_any (p b : Nat) (s : Cs) (w : World) (hok : s.ok) (hR : RepC w p b s) :
    Calls Try.prog 15 #[.pointer (some ⟨p, 0, none⟩)] w fun e w' => ∃ v, e = .returned v ∧ Grow w w' ∧ IsRowT s.T v w' := by
  obtain ⟨D, hD⟩ := hR.map
  obtain ⟨M, hM, hmk⟩ := make_tms w 0 s.T.length (Nat.zero_le _) (by have := hok.few; omega)
  have hO0 : OwnS (w.alloc (.cells M 25)) w.heap.size w.heap.size s.T.length [] :=
    OwnS.mk' (Nat.le_refl _) (MapKept.heap_alloc w _).1 (Nat.zero_le _) (by have := hok.few; simp [maxLen]; omega) hM (by simp [flatT])
  have HO0 := hide hO0
  have G0 := hide (Grow.alloc' w (.cells M 25))
  have HD := hide (hD.keep (G0.out.block b hR.map.lt))
  have hlen := hR.map.len
  have hc := hR.cell
  have hpl := hR.lt
  have hbl : b < w.heap.size := hR.map.lt
  simp only [Int.natCast_zero] at hmk
  clear hR hD hM hO0
  go_enter Try.func15, Try.ntmps15
  go_wp2_with (at_range; refine wpList_range_T rfl _ rfl b s D rfl HD.out ?_; intro w0 hrg0 hg0 hs0)
  go_frame
  have HRG := hide hrg0
  have HG0 := hide (Grow.trans' G0.out hg0)
  have HO1 := hide (HO0.out.later hg0)
  obtain ⟨r, hr⟩ : ∃ r, r = w.heap.size + 1 := ⟨_, rfl⟩
  have e1 : (w.alloc (.cells M 25)).heap.size = r := by simp [hr]
  rw [e1] at HRG hs0 ⊢
  have hrw : w.heap.size < r := by omega
  clear hrg0 hg0 hr e1 HO0 hlen hmk
  go_loopw [3] (fun v wr => ∃ (left : Lit → Bool) (cnt : Nat) (acc : List Tm) (g m cap' : Nat), v = .slice (some ⟨g, 0, none⟩) m cap' ∧ RangesT wr b r s.T.length D left cnt ∧ OwnS wr w.heap.size g cap' acc ∧ acc.length = m ∧ g ≠ r ∧ Grow w wr ∧ Coll (fun x => s.f x ≠ 0) left acc ∧ acc.length + cnt ≤ s.T.length ∧ r + 1 ≤ wr.heap.size) (fun _ wr => wr.rangeLeft b r)
  case atStart => exact ⟨Maps.has D, s.T.length, [], w.heap.size, 0, s.T.length, rfl, HRG.out, HO1.out, rfl, by omega, HG0.out, Coll.start HD.out _ (fun x h => h), by simp, by omega⟩
  case round =>
    obtain ⟨left, cnt, acc, g, m, cap', rfl, hrg, hO, hm, hgr, hg, hC, hcnt, hsz⟩ := hrel
    have HRG1 := hide hrg
    have HO := hide hO
    have HM := hide hm
    have HG := hide hg
    have HC := hide hC
    have hwg : w.heap.size ≤ g := hO.le.1
    have hbg : b < g := by omega
    have hm4 : m ≤ 400 := by have h2 := hok.few; omega
    clear hrg hO hg hC HRG HG0 HO1 hm
    go_wp2_with (at_next; refine wpList_next_T rfl _ rfl b r s D _ HD.out left cnt rfl HRG1.out ?_ ?_)
    · intro hl
      have HL := hide hl
      clear hl
      go_wp2_with fail
      refine (tsort_any _ m cap' acc wr (by omega) (OwnSV.of HO.out HM.out).is).mono ?_
      rintro e w2 ⟨s2, c2, rfl, hb, l', hp, hs, hI⟩
      have hl' : l' = s.T := by
        refine rises_ext kinT (rises_of_sorted hs (hp.nodup_iff.2 HC.out.nodup)) hok.rises fun x => ?_
        rw [hp.mem_iff, HC.out.fin HL.out (fun x h => wf_of_num hok h), hok.mem]
      rw [hl'] at hI
      have G2 := hide (Grow.trans' HG.out hb)
      have H2 := hide hI
      clear hb hI hp hs hl'
      go_wp2_with fail
      go_ret
      exact ⟨_, rfl, G2.out, s2, m, c2, rfl, H2.out⟩
    · intro x w1 cnt1 hwx hlx hrg1 hlt hg1 hs1 hen
      have HRG2 := hide (hrg1.alloc (.cells #[.int .i64 x.e, .int .i64 x.d, .int .i64 x.x, .int .i64 x.y, .int .i64 x.z] 25))
      have HG1 := hide (Grow.trans' (grow_step HG.out hg1 (by omega)) (Grow.alloc' w1 (.cells #[.int .i64 x.e, .int .i64 x.d, .int .i64 x.x, .int .i64 x.y, .int .i64 x.z] 25)))
      have HO1 := hide ((HO.out.keep (hg1.block g HO.out.lt (fun e => by cases e; exact hgr rfl))).later (Grow.alloc' w1 (.cells #[.int .i64 x.e, .int .i64 x.d, .int .i64 x.x, .int .i64 x.y, .int .i64 x.z] 25)))
      have hfx : s.f x ≠ 0 := by
        have h1 := HD.out.2.2.2 x hwx
        have h2 : Maps.has D (klT x) = true := by
          obtain ⟨es, clock, since, seen, c0, hb', F, hs', hD', hr', _, _, _, hl2, _⟩ := HRG1.out
          obtain ⟨y, hy, e⟩ := hl2 _ hlx
          rw [hD']
          refine List.any_eq_true.2 ⟨WideElems.rg Try.prog 25 PE y, mem_sorted.2 (List.mem_map.2 ⟨y, hy, rfl⟩), ?_⟩
          rw [e]; exact WideAt.sameKey_self (klT_key hwx)
        rw [h2] at h1
        simpa using h1
      have HC1 := hide (HC.out.take hwx hlx hfx)
      have HLE := hide HRG1.out.left_eq
      have hsz1 : r + 1 ≤ w1.heap.size := by omega
      have hrow : Hid (RowT ((w1.alloc (.cells #[.int .i64 x.e, .int .i64 x.d, .int .i64 x.x, .int .i64 x.y, .int .i64 x.z] 25)).alloc (.cells #[.int .i64 x.e, .int .i64 x.d, .int .i64 x.x, .int .i64 x.y, .int .i64 x.z] 25)) (w1.heap.size + 1) 0 [x]) := hide (by have := RowT_one (w1.alloc (.cells #[.int .i64 x.e, .int .i64 x.d, .int .i64 x.x, .int .i64 x.y, .int .i64 x.z] 25)) x; simpa using this)
      clear hrg1 hg1 HG HO hwx hlx HRG1 hs1 hfx
      go_wp2_with (at_builtin; refine wpList_app_tm rfl _ _ rfl w.heap.size g cap' acc [x] m HM.out.symm rfl (HO1.out.later (Grow.alloc' _ _)) (w1.heap.size + 1) 0 1 1 rfl rfl hrow.out ?hl ?hb ?_)
      case hl => rw [HM.out]; omega
      case hb => simp; omega
      intro g' c' w2 O2 gb hgg
      have hz2 : ((w1.alloc (.cells #[.int .i64 x.e, .int .i64 x.d, .int .i64 x.x, .int .i64 x.y, .int .i64 x.z] 25)).alloc (.cells #[.int .i64 x.e, .int .i64 x.d, .int .i64 x.x, .int .i64 x.y, .int .i64 x.z] 25)).heap.size ≤ w2.heap.size := gb.size
      have G3 := hide (grow_step (Grow.trans' HG1.out (Grow.alloc' _ _)) gb (by omega))
      have HRG3 := hide ((HRG2.out.alloc (.cells #[.int .i64 x.e, .int .i64 x.d, .int .i64 x.x, .int .i64 x.y, .int .i64 x.z] 25)).kept gb (fun e => by cases e; omega) (fun e => by cases e; exact hgr rfl))
      have HO2 := hide O2
      have hgr' : g' ≠ r := by
        rcases hgg with e | e
        · rw [e]; exact hgr
        · have h9 : w1.heap.size ≤ g' := by rw [e]; first | omega | (simp; done) | (simp; omega)
          omega
      clear gb O2 hgg
      go_wp2_with fail
      go_roundw
      case rel =>
        refine ⟨_, cnt1, acc ++ [x], g', m + 1, c', rfl, HRG3.out, HO2.out, ?_, hgr', G3.out, HC1.out, ?_, ?_⟩
        · have := HM.out
          simp [this]
        · simp; omega
        · simp at hz2; omega
      case measure => rw [HRG3.out.left_eq, HLE.out]; exact hlt

end Go.Proofs.Ytpkhmhigoafklaa
