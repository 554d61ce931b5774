/-
  What fn.Reduce does to the world: of every row one record of each key, the keys rising, in a row of its own; what was there stays as it was.
-/
import Derived.Test.YthkkjhjbojbbaaaFAgg
import Derived.Test.YthkkjhjbojbbaaaFFil
import Derived.Test.YthkkjhjbojbbaaaGSrt
namespace Go.Proofs.Ythkkjhjbojbbaaa
set_option maxRecDepth 100000
open Go.RowKit Go.Sort
set_option linter.unusedVariables false
set_option linter.unusedSimpArgs false

attribute [local go_sem ↓] run_tailR aggAt_1 aggAt_2 aggAt_3 aggAt_4 aggF_0
/-- A slice that append has made, of so many. -/
def AppF (base n : Nat) (d : List Rc) (v : Value) (w : World) : Prop := ∃ s2 c2, v = .slice s2 n c2 ∧ OwnRV w base s2 n c2 d ∧ True
theorem AppF.later {base n : Nat} {d : List Rc} {v : Value} {w w' : World} (hg : Grow w w') : AppF base n d v w → AppF base n d v w' := fun ⟨s2, c2, e, h, l⟩ => ⟨s2, c2, e, h.later hg, l⟩
/-- A new slice of one record. -/
def OneR (t : Rc) (v : Value) (w : World) : Prop := ∃ g, v = .slice (some ⟨g, 0, none⟩) 1 1 ∧ IsRcs w (some ⟨g, 0, none⟩) 1 1 [t]
theorem OneR.later {t : Rc} {v : Value} {w w' : World} (hg : Grow w w') : OneR t v w → OneR t v w' := fun ⟨g, e, h⟩ => ⟨g, e, h.later hg⟩
theorem oneR_new (w : World) (t : Rc) : OneR t (.slice (some ⟨w.heap.size, 0, none⟩) 1 1) (w.alloc (.cells #[.int .i64 t.k, .int .i64 t.v] 23)) := ⟨_, rfl, rfl, Nat.le_refl _, .inr ⟨_, _, rfl, RowR_one w t⟩⟩
theorem run_apF {ws w : World} (hg : Grow ws w) (rt : TypeId) (s : Option Addr) (n cap : Nat) (d e : List Rc) (hown : OwnRV w ws.heap.size s n cap d) (s' : Option Addr) (m c : Nat) (he : IsRcs w s' m c e) (hlen : n + m ≤ 1000000) :
    ∃ s2 c2 w2, (Builtin.append_ #[30, 30] rt #[.slice s n cap, .slice s' m c]).run Try.prog w = .ok (.slice s2 (n + m) c2) w2
      ∧ OwnRV w2 ws.heap.size s2 (n + m) c2 (d ++ e) ∧ Grow ws w2 ∧ True := by
  obtain ⟨s2, c2, w2, h1, h2, h3⟩ := run_apv_rc w rt ws.heap.size s n cap d e hown s' m c he hlen hg.size
  exact ⟨s2, c2, w2, h1, h2, h3.grow hg (Nat.le_refl _), trivial⟩
def sliceLen : Value → Nat
  | .slice _ n _ => n
  | _ => 0
theorem red_no (a : Int) (s : Option Addr) (n cap : Nat) (ha : mayRedB a = false) (w : World) :
    Calls Try.prog 23 #[.int .i64 a, .slice s n cap] w fun e w' => e = .returned (.slice none 0 0) ∧ Grow w w' := by
  have C := hide (mayRed_at a ha w)
  clear ha
  go_enter Try.func23, Try.ntmps23
  go_wp2_with fail
  refine (C.out).mono ?_
  rintro e w1 ⟨rfl, rfl⟩
  go_wp2_with fail
  go_ret
  exact ⟨rfl, Grow.rfl' _⟩
theorem grp_of {w : World} {b o m cr : Nat} {R : List Rc} (hI : IsRcs w (some ⟨b, o, none⟩) m cr R) (hm : 0 < m) (hbig : m ≤ 1000000) (hs : SortedR R) (hv : ∀ r ∈ R, -1099511627776 ≤ r.v ∧ r.v ≤ 1099511627776) :
    Grp w (some ⟨b, o, none⟩) (shr R) cr (R.take (shr R)) := by
  have h0 : 0 < R.length := by rw [hI.1]; exact hm
  have hq := shr_pos h0
  rw [hI.1] at hq
  refine ⟨hI.take' _ hq.2, hq.1, by omega, hs.sublist (List.take_sublist _ _), ?_, fun r hr => hv r (List.mem_of_mem_take hr)⟩
  refine ⟨(R[0]).k, fun y hy => ?_⟩
  obtain ⟨i, hi, rfl⟩ := List.mem_iff_getElem.1 hy
  rw [List.getElem_take]
  rw [List.length_take] at hi
  exact shr_lt R i (by omega) h0 (by omega)

set_option maxHeartbeats 4000000 in
theorem red_1 (s : Option Addr) (n cap : Nat) (d : List Rc) (w : World) (hbig : n ≤ 100000) (hv : ∀ r ∈ d, -1099511627776 ≤ r.v ∧ r.v ≤ 1099511627776) (hd : IsRcs w s n cap d) :
    Calls Try.prog 23 #[.int .i64 1, .slice s n cap] w fun e w' => ∃ s2 n2 c2, e = .returned (.slice s2 n2 c2) ∧ Grow w w' ∧ IsRcs w' s2 n2 c2 (redR 1 d) := by
  have HI := hide hd
  have HV : Hid (∀ r ∈ srt d, -1099511627776 ≤ r.v ∧ r.v ≤ 1099511627776) := hide (fun r hr => hv r ((srt_perm d).mem_iff.1 hr))
  have HS := hide (srt_sorted d)
  have HRD := hide (redS_srt (a := 1) rfl d)
  have HL := hide ((srt_len d).trans hd.1)
  clear hd hv
  go_enter Try.func23, Try.ntmps23
  go_wp2_with fail
  refine (mayRed_at 1 (p := true) rfl _).mono ?_
  rintro e w1 ⟨rfl, rfl⟩
  go_wp2_with fail
  refine (aggregates_any _).mono ?_
  rintro e w2 ⟨rfl, hb⟩
  have G2 := hide hb
  have C := hide (sort_at s n cap d w2 (by omega) (HI.out.later hb))
  clear hb HI
  go_wp2_with fail
  refine (C.out).mono ?_
  rintro e w1 ⟨s1, c1, rfl, hb, hI⟩
  have G1 := hide (Grow.trans' G2.out hb)
  obtain ⟨S, hS⟩ : ∃ S, S = srt d := ⟨_, rfl⟩
  rw [← hS] at hI HV HS HRD HL
  have I1 := hide hI
  clear hb hI C hS G2
  rename World => w1
  go_wp2_with fail
  go_loopw [6, 7] (fun v r wr => ∃ (k : Nat) (sl : Option Addr) (ml cl : Nat) (sr : Option Addr) (m cr : Nat) (T : List Rc), k + m = n ∧ v = .slice sl ml cl ∧ r = .slice sr m cr ∧ IsRcs w1 sr m cr (S.drop k) ∧ Grow w1 wr ∧ OwnRV wr w1.heap.size sl ml cl T ∧ ml ≤ k ∧ T ++ redS 1 (S.drop k) = redS 1 S) (fun _ r _ => sliceLen r)
  case atStart => exact ⟨0, none, 0, 0, s1, n, c1, [], by omega, rfl, rfl, I1.out, Grow.rfl' _, OwnRV.nil _ _, Nat.le_refl _, rfl⟩
  case round =>
    obtain ⟨k, sl, ml, cl, sr, m, cr, T, hkm, rfl, rfl, hR, hg, hO, hml, hT⟩ := hrel
    have HG := hide hg
    have HO := hide hO
    have HT := hide hT
    have HKM := hide hkm
    have hkb : k ≤ 100000 := by omega
    have hmb : m ≤ 100000 := by omega
    have hsz := hg.size
    clear hO hT hkm
    by_cases hlt : 0 < m
    · obtain ⟨R, hRR⟩ : ∃ R, R = S.drop k := ⟨_, rfl⟩
      have HSR := hide (show SortedR R by rw [hRR]; exact HS.out.sublist (List.drop_sublist _ _))
      have HVR := hide (show ∀ r ∈ R, -1099511627776 ≤ r.v ∧ r.v ≤ 1099511627776 from fun r hr => HV.out r (by rw [hRR] at hr; exact List.mem_of_mem_drop hr))
      rw [← hRR] at hR HT
      have h0 : 0 < R.length := by rw [hR.1]; exact hlt
      have hne : ¬ R = [] := fun h => by rw [h] at h0; simp at h0
      obtain ⟨b, o, rfl, hr1⟩ := hR.2.2.resolve_left hne
      have hmc := hR.2.1
      obtain ⟨P0, P1⟩ := hr1.at 0 h0
      simp only [Nat.zero_mul, Nat.add_zero] at P0 P1
      have HST := hide (redS_step 1 R h0)
      have hq := shr_pos h0
      rw [hR.1] at hq
      have CS := hide (sharing_at (some ⟨b, o, none⟩) m cr R wr (by omega) hlt (hR.later hg))
      have CA := hide (fun w' (h : Grow w1 w') => aggC1 (some ⟨b, o, none⟩) (shr R) cr (R.take (shr R)) w' (grp_of (hR.later h) hlt (by omega) HSR.out HVR.out))
      have HNX := hide (hR.from' (shr R) hq.2)
      have HRD2 := hide hRR
      obtain ⟨x, hx⟩ : ∃ x, x = R[0] := ⟨_, rfl⟩
      rw [← hx] at P0 P1 HST
      have PK := hide P0
      obtain ⟨q, hqq⟩ : ∃ q, q = shr R := ⟨_, rfl⟩
      rw [← hqq] at hq CS CA HST HNX
      obtain ⟨z, hz⟩ : ∃ z, z = agg 1 (R.take q) := ⟨_, rfl⟩
      rw [← hz] at CA HST
      have hqc : (q : Int) ≤ (cr : Int) := by omega
      have hqm : (q : Int) ≤ (m : Int) := by omega
      have hq0 : (0 : Int) ≤ (q : Int) := by omega
      have hm0 : (0 : Int) < (m : Int) := by omega
      have hm1 : decide (0 < m) = true := by simpa using hlt
      have HH := hide (fun w' => run_headR (some ⟨b, o, none⟩) m cr q w' hqc)
      clear hR hr1 hx hqq hz hne P0 P1 hRR hg
      go_wp2_with fail
      refine (CS.out).mono ?_
      rintro e w3 ⟨rfl, hb⟩
      have G3 := hide (Grow.trans' HG.out hb)
      have O3 := hide (HO.out.later hb)
      clear hb CS HG HO hsz
      go_wp2_with fail
      have HGG : ∀ wa wb, Grow w1 wa → Grow wa wb → Grow w1 wb := fun _ _ h q => Grow.trans' h q
      have HBG : ∀ wa wb, Grow wa wb → OwnRV wa w1.heap.size sl ml cl T → OwnRV wb w1.heap.size sl ml cl T := fun _ _ q h => h.later q
      have HG0 : ∀ w', Grow w3 w' → w'.heap = w3.heap → Grow w1 w' := fun _ h _ => Grow.trans' G3.out h
      have HB0 : ∀ w', Grow w3 w' → w'.heap = w3.heap → OwnRV w' w1.heap.size sl ml cl T := fun _ h _ => O3.out.later h
      let FF : Nat → Value → World → Prop := fun i vF wF => match i with | 0 => vF = .slice sl ml cl | 1 => vF = .slice (some ⟨b, o, none⟩) m cr | 2 => vF = .pointer (some ⟨b, o, none⟩) | 3 => vF = .pointer (some ⟨b, o, none⟩) | 4 => vF = .int .i64 x.k | 5 => vF = .func (.func 51) #[] #[] | 6 => vF = .slice (some ⟨b, o, none⟩) m cr | 7 => vF = .int .i64 (q : Int) | 8 => vF = .slice (some ⟨b, o, none⟩) q cr | 9 => vF = .int .i64 z | 10 => vF = .agg #[.int .i64 (⟨x.k, z⟩ : Rc).k, .int .i64 (⟨x.k, z⟩ : Rc).v] | 11 => OneR ⟨x.k, z⟩ vF wF | 12 => AppF w1.heap.size (ml + 1) (T ++ [⟨x.k, z⟩]) vF wF | _ => True
      let GG : World → Prop := fun w' => Grow w1 w'
      let BB : World → Prop := fun w' => OwnRV w' w1.heap.size sl ml cl T
      have hstab : ∀ k v w1 w2, Grow w1 w2 → FF k v w1 → FF k v w2 := by
        intro k v w1 w2 hg h
        match k with
        | 0 => exact h
        | 1 => exact h
        | 2 => exact h
        | 3 => exact h
        | 4 => exact h
        | 5 => exact h
        | 6 => exact h
        | 7 => exact h
        | 8 => exact h
        | 9 => exact h
        | 10 => exact h
        | 11 => exact OneR.later hg h
        | 12 => exact AppF.later hg h
        | k + 13 => exact trivial
      have hGg : ∀ w1 w2, GG w1 → Grow w1 w2 → GG w2 := HGG
      have hBg : ∀ w1 w2, Grow w1 w2 → BB w1 → BB w2 := HBG
      refine wp_region_endG FF GG BB (fun i => match i with | 11 => some 12 | _ => none) 12 13 _ rfl rfl rfl (by kernel_rfl) (by kernel_rfl) HG0 HB0 ?_ ?_
      · refine ⟨?_, ?_, ?_, ?_, ?_, ?_, ?_, ?_, ?_, ?_, ?_, ?_, ?_, trivial⟩
        · refine stepG_run hGg hBg hstab rfl ?_
          intro a' w' hg hs hd hb
          have e6 : a'.eval (.tmp 6) = .slice sl ml cl := hs.rest 6 rfl
          have ec : ∀ v, a'.eval (.const v) = v := fun _ => rfl
          have ef : ∀ g, a'.eval (.func g) = .func (.func g) #[] #[] := fun _ => rfl
          clear hd hs
          refine wpv (v := .slice sl ml cl) ?_ ⟨_, rfl, Grow.rfl' _, rfl⟩
          (generalize a'.eval = ev at ec ef e6 ⊢; simp [execOp, go_sem, *])
        · refine stepG_run hGg hBg hstab rfl ?_
          intro a' w' hg hs hd hb
          have e7 : a'.eval (.tmp 7) = .slice (some ⟨b, o, none⟩) m cr := hs.rest 7 rfl
          have ec : ∀ v, a'.eval (.const v) = v := fun _ => rfl
          have ef : ∀ g, a'.eval (.func g) = .func (.func g) #[] #[] := fun _ => rfl
          clear hd hs
          refine wpv (v := .slice (some ⟨b, o, none⟩) m cr) ?_ ⟨_, rfl, Grow.rfl' _, rfl⟩
          (generalize a'.eval = ev at ec ef e7 ⊢; simp [execOp, go_sem, *])
        · refine stepG_run hGg hBg hstab rfl ?_
          intro a' w' hg hs hd hb
          have e24 : a'.eval (.tmp 24) = .slice (some ⟨b, o, none⟩) m cr := hd ⟨1, Ground.data⟩ (by simp) rfl rfl
          have ec : ∀ v, a'.eval (.const v) = v := fun _ => rfl
          have ef : ∀ g, a'.eval (.func g) = .func (.func g) #[] #[] := fun _ => rfl
          clear hd hs
          refine wpv (v := .pointer (some ⟨b, o, none⟩)) ?_ ⟨_, rfl, Grow.rfl' _, rfl⟩
          (generalize a'.eval = ev at ec ef e24 ⊢; simp [execOp, go_sem, *])
        · refine stepG_run hGg hBg hstab rfl ?_
          intro a' w' hg hs hd hb
          have e25 : a'.eval (.tmp 25) = .pointer (some ⟨b, o, none⟩) := hd ⟨2, Ground.data⟩ (by simp) rfl rfl
          have ec : ∀ v, a'.eval (.const v) = v := fun _ => rfl
          have ef : ∀ g, a'.eval (.func g) = .func (.func g) #[] #[] := fun _ => rfl
          clear hd hs
          refine wpv (v := .pointer (some ⟨b, o, none⟩)) ?_ ⟨_, rfl, Grow.rfl' _, rfl⟩
          (generalize a'.eval = ev at ec ef e25 ⊢; simp [execOp, go_sem, *])
        · refine stepG_run hGg hBg hstab rfl ?_
          intro a' w' hg hs hd hb
          have e26 : a'.eval (.tmp 26) = .pointer (some ⟨b, o, none⟩) := hd ⟨3, Ground.data⟩ (by simp) rfl rfl
          have ec : ∀ v, a'.eval (.const v) = v := fun _ => rfl
          have ef : ∀ g, a'.eval (.func g) = .func (.func g) #[] #[] := fun _ => rfl
          have p0 := cell_later hg PK.out
          clear hd hs
          refine wpv (v := .int .i64 x.k) ?_ ⟨_, rfl, Grow.rfl' _, rfl⟩
          (generalize a'.eval = ev at ec ef e26 ⊢; simp [execOp, go_sem, *])
        · refine stepG_run hGg hBg hstab rfl ?_
          intro a' w' hg hs hd hb
          have e5 : a'.eval (.tmp 5) = .func (.func 51) #[] #[] := hs.rest 5 rfl
          have ec : ∀ v, a'.eval (.const v) = v := fun _ => rfl
          have ef : ∀ g, a'.eval (.func g) = .func (.func g) #[] #[] := fun _ => rfl
          clear hd hs
          refine wpv (v := .func (.func 51) #[] #[]) ?_ ⟨_, rfl, Grow.rfl' _, rfl⟩
          (generalize a'.eval = ev at ec ef e5 ⊢; simp [execOp, go_sem, *])
        · refine stepG_run hGg hBg hstab rfl ?_
          intro a' w' hg hs hd hb
          have e7 : a'.eval (.tmp 7) = .slice (some ⟨b, o, none⟩) m cr := hs.rest 7 rfl
          have ec : ∀ v, a'.eval (.const v) = v := fun _ => rfl
          have ef : ∀ g, a'.eval (.func g) = .func (.func g) #[] #[] := fun _ => rfl
          clear hd hs
          refine wpv (v := .slice (some ⟨b, o, none⟩) m cr) ?_ ⟨_, rfl, Grow.rfl' _, rfl⟩
          (generalize a'.eval = ev at ec ef e7 ⊢; simp [execOp, go_sem, *])
        · refine stepG_run hGg hBg hstab rfl ?_
          intro a' w' hg hs hd hb
          have e8 : a'.eval (.tmp 8) = .int .i64 (q : Int) := hs.rest 8 rfl
          have ec : ∀ v, a'.eval (.const v) = v := fun _ => rfl
          have ef : ∀ g, a'.eval (.func g) = .func (.func g) #[] #[] := fun _ => rfl
          clear hd hs
          refine wpv (v := .int .i64 (q : Int)) ?_ ⟨_, rfl, Grow.rfl' _, rfl⟩
          (generalize a'.eval = ev at ec ef e8 ⊢; simp [execOp, go_sem, *])
        · refine stepG_run hGg hBg hstab rfl ?_
          intro a' w' hg hs hd hb
          have e29 : a'.eval (.tmp 29) = .slice (some ⟨b, o, none⟩) m cr := hd ⟨6, Ground.data⟩ (by simp) rfl rfl
          have e30 : a'.eval (.tmp 30) = .int .i64 (q : Int) := hd ⟨7, Ground.data⟩ (by simp) rfl rfl
          have ec : ∀ v, a'.eval (.const v) = v := fun _ => rfl
          have ef : ∀ g, a'.eval (.func g) = .func (.func g) #[] #[] := fun _ => rfl
          have hh := HH.out w'
          clear hd hs
          refine wpv (v := .slice (some ⟨b, o, none⟩) q cr) ?_ ⟨_, rfl, Grow.rfl' _, rfl⟩
          (generalize a'.eval = ev at ec ef e29 e30 ⊢; simp [execOp, go_sem, *])
        · refine stepG_run hGg hBg hstab rfl ?_
          intro a' w' hg hs hd hb
          have e28 : a'.eval (.tmp 28) = .func (.func 51) #[] #[] := hd ⟨5, Ground.data⟩ (by simp) rfl rfl
          have e31 : a'.eval (.tmp 31) = .slice (some ⟨b, o, none⟩) q cr := hd ⟨8, Ground.data⟩ (by simp) rfl rfl
          have ec : ∀ v, a'.eval (.const v) = v := fun _ => rfl
          have ef : ∀ g, a'.eval (.func g) = .func (.func g) #[] #[] := fun _ => rfl
          clear hd hs
          refine wpc ?_ (Calls.mono (CA.out w' hg) fun e w2 ⟨he, hb⟩ => ⟨_, he, _, rfl, hb, rfl⟩)
          (generalize a'.eval = ev at ec ef e28 e31 ⊢; simp [execOp, go_sem, *])
        · refine stepG_run hGg hBg hstab rfl ?_
          intro a' w' hg hs hd hb
          have e27 : a'.eval (.tmp 27) = .int .i64 x.k := hd ⟨4, Ground.data⟩ (by simp) rfl rfl
          have e32 : a'.eval (.tmp 32) = .int .i64 z := hd ⟨9, Ground.data⟩ (by simp) rfl rfl
          have ec : ∀ v, a'.eval (.const v) = v := fun _ => rfl
          have ef : ∀ g, a'.eval (.func g) = .func (.func g) #[] #[] := fun _ => rfl
          clear hd hs
          refine wpv (v := .agg #[.int .i64 (⟨x.k, z⟩ : Rc).k, .int .i64 (⟨x.k, z⟩ : Rc).v]) ?_ ⟨_, rfl, Grow.rfl' _, rfl⟩
          (generalize a'.eval = ev at ec ef e27 e32 ⊢; simp [execOp, go_sem, *])
        · refine stepG_run hGg hBg hstab rfl ?_
          intro a' w' hg hs hd hb
          have e33 : a'.eval (.tmp 33) = .agg #[.int .i64 (⟨x.k, z⟩ : Rc).k, .int .i64 (⟨x.k, z⟩ : Rc).v] := hd ⟨10, Ground.data⟩ (by simp) rfl rfl
          have ec : ∀ v, a'.eval (.const v) = v := fun _ => rfl
          have ef : ∀ g, a'.eval (.func g) = .func (.func g) #[] #[] := fun _ => rfl
          clear hd hs
          refine wpv (v := .slice (some ⟨w'.heap.size, 0, none⟩) 1 1) (w' := w'.alloc (.cells #[.int .i64 x.k, .int .i64 z] 23)) ?_ ⟨_, rfl, Grow.alloc' _ _, oneR_new w' ⟨x.k, z⟩⟩
          (generalize a'.eval = ev at ec ef e33 ⊢; simp [execOp, go_sem, *])
        · refine stepG_take rfl ?_
          intro a' w' hg hs hd hb
          have e23 : a'.eval (.tmp 23) = .slice sl ml cl := hd ⟨0, Ground.data⟩ (by simp) rfl rfl
          obtain ⟨g34, e34, h34⟩ : OneR ⟨x.k, z⟩ (a'.eval (.tmp 34)) w' := hd ⟨11, Ground.data⟩ (by simp) rfl rfl
          have ec : ∀ v, a'.eval (.const v) = v := fun _ => rfl
          have ef : ∀ g, a'.eval (.func g) = .func (.func g) #[] #[] := fun _ => rfl
          clear hd hs
          obtain ⟨s2, c2, w2, hrun, hown, hgr, hlie⟩ := run_apF hg 30 sl ml cl T [⟨x.k, z⟩] (hb rfl) (some ⟨g34, 0, none⟩) 1 1 h34 (by omega)
          refine wpv (v := .slice s2 _ c2) (w' := w2) ?_ ⟨_, rfl, hgr, ⟨s2, c2, rfl, hown, hlie⟩, ?_, fun h _ => absurd rfl h⟩
          rotate_left
          · intro j u hj h
            match j with
            | 0 => exact h
            | 1 => exact h
            | 2 => exact h
            | 3 => exact h
            | 4 => exact h
            | 5 => exact h
            | 6 => exact h
            | 7 => exact h
            | 8 => exact h
            | 9 => exact h
            | 10 => exact h
            | 11 => cases hj
            | 12 => cases hj
            | j + 13 => exact trivial
          · unfold execOp; simp only [resolve, invoke, builtin, Sem.run_bind, Sem.run_pure, Result.andThen_ok, List.map_toArray, List.map_cons, List.map_nil, e23, e34, hrun]
      · intro a' w' hg hs hd
        obtain ⟨sa35, ca35, e35, h35, t35⟩ : AppF w1.heap.size (ml + 1) (T ++ [⟨x.k, z⟩]) (a'.eval (.tmp 35)) w' := hd 12 (by omega) rfl
        have ec : ∀ v, a'.eval (.const v) = v := fun _ => rfl
        have ef : ∀ g, a'.eval (.func g) = .func (.func g) #[] #[] := fun _ => rfl
        have HF := hide h35
        have HG3 := hide hg
        refine wpv (v := .slice sa35 (ml + 1) ca35) (w' := w') ?_ ?_
        · (generalize a'.eval = ev at ec ef e35 ⊢; simp [execOp, go_sem, *])
        clear h35 t35 e35 ec ef hg HGG HBG HG0 HB0 hGg hBg hstab
        rw [frame_eq hs [false, false, false, false, false, false, true, false, false, false, false, false, false, false, false, false, false, false, false, false, false, false, false, true, true, true, true, true, true, true, true, true, true, true, true, true, false, false, false, false] (by kernel_rfl)]; simp only [mergeL]; clear hs hd; generalize a'.tmps = TT at *; try go_frame
        go_wp2_with fail
        go_roundw
        case rel => exact ⟨k + q, sa35, ml + 1, ca35, _, m - q, cr - q, T ++ [⟨x.k, z⟩], by have := HKM.out; omega, rfl, rfl, by rw [← List.drop_drop, ← HRD2.out]; exact HNX.out, HG3.out, HF.out, by omega, by rw [← List.drop_drop, ← HRD2.out, List.append_assoc, List.singleton_append, ← HST.out]; exact HT.out⟩
        case measure => simp [sliceLen]; omega
    · have hm0 : m = 0 := by omega
      subst hm0
      have hkn : S.drop k = [] := List.eq_nil_of_length_eq_zero (by rw [hR.1])
      rw [hkn] at HT
      have HF := hide (show T = redR 1 d by rw [← HRD.out, ← HT.out, redS_nil, List.append_nil])
      clear hg hR hkn
      go_wp2_with fail
      go_ret
      exact ⟨sl, ml, cl, rfl, Grow.trans' G1.out HG.out, by rw [← HF.out]; exact HO.out.is⟩
set_option maxHeartbeats 4000000 in
theorem red_2 (s : Option Addr) (n cap : Nat) (d : List Rc) (w : World) (hbig : n ≤ 100000) (hv : ∀ r ∈ d, -1099511627776 ≤ r.v ∧ r.v ≤ 1099511627776) (hd : IsRcs w s n cap d) :
    Calls Try.prog 23 #[.int .i64 2, .slice s n cap] w fun e w' => ∃ s2 n2 c2, e = .returned (.slice s2 n2 c2) ∧ Grow w w' ∧ IsRcs w' s2 n2 c2 (redR 2 d) := by
  have HI := hide hd
  have HV : Hid (∀ r ∈ srt d, -1099511627776 ≤ r.v ∧ r.v ≤ 1099511627776) := hide (fun r hr => hv r ((srt_perm d).mem_iff.1 hr))
  have HS := hide (srt_sorted d)
  have HRD := hide (redS_srt (a := 2) rfl d)
  have HL := hide ((srt_len d).trans hd.1)
  clear hd hv
  go_enter Try.func23, Try.ntmps23
  go_wp2_with fail
  refine (mayRed_at 2 (p := true) rfl _).mono ?_
  rintro e w1 ⟨rfl, rfl⟩
  go_wp2_with fail
  refine (aggregates_any _).mono ?_
  rintro e w2 ⟨rfl, hb⟩
  have G2 := hide hb
  have C := hide (sort_at s n cap d w2 (by omega) (HI.out.later hb))
  clear hb HI
  go_wp2_with fail
  refine (C.out).mono ?_
  rintro e w1 ⟨s1, c1, rfl, hb, hI⟩
  have G1 := hide (Grow.trans' G2.out hb)
  obtain ⟨S, hS⟩ : ∃ S, S = srt d := ⟨_, rfl⟩
  rw [← hS] at hI HV HS HRD HL
  have I1 := hide hI
  clear hb hI C hS G2
  rename World => w1
  go_wp2_with fail
  go_loopw [6, 7] (fun v r wr => ∃ (k : Nat) (sl : Option Addr) (ml cl : Nat) (sr : Option Addr) (m cr : Nat) (T : List Rc), k + m = n ∧ v = .slice sl ml cl ∧ r = .slice sr m cr ∧ IsRcs w1 sr m cr (S.drop k) ∧ Grow w1 wr ∧ OwnRV wr w1.heap.size sl ml cl T ∧ ml ≤ k ∧ T ++ redS 2 (S.drop k) = redS 2 S) (fun _ r _ => sliceLen r)
  case atStart => exact ⟨0, none, 0, 0, s1, n, c1, [], by omega, rfl, rfl, I1.out, Grow.rfl' _, OwnRV.nil _ _, Nat.le_refl _, rfl⟩
  case round =>
    obtain ⟨k, sl, ml, cl, sr, m, cr, T, hkm, rfl, rfl, hR, hg, hO, hml, hT⟩ := hrel
    have HG := hide hg
    have HO := hide hO
    have HT := hide hT
    have HKM := hide hkm
    have hkb : k ≤ 100000 := by omega
    have hmb : m ≤ 100000 := by omega
    have hsz := hg.size
    clear hO hT hkm
    by_cases hlt : 0 < m
    · obtain ⟨R, hRR⟩ : ∃ R, R = S.drop k := ⟨_, rfl⟩
      have HSR := hide (show SortedR R by rw [hRR]; exact HS.out.sublist (List.drop_sublist _ _))
      have HVR := hide (show ∀ r ∈ R, -1099511627776 ≤ r.v ∧ r.v ≤ 1099511627776 from fun r hr => HV.out r (by rw [hRR] at hr; exact List.mem_of_mem_drop hr))
      rw [← hRR] at hR HT
      have h0 : 0 < R.length := by rw [hR.1]; exact hlt
      have hne : ¬ R = [] := fun h => by rw [h] at h0; simp at h0
      obtain ⟨b, o, rfl, hr1⟩ := hR.2.2.resolve_left hne
      have hmc := hR.2.1
      obtain ⟨P0, P1⟩ := hr1.at 0 h0
      simp only [Nat.zero_mul, Nat.add_zero] at P0 P1
      have HST := hide (redS_step 2 R h0)
      have hq := shr_pos h0
      rw [hR.1] at hq
      have CS := hide (sharing_at (some ⟨b, o, none⟩) m cr R wr (by omega) hlt (hR.later hg))
      have CA := hide (fun w' (h : Grow w1 w') => aggC2 (some ⟨b, o, none⟩) (shr R) cr (R.take (shr R)) w' (grp_of (hR.later h) hlt (by omega) HSR.out HVR.out))
      have HNX := hide (hR.from' (shr R) hq.2)
      have HRD2 := hide hRR
      obtain ⟨x, hx⟩ : ∃ x, x = R[0] := ⟨_, rfl⟩
      rw [← hx] at P0 P1 HST
      have PK := hide P0
      obtain ⟨q, hqq⟩ : ∃ q, q = shr R := ⟨_, rfl⟩
      rw [← hqq] at hq CS CA HST HNX
      obtain ⟨z, hz⟩ : ∃ z, z = agg 2 (R.take q) := ⟨_, rfl⟩
      rw [← hz] at CA HST
      have hqc : (q : Int) ≤ (cr : Int) := by omega
      have hqm : (q : Int) ≤ (m : Int) := by omega
      have hq0 : (0 : Int) ≤ (q : Int) := by omega
      have hm0 : (0 : Int) < (m : Int) := by omega
      have hm1 : decide (0 < m) = true := by simpa using hlt
      have HH := hide (fun w' => run_headR (some ⟨b, o, none⟩) m cr q w' hqc)
      clear hR hr1 hx hqq hz hne P0 P1 hRR hg
      go_wp2_with fail
      refine (CS.out).mono ?_
      rintro e w3 ⟨rfl, hb⟩
      have G3 := hide (Grow.trans' HG.out hb)
      have O3 := hide (HO.out.later hb)
      clear hb CS HG HO hsz
      go_wp2_with fail
      have HGG : ∀ wa wb, Grow w1 wa → Grow wa wb → Grow w1 wb := fun _ _ h q => Grow.trans' h q
      have HBG : ∀ wa wb, Grow wa wb → OwnRV wa w1.heap.size sl ml cl T → OwnRV wb w1.heap.size sl ml cl T := fun _ _ q h => h.later q
      have HG0 : ∀ w', Grow w3 w' → w'.heap = w3.heap → Grow w1 w' := fun _ h _ => Grow.trans' G3.out h
      have HB0 : ∀ w', Grow w3 w' → w'.heap = w3.heap → OwnRV w' w1.heap.size sl ml cl T := fun _ h _ => O3.out.later h
      let FF : Nat → Value → World → Prop := fun i vF wF => match i with | 0 => vF = .slice sl ml cl | 1 => vF = .slice (some ⟨b, o, none⟩) m cr | 2 => vF = .pointer (some ⟨b, o, none⟩) | 3 => vF = .pointer (some ⟨b, o, none⟩) | 4 => vF = .int .i64 x.k | 5 => vF = .func (.func 52) #[] #[] | 6 => vF = .slice (some ⟨b, o, none⟩) m cr | 7 => vF = .int .i64 (q : Int) | 8 => vF = .slice (some ⟨b, o, none⟩) q cr | 9 => vF = .int .i64 z | 10 => vF = .agg #[.int .i64 (⟨x.k, z⟩ : Rc).k, .int .i64 (⟨x.k, z⟩ : Rc).v] | 11 => OneR ⟨x.k, z⟩ vF wF | 12 => AppF w1.heap.size (ml + 1) (T ++ [⟨x.k, z⟩]) vF wF | _ => True
      let GG : World → Prop := fun w' => Grow w1 w'
      let BB : World → Prop := fun w' => OwnRV w' w1.heap.size sl ml cl T
      have hstab : ∀ k v w1 w2, Grow w1 w2 → FF k v w1 → FF k v w2 := by
        intro k v w1 w2 hg h
        match k with
        | 0 => exact h
        | 1 => exact h
        | 2 => exact h
        | 3 => exact h
        | 4 => exact h
        | 5 => exact h
        | 6 => exact h
        | 7 => exact h
        | 8 => exact h
        | 9 => exact h
        | 10 => exact h
        | 11 => exact OneR.later hg h
        | 12 => exact AppF.later hg h
        | k + 13 => exact trivial
      have hGg : ∀ w1 w2, GG w1 → Grow w1 w2 → GG w2 := HGG
      have hBg : ∀ w1 w2, Grow w1 w2 → BB w1 → BB w2 := HBG
      refine wp_region_endG FF GG BB (fun i => match i with | 11 => some 12 | _ => none) 12 13 _ rfl rfl rfl (by kernel_rfl) (by kernel_rfl) HG0 HB0 ?_ ?_
      · refine ⟨?_, ?_, ?_, ?_, ?_, ?_, ?_, ?_, ?_, ?_, ?_, ?_, ?_, trivial⟩
        · refine stepG_run hGg hBg hstab rfl ?_
          intro a' w' hg hs hd hb
          have e6 : a'.eval (.tmp 6) = .slice sl ml cl := hs.rest 6 rfl
          have ec : ∀ v, a'.eval (.const v) = v := fun _ => rfl
          have ef : ∀ g, a'.eval (.func g) = .func (.func g) #[] #[] := fun _ => rfl
          clear hd hs
          refine wpv (v := .slice sl ml cl) ?_ ⟨_, rfl, Grow.rfl' _, rfl⟩
          (generalize a'.eval = ev at ec ef e6 ⊢; simp [execOp, go_sem, *])
        · refine stepG_run hGg hBg hstab rfl ?_
          intro a' w' hg hs hd hb
          have e7 : a'.eval (.tmp 7) = .slice (some ⟨b, o, none⟩) m cr := hs.rest 7 rfl
          have ec : ∀ v, a'.eval (.const v) = v := fun _ => rfl
          have ef : ∀ g, a'.eval (.func g) = .func (.func g) #[] #[] := fun _ => rfl
          clear hd hs
          refine wpv (v := .slice (some ⟨b, o, none⟩) m cr) ?_ ⟨_, rfl, Grow.rfl' _, rfl⟩
          (generalize a'.eval = ev at ec ef e7 ⊢; simp [execOp, go_sem, *])
        · refine stepG_run hGg hBg hstab rfl ?_
          intro a' w' hg hs hd hb
          have e24 : a'.eval (.tmp 24) = .slice (some ⟨b, o, none⟩) m cr := hd ⟨1, Ground.data⟩ (by simp) rfl rfl
          have ec : ∀ v, a'.eval (.const v) = v := fun _ => rfl
          have ef : ∀ g, a'.eval (.func g) = .func (.func g) #[] #[] := fun _ => rfl
          clear hd hs
          refine wpv (v := .pointer (some ⟨b, o, none⟩)) ?_ ⟨_, rfl, Grow.rfl' _, rfl⟩
          (generalize a'.eval = ev at ec ef e24 ⊢; simp [execOp, go_sem, *])
        · refine stepG_run hGg hBg hstab rfl ?_
          intro a' w' hg hs hd hb
          have e25 : a'.eval (.tmp 25) = .pointer (some ⟨b, o, none⟩) := hd ⟨2, Ground.data⟩ (by simp) rfl rfl
          have ec : ∀ v, a'.eval (.const v) = v := fun _ => rfl
          have ef : ∀ g, a'.eval (.func g) = .func (.func g) #[] #[] := fun _ => rfl
          clear hd hs
          refine wpv (v := .pointer (some ⟨b, o, none⟩)) ?_ ⟨_, rfl, Grow.rfl' _, rfl⟩
          (generalize a'.eval = ev at ec ef e25 ⊢; simp [execOp, go_sem, *])
        · refine stepG_run hGg hBg hstab rfl ?_
          intro a' w' hg hs hd hb
          have e26 : a'.eval (.tmp 26) = .pointer (some ⟨b, o, none⟩) := hd ⟨3, Ground.data⟩ (by simp) rfl rfl
          have ec : ∀ v, a'.eval (.const v) = v := fun _ => rfl
          have ef : ∀ g, a'.eval (.func g) = .func (.func g) #[] #[] := fun _ => rfl
          have p0 := cell_later hg PK.out
          clear hd hs
          refine wpv (v := .int .i64 x.k) ?_ ⟨_, rfl, Grow.rfl' _, rfl⟩
          (generalize a'.eval = ev at ec ef e26 ⊢; simp [execOp, go_sem, *])
        · refine stepG_run hGg hBg hstab rfl ?_
          intro a' w' hg hs hd hb
          have e5 : a'.eval (.tmp 5) = .func (.func 52) #[] #[] := hs.rest 5 rfl
          have ec : ∀ v, a'.eval (.const v) = v := fun _ => rfl
          have ef : ∀ g, a'.eval (.func g) = .func (.func g) #[] #[] := fun _ => rfl
          clear hd hs
          refine wpv (v := .func (.func 52) #[] #[]) ?_ ⟨_, rfl, Grow.rfl' _, rfl⟩
          (generalize a'.eval = ev at ec ef e5 ⊢; simp [execOp, go_sem, *])
        · refine stepG_run hGg hBg hstab rfl ?_
          intro a' w' hg hs hd hb
          have e7 : a'.eval (.tmp 7) = .slice (some ⟨b, o, none⟩) m cr := hs.rest 7 rfl
          have ec : ∀ v, a'.eval (.const v) = v := fun _ => rfl
          have ef : ∀ g, a'.eval (.func g) = .func (.func g) #[] #[] := fun _ => rfl
          clear hd hs
          refine wpv (v := .slice (some ⟨b, o, none⟩) m cr) ?_ ⟨_, rfl, Grow.rfl' _, rfl⟩
          (generalize a'.eval = ev at ec ef e7 ⊢; simp [execOp, go_sem, *])
        · refine stepG_run hGg hBg hstab rfl ?_
          intro a' w' hg hs hd hb
          have e8 : a'.eval (.tmp 8) = .int .i64 (q : Int) := hs.rest 8 rfl
          have ec : ∀ v, a'.eval (.const v) = v := fun _ => rfl
          have ef : ∀ g, a'.eval (.func g) = .func (.func g) #[] #[] := fun _ => rfl
          clear hd hs
          refine wpv (v := .int .i64 (q : Int)) ?_ ⟨_, rfl, Grow.rfl' _, rfl⟩
          (generalize a'.eval = ev at ec ef e8 ⊢; simp [execOp, go_sem, *])
        · refine stepG_run hGg hBg hstab rfl ?_
          intro a' w' hg hs hd hb
          have e29 : a'.eval (.tmp 29) = .slice (some ⟨b, o, none⟩) m cr := hd ⟨6, Ground.data⟩ (by simp) rfl rfl
          have e30 : a'.eval (.tmp 30) = .int .i64 (q : Int) := hd ⟨7, Ground.data⟩ (by simp) rfl rfl
          have ec : ∀ v, a'.eval (.const v) = v := fun _ => rfl
          have ef : ∀ g, a'.eval (.func g) = .func (.func g) #[] #[] := fun _ => rfl
          have hh := HH.out w'
          clear hd hs
          refine wpv (v := .slice (some ⟨b, o, none⟩) q cr) ?_ ⟨_, rfl, Grow.rfl' _, rfl⟩
          (generalize a'.eval = ev at ec ef e29 e30 ⊢; simp [execOp, go_sem, *])
        · refine stepG_run hGg hBg hstab rfl ?_
          intro a' w' hg hs hd hb
          have e28 : a'.eval (.tmp 28) = .func (.func 52) #[] #[] := hd ⟨5, Ground.data⟩ (by simp) rfl rfl
          have e31 : a'.eval (.tmp 31) = .slice (some ⟨b, o, none⟩) q cr := hd ⟨8, Ground.data⟩ (by simp) rfl rfl
          have ec : ∀ v, a'.eval (.const v) = v := fun _ => rfl
          have ef : ∀ g, a'.eval (.func g) = .func (.func g) #[] #[] := fun _ => rfl
          clear hd hs
          refine wpc ?_ (Calls.mono (CA.out w' hg) fun e w2 ⟨he, hb⟩ => ⟨_, he, _, rfl, hb, rfl⟩)
          (generalize a'.eval = ev at ec ef e28 e31 ⊢; simp [execOp, go_sem, *])
        · refine stepG_run hGg hBg hstab rfl ?_
          intro a' w' hg hs hd hb
          have e27 : a'.eval (.tmp 27) = .int .i64 x.k := hd ⟨4, Ground.data⟩ (by simp) rfl rfl
          have e32 : a'.eval (.tmp 32) = .int .i64 z := hd ⟨9, Ground.data⟩ (by simp) rfl rfl
          have ec : ∀ v, a'.eval (.const v) = v := fun _ => rfl
          have ef : ∀ g, a'.eval (.func g) = .func (.func g) #[] #[] := fun _ => rfl
          clear hd hs
          refine wpv (v := .agg #[.int .i64 (⟨x.k, z⟩ : Rc).k, .int .i64 (⟨x.k, z⟩ : Rc).v]) ?_ ⟨_, rfl, Grow.rfl' _, rfl⟩
          (generalize a'.eval = ev at ec ef e27 e32 ⊢; simp [execOp, go_sem, *])
        · refine stepG_run hGg hBg hstab rfl ?_
          intro a' w' hg hs hd hb
          have e33 : a'.eval (.tmp 33) = .agg #[.int .i64 (⟨x.k, z⟩ : Rc).k, .int .i64 (⟨x.k, z⟩ : Rc).v] := hd ⟨10, Ground.data⟩ (by simp) rfl rfl
          have ec : ∀ v, a'.eval (.const v) = v := fun _ => rfl
          have ef : ∀ g, a'.eval (.func g) = .func (.func g) #[] #[] := fun _ => rfl
          clear hd hs
          refine wpv (v := .slice (some ⟨w'.heap.size, 0, none⟩) 1 1) (w' := w'.alloc (.cells #[.int .i64 x.k, .int .i64 z] 23)) ?_ ⟨_, rfl, Grow.alloc' _ _, oneR_new w' ⟨x.k, z⟩⟩
          (generalize a'.eval = ev at ec ef e33 ⊢; simp [execOp, go_sem, *])
        · refine stepG_take rfl ?_
          intro a' w' hg hs hd hb
          have e23 : a'.eval (.tmp 23) = .slice sl ml cl := hd ⟨0, Ground.data⟩ (by simp) rfl rfl
          obtain ⟨g34, e34, h34⟩ : OneR ⟨x.k, z⟩ (a'.eval (.tmp 34)) w' := hd ⟨11, Ground.data⟩ (by simp) rfl rfl
          have ec : ∀ v, a'.eval (.const v) = v := fun _ => rfl
          have ef : ∀ g, a'.eval (.func g) = .func (.func g) #[] #[] := fun _ => rfl
          clear hd hs
          obtain ⟨s2, c2, w2, hrun, hown, hgr, hlie⟩ := run_apF hg 30 sl ml cl T [⟨x.k, z⟩] (hb rfl) (some ⟨g34, 0, none⟩) 1 1 h34 (by omega)
          refine wpv (v := .slice s2 _ c2) (w' := w2) ?_ ⟨_, rfl, hgr, ⟨s2, c2, rfl, hown, hlie⟩, ?_, fun h _ => absurd rfl h⟩
          rotate_left
          · intro j u hj h
            match j with
            | 0 => exact h
            | 1 => exact h
            | 2 => exact h
            | 3 => exact h
            | 4 => exact h
            | 5 => exact h
            | 6 => exact h
            | 7 => exact h
            | 8 => exact h
            | 9 => exact h
            | 10 => exact h
            | 11 => cases hj
            | 12 => cases hj
            | j + 13 => exact trivial
          · unfold execOp; simp only [resolve, invoke, builtin, Sem.run_bind, Sem.run_pure, Result.andThen_ok, List.map_toArray, List.map_cons, List.map_nil, e23, e34, hrun]
      · intro a' w' hg hs hd
        obtain ⟨sa35, ca35, e35, h35, t35⟩ : AppF w1.heap.size (ml + 1) (T ++ [⟨x.k, z⟩]) (a'.eval (.tmp 35)) w' := hd 12 (by omega) rfl
        have ec : ∀ v, a'.eval (.const v) = v := fun _ => rfl
        have ef : ∀ g, a'.eval (.func g) = .func (.func g) #[] #[] := fun _ => rfl
        have HF := hide h35
        have HG3 := hide hg
        refine wpv (v := .slice sa35 (ml + 1) ca35) (w' := w') ?_ ?_
        · (generalize a'.eval = ev at ec ef e35 ⊢; simp [execOp, go_sem, *])
        clear h35 t35 e35 ec ef hg HGG HBG HG0 HB0 hGg hBg hstab
        rw [frame_eq hs [false, false, false, false, false, false, true, false, false, false, false, false, false, false, false, false, false, false, false, false, false, false, false, true, true, true, true, true, true, true, true, true, true, true, true, true, false, false, false, false] (by kernel_rfl)]; simp only [mergeL]; clear hs hd; generalize a'.tmps = TT at *; try go_frame
        go_wp2_with fail
        go_roundw
        case rel => exact ⟨k + q, sa35, ml + 1, ca35, _, m - q, cr - q, T ++ [⟨x.k, z⟩], by have := HKM.out; omega, rfl, rfl, by rw [← List.drop_drop, ← HRD2.out]; exact HNX.out, HG3.out, HF.out, by omega, by rw [← List.drop_drop, ← HRD2.out, List.append_assoc, List.singleton_append, ← HST.out]; exact HT.out⟩
        case measure => simp [sliceLen]; omega
    · have hm0 : m = 0 := by omega
      subst hm0
      have hkn : S.drop k = [] := List.eq_nil_of_length_eq_zero (by rw [hR.1])
      rw [hkn] at HT
      have HF := hide (show T = redR 2 d by rw [← HRD.out, ← HT.out, redS_nil, List.append_nil])
      clear hg hR hkn
      go_wp2_with fail
      go_ret
      exact ⟨sl, ml, cl, rfl, Grow.trans' G1.out HG.out, by rw [← HF.out]; exact HO.out.is⟩
set_option maxHeartbeats 4000000 in
theorem red_3 (s : Option Addr) (n cap : Nat) (d : List Rc) (w : World) (hbig : n ≤ 100000) (hv : ∀ r ∈ d, -1099511627776 ≤ r.v ∧ r.v ≤ 1099511627776) (hd : IsRcs w s n cap d) :
    Calls Try.prog 23 #[.int .i64 3, .slice s n cap] w fun e w' => ∃ s2 n2 c2, e = .returned (.slice s2 n2 c2) ∧ Grow w w' ∧ IsRcs w' s2 n2 c2 (redR 3 d) := by
  have HI := hide hd
  have HV : Hid (∀ r ∈ srt d, -1099511627776 ≤ r.v ∧ r.v ≤ 1099511627776) := hide (fun r hr => hv r ((srt_perm d).mem_iff.1 hr))
  have HS := hide (srt_sorted d)
  have HRD := hide (redS_srt (a := 3) rfl d)
  have HL := hide ((srt_len d).trans hd.1)
  clear hd hv
  go_enter Try.func23, Try.ntmps23
  go_wp2_with fail
  refine (mayRed_at 3 (p := true) rfl _).mono ?_
  rintro e w1 ⟨rfl, rfl⟩
  go_wp2_with fail
  refine (aggregates_any _).mono ?_
  rintro e w2 ⟨rfl, hb⟩
  have G2 := hide hb
  have C := hide (sort_at s n cap d w2 (by omega) (HI.out.later hb))
  clear hb HI
  go_wp2_with fail
  refine (C.out).mono ?_
  rintro e w1 ⟨s1, c1, rfl, hb, hI⟩
  have G1 := hide (Grow.trans' G2.out hb)
  obtain ⟨S, hS⟩ : ∃ S, S = srt d := ⟨_, rfl⟩
  rw [← hS] at hI HV HS HRD HL
  have I1 := hide hI
  clear hb hI C hS G2
  rename World => w1
  go_wp2_with fail
  go_loopw [6, 7] (fun v r wr => ∃ (k : Nat) (sl : Option Addr) (ml cl : Nat) (sr : Option Addr) (m cr : Nat) (T : List Rc), k + m = n ∧ v = .slice sl ml cl ∧ r = .slice sr m cr ∧ IsRcs w1 sr m cr (S.drop k) ∧ Grow w1 wr ∧ OwnRV wr w1.heap.size sl ml cl T ∧ ml ≤ k ∧ T ++ redS 3 (S.drop k) = redS 3 S) (fun _ r _ => sliceLen r)
  case atStart => exact ⟨0, none, 0, 0, s1, n, c1, [], by omega, rfl, rfl, I1.out, Grow.rfl' _, OwnRV.nil _ _, Nat.le_refl _, rfl⟩
  case round =>
    obtain ⟨k, sl, ml, cl, sr, m, cr, T, hkm, rfl, rfl, hR, hg, hO, hml, hT⟩ := hrel
    have HG := hide hg
    have HO := hide hO
    have HT := hide hT
    have HKM := hide hkm
    have hkb : k ≤ 100000 := by omega
    have hmb : m ≤ 100000 := by omega
    have hsz := hg.size
    clear hO hT hkm
    by_cases hlt : 0 < m
    · obtain ⟨R, hRR⟩ : ∃ R, R = S.drop k := ⟨_, rfl⟩
      have HSR := hide (show SortedR R by rw [hRR]; exact HS.out.sublist (List.drop_sublist _ _))
      have HVR := hide (show ∀ r ∈ R, -1099511627776 ≤ r.v ∧ r.v ≤ 1099511627776 from fun r hr => HV.out r (by rw [hRR] at hr; exact List.mem_of_mem_drop hr))
      rw [← hRR] at hR HT
      have h0 : 0 < R.length := by rw [hR.1]; exact hlt
      have hne : ¬ R = [] := fun h => by rw [h] at h0; simp at h0
      obtain ⟨b, o, rfl, hr1⟩ := hR.2.2.resolve_left hne
      have hmc := hR.2.1
      obtain ⟨P0, P1⟩ := hr1.at 0 h0
      simp only [Nat.zero_mul, Nat.add_zero] at P0 P1
      have HST := hide (redS_step 3 R h0)
      have hq := shr_pos h0
      rw [hR.1] at hq
      have CS := hide (sharing_at (some ⟨b, o, none⟩) m cr R wr (by omega) hlt (hR.later hg))
      have CA := hide (fun w' (h : Grow w1 w') => aggC3 (some ⟨b, o, none⟩) (shr R) cr (R.take (shr R)) w' (grp_of (hR.later h) hlt (by omega) HSR.out HVR.out))
      have HNX := hide (hR.from' (shr R) hq.2)
      have HRD2 := hide hRR
      obtain ⟨x, hx⟩ : ∃ x, x = R[0] := ⟨_, rfl⟩
      rw [← hx] at P0 P1 HST
      have PK := hide P0
      obtain ⟨q, hqq⟩ : ∃ q, q = shr R := ⟨_, rfl⟩
      rw [← hqq] at hq CS CA HST HNX
      obtain ⟨z, hz⟩ : ∃ z, z = agg 3 (R.take q) := ⟨_, rfl⟩
      rw [← hz] at CA HST
      have hqc : (q : Int) ≤ (cr : Int) := by omega
      have hqm : (q : Int) ≤ (m : Int) := by omega
      have hq0 : (0 : Int) ≤ (q : Int) := by omega
      have hm0 : (0 : Int) < (m : Int) := by omega
      have hm1 : decide (0 < m) = true := by simpa using hlt
      have HH := hide (fun w' => run_headR (some ⟨b, o, none⟩) m cr q w' hqc)
      clear hR hr1 hx hqq hz hne P0 P1 hRR hg
      go_wp2_with fail
      refine (CS.out).mono ?_
      rintro e w3 ⟨rfl, hb⟩
      have G3 := hide (Grow.trans' HG.out hb)
      have O3 := hide (HO.out.later hb)
      clear hb CS HG HO hsz
      go_wp2_with fail
      have HGG : ∀ wa wb, Grow w1 wa → Grow wa wb → Grow w1 wb := fun _ _ h q => Grow.trans' h q
      have HBG : ∀ wa wb, Grow wa wb → OwnRV wa w1.heap.size sl ml cl T → OwnRV wb w1.heap.size sl ml cl T := fun _ _ q h => h.later q
      have HG0 : ∀ w', Grow w3 w' → w'.heap = w3.heap → Grow w1 w' := fun _ h _ => Grow.trans' G3.out h
      have HB0 : ∀ w', Grow w3 w' → w'.heap = w3.heap → OwnRV w' w1.heap.size sl ml cl T := fun _ h _ => O3.out.later h
      let FF : Nat → Value → World → Prop := fun i vF wF => match i with | 0 => vF = .slice sl ml cl | 1 => vF = .slice (some ⟨b, o, none⟩) m cr | 2 => vF = .pointer (some ⟨b, o, none⟩) | 3 => vF = .pointer (some ⟨b, o, none⟩) | 4 => vF = .int .i64 x.k | 5 => vF = .func (.func 54) #[] #[] | 6 => vF = .slice (some ⟨b, o, none⟩) m cr | 7 => vF = .int .i64 (q : Int) | 8 => vF = .slice (some ⟨b, o, none⟩) q cr | 9 => vF = .int .i64 z | 10 => vF = .agg #[.int .i64 (⟨x.k, z⟩ : Rc).k, .int .i64 (⟨x.k, z⟩ : Rc).v] | 11 => OneR ⟨x.k, z⟩ vF wF | 12 => AppF w1.heap.size (ml + 1) (T ++ [⟨x.k, z⟩]) vF wF | _ => True
      let GG : World → Prop := fun w' => Grow w1 w'
      let BB : World → Prop := fun w' => OwnRV w' w1.heap.size sl ml cl T
      have hstab : ∀ k v w1 w2, Grow w1 w2 → FF k v w1 → FF k v w2 := by
        intro k v w1 w2 hg h
        match k with
        | 0 => exact h
        | 1 => exact h
        | 2 => exact h
        | 3 => exact h
        | 4 => exact h
        | 5 => exact h
        | 6 => exact h
        | 7 => exact h
        | 8 => exact h
        | 9 => exact h
        | 10 => exact h
        | 11 => exact OneR.later hg h
        | 12 => exact AppF.later hg h
        | k + 13 => exact trivial
      have hGg : ∀ w1 w2, GG w1 → Grow w1 w2 → GG w2 := HGG
      have hBg : ∀ w1 w2, Grow w1 w2 → BB w1 → BB w2 := HBG
      refine wp_region_endG FF GG BB (fun i => match i with | 11 => some 12 | _ => none) 12 13 _ rfl rfl rfl (by kernel_rfl) (by kernel_rfl) HG0 HB0 ?_ ?_
      · refine ⟨?_, ?_, ?_, ?_, ?_, ?_, ?_, ?_, ?_, ?_, ?_, ?_, ?_, trivial⟩
        · refine stepG_run hGg hBg hstab rfl ?_
          intro a' w' hg hs hd hb
          have e6 : a'.eval (.tmp 6) = .slice sl ml cl := hs.rest 6 rfl
          have ec : ∀ v, a'.eval (.const v) = v := fun _ => rfl
          have ef : ∀ g, a'.eval (.func g) = .func (.func g) #[] #[] := fun _ => rfl
          clear hd hs
          refine wpv (v := .slice sl ml cl) ?_ ⟨_, rfl, Grow.rfl' _, rfl⟩
          (generalize a'.eval = ev at ec ef e6 ⊢; simp [execOp, go_sem, *])
        · refine stepG_run hGg hBg hstab rfl ?_
          intro a' w' hg hs hd hb
          have e7 : a'.eval (.tmp 7) = .slice (some ⟨b, o, none⟩) m cr := hs.rest 7 rfl
          have ec : ∀ v, a'.eval (.const v) = v := fun _ => rfl
          have ef : ∀ g, a'.eval (.func g) = .func (.func g) #[] #[] := fun _ => rfl
          clear hd hs
          refine wpv (v := .slice (some ⟨b, o, none⟩) m cr) ?_ ⟨_, rfl, Grow.rfl' _, rfl⟩
          (generalize a'.eval = ev at ec ef e7 ⊢; simp [execOp, go_sem, *])
        · refine stepG_run hGg hBg hstab rfl ?_
          intro a' w' hg hs hd hb
          have e24 : a'.eval (.tmp 24) = .slice (some ⟨b, o, none⟩) m cr := hd ⟨1, Ground.data⟩ (by simp) rfl rfl
          have ec : ∀ v, a'.eval (.const v) = v := fun _ => rfl
          have ef : ∀ g, a'.eval (.func g) = .func (.func g) #[] #[] := fun _ => rfl
          clear hd hs
          refine wpv (v := .pointer (some ⟨b, o, none⟩)) ?_ ⟨_, rfl, Grow.rfl' _, rfl⟩
          (generalize a'.eval = ev at ec ef e24 ⊢; simp [execOp, go_sem, *])
        · refine stepG_run hGg hBg hstab rfl ?_
          intro a' w' hg hs hd hb
          have e25 : a'.eval (.tmp 25) = .pointer (some ⟨b, o, none⟩) := hd ⟨2, Ground.data⟩ (by simp) rfl rfl
          have ec : ∀ v, a'.eval (.const v) = v := fun _ => rfl
          have ef : ∀ g, a'.eval (.func g) = .func (.func g) #[] #[] := fun _ => rfl
          clear hd hs
          refine wpv (v := .pointer (some ⟨b, o, none⟩)) ?_ ⟨_, rfl, Grow.rfl' _, rfl⟩
          (generalize a'.eval = ev at ec ef e25 ⊢; simp [execOp, go_sem, *])
        · refine stepG_run hGg hBg hstab rfl ?_
          intro a' w' hg hs hd hb
          have e26 : a'.eval (.tmp 26) = .pointer (some ⟨b, o, none⟩) := hd ⟨3, Ground.data⟩ (by simp) rfl rfl
          have ec : ∀ v, a'.eval (.const v) = v := fun _ => rfl
          have ef : ∀ g, a'.eval (.func g) = .func (.func g) #[] #[] := fun _ => rfl
          have p0 := cell_later hg PK.out
          clear hd hs
          refine wpv (v := .int .i64 x.k) ?_ ⟨_, rfl, Grow.rfl' _, rfl⟩
          (generalize a'.eval = ev at ec ef e26 ⊢; simp [execOp, go_sem, *])
        · refine stepG_run hGg hBg hstab rfl ?_
          intro a' w' hg hs hd hb
          have e5 : a'.eval (.tmp 5) = .func (.func 54) #[] #[] := hs.rest 5 rfl
          have ec : ∀ v, a'.eval (.const v) = v := fun _ => rfl
          have ef : ∀ g, a'.eval (.func g) = .func (.func g) #[] #[] := fun _ => rfl
          clear hd hs
          refine wpv (v := .func (.func 54) #[] #[]) ?_ ⟨_, rfl, Grow.rfl' _, rfl⟩
          (generalize a'.eval = ev at ec ef e5 ⊢; simp [execOp, go_sem, *])
        · refine stepG_run hGg hBg hstab rfl ?_
          intro a' w' hg hs hd hb
          have e7 : a'.eval (.tmp 7) = .slice (some ⟨b, o, none⟩) m cr := hs.rest 7 rfl
          have ec : ∀ v, a'.eval (.const v) = v := fun _ => rfl
          have ef : ∀ g, a'.eval (.func g) = .func (.func g) #[] #[] := fun _ => rfl
          clear hd hs
          refine wpv (v := .slice (some ⟨b, o, none⟩) m cr) ?_ ⟨_, rfl, Grow.rfl' _, rfl⟩
          (generalize a'.eval = ev at ec ef e7 ⊢; simp [execOp, go_sem, *])
        · refine stepG_run hGg hBg hstab rfl ?_
          intro a' w' hg hs hd hb
          have e8 : a'.eval (.tmp 8) = .int .i64 (q : Int) := hs.rest 8 rfl
          have ec : ∀ v, a'.eval (.const v) = v := fun _ => rfl
          have ef : ∀ g, a'.eval (.func g) = .func (.func g) #[] #[] := fun _ => rfl
          clear hd hs
          refine wpv (v := .int .i64 (q : Int)) ?_ ⟨_, rfl, Grow.rfl' _, rfl⟩
          (generalize a'.eval = ev at ec ef e8 ⊢; simp [execOp, go_sem, *])
        · refine stepG_run hGg hBg hstab rfl ?_
          intro a' w' hg hs hd hb
          have e29 : a'.eval (.tmp 29) = .slice (some ⟨b, o, none⟩) m cr := hd ⟨6, Ground.data⟩ (by simp) rfl rfl
          have e30 : a'.eval (.tmp 30) = .int .i64 (q : Int) := hd ⟨7, Ground.data⟩ (by simp) rfl rfl
          have ec : ∀ v, a'.eval (.const v) = v := fun _ => rfl
          have ef : ∀ g, a'.eval (.func g) = .func (.func g) #[] #[] := fun _ => rfl
          have hh := HH.out w'
          clear hd hs
          refine wpv (v := .slice (some ⟨b, o, none⟩) q cr) ?_ ⟨_, rfl, Grow.rfl' _, rfl⟩
          (generalize a'.eval = ev at ec ef e29 e30 ⊢; simp [execOp, go_sem, *])
        · refine stepG_run hGg hBg hstab rfl ?_
          intro a' w' hg hs hd hb
          have e28 : a'.eval (.tmp 28) = .func (.func 54) #[] #[] := hd ⟨5, Ground.data⟩ (by simp) rfl rfl
          have e31 : a'.eval (.tmp 31) = .slice (some ⟨b, o, none⟩) q cr := hd ⟨8, Ground.data⟩ (by simp) rfl rfl
          have ec : ∀ v, a'.eval (.const v) = v := fun _ => rfl
          have ef : ∀ g, a'.eval (.func g) = .func (.func g) #[] #[] := fun _ => rfl
          clear hd hs
          refine wpc ?_ (Calls.mono (CA.out w' hg) fun e w2 ⟨he, hb⟩ => ⟨_, he, _, rfl, hb, rfl⟩)
          (generalize a'.eval = ev at ec ef e28 e31 ⊢; simp [execOp, go_sem, *])
        · refine stepG_run hGg hBg hstab rfl ?_
          intro a' w' hg hs hd hb
          have e27 : a'.eval (.tmp 27) = .int .i64 x.k := hd ⟨4, Ground.data⟩ (by simp) rfl rfl
          have e32 : a'.eval (.tmp 32) = .int .i64 z := hd ⟨9, Ground.data⟩ (by simp) rfl rfl
          have ec : ∀ v, a'.eval (.const v) = v := fun _ => rfl
          have ef : ∀ g, a'.eval (.func g) = .func (.func g) #[] #[] := fun _ => rfl
          clear hd hs
          refine wpv (v := .agg #[.int .i64 (⟨x.k, z⟩ : Rc).k, .int .i64 (⟨x.k, z⟩ : Rc).v]) ?_ ⟨_, rfl, Grow.rfl' _, rfl⟩
          (generalize a'.eval = ev at ec ef e27 e32 ⊢; simp [execOp, go_sem, *])
        · refine stepG_run hGg hBg hstab rfl ?_
          intro a' w' hg hs hd hb
          have e33 : a'.eval (.tmp 33) = .agg #[.int .i64 (⟨x.k, z⟩ : Rc).k, .int .i64 (⟨x.k, z⟩ : Rc).v] := hd ⟨10, Ground.data⟩ (by simp) rfl rfl
          have ec : ∀ v, a'.eval (.const v) = v := fun _ => rfl
          have ef : ∀ g, a'.eval (.func g) = .func (.func g) #[] #[] := fun _ => rfl
          clear hd hs
          refine wpv (v := .slice (some ⟨w'.heap.size, 0, none⟩) 1 1) (w' := w'.alloc (.cells #[.int .i64 x.k, .int .i64 z] 23)) ?_ ⟨_, rfl, Grow.alloc' _ _, oneR_new w' ⟨x.k, z⟩⟩
          (generalize a'.eval = ev at ec ef e33 ⊢; simp [execOp, go_sem, *])
        · refine stepG_take rfl ?_
          intro a' w' hg hs hd hb
          have e23 : a'.eval (.tmp 23) = .slice sl ml cl := hd ⟨0, Ground.data⟩ (by simp) rfl rfl
          obtain ⟨g34, e34, h34⟩ : OneR ⟨x.k, z⟩ (a'.eval (.tmp 34)) w' := hd ⟨11, Ground.data⟩ (by simp) rfl rfl
          have ec : ∀ v, a'.eval (.const v) = v := fun _ => rfl
          have ef : ∀ g, a'.eval (.func g) = .func (.func g) #[] #[] := fun _ => rfl
          clear hd hs
          obtain ⟨s2, c2, w2, hrun, hown, hgr, hlie⟩ := run_apF hg 30 sl ml cl T [⟨x.k, z⟩] (hb rfl) (some ⟨g34, 0, none⟩) 1 1 h34 (by omega)
          refine wpv (v := .slice s2 _ c2) (w' := w2) ?_ ⟨_, rfl, hgr, ⟨s2, c2, rfl, hown, hlie⟩, ?_, fun h _ => absurd rfl h⟩
          rotate_left
          · intro j u hj h
            match j with
            | 0 => exact h
            | 1 => exact h
            | 2 => exact h
            | 3 => exact h
            | 4 => exact h
            | 5 => exact h
            | 6 => exact h
            | 7 => exact h
            | 8 => exact h
            | 9 => exact h
            | 10 => exact h
            | 11 => cases hj
            | 12 => cases hj
            | j + 13 => exact trivial
          · unfold execOp; simp only [resolve, invoke, builtin, Sem.run_bind, Sem.run_pure, Result.andThen_ok, List.map_toArray, List.map_cons, List.map_nil, e23, e34, hrun]
      · intro a' w' hg hs hd
        obtain ⟨sa35, ca35, e35, h35, t35⟩ : AppF w1.heap.size (ml + 1) (T ++ [⟨x.k, z⟩]) (a'.eval (.tmp 35)) w' := hd 12 (by omega) rfl
        have ec : ∀ v, a'.eval (.const v) = v := fun _ => rfl
        have ef : ∀ g, a'.eval (.func g) = .func (.func g) #[] #[] := fun _ => rfl
        have HF := hide h35
        have HG3 := hide hg
        refine wpv (v := .slice sa35 (ml + 1) ca35) (w' := w') ?_ ?_
        · (generalize a'.eval = ev at ec ef e35 ⊢; simp [execOp, go_sem, *])
        clear h35 t35 e35 ec ef hg HGG HBG HG0 HB0 hGg hBg hstab
        rw [frame_eq hs [false, false, false, false, false, false, true, false, false, false, false, false, false, false, false, false, false, false, false, false, false, false, false, true, true, true, true, true, true, true, true, true, true, true, true, true, false, false, false, false] (by kernel_rfl)]; simp only [mergeL]; clear hs hd; generalize a'.tmps = TT at *; try go_frame
        go_wp2_with fail
        go_roundw
        case rel => exact ⟨k + q, sa35, ml + 1, ca35, _, m - q, cr - q, T ++ [⟨x.k, z⟩], by have := HKM.out; omega, rfl, rfl, by rw [← List.drop_drop, ← HRD2.out]; exact HNX.out, HG3.out, HF.out, by omega, by rw [← List.drop_drop, ← HRD2.out, List.append_assoc, List.singleton_append, ← HST.out]; exact HT.out⟩
        case measure => simp [sliceLen]; omega
    · have hm0 : m = 0 := by omega
      subst hm0
      have hkn : S.drop k = [] := List.eq_nil_of_length_eq_zero (by rw [hR.1])
      rw [hkn] at HT
      have HF := hide (show T = redR 3 d by rw [← HRD.out, ← HT.out, redS_nil, List.append_nil])
      clear hg hR hkn
      go_wp2_with fail
      go_ret
      exact ⟨sl, ml, cl, rfl, Grow.trans' G1.out HG.out, by rw [← HF.out]; exact HO.out.is⟩
set_option maxHeartbeats 4000000 in
theorem red_4 (s : Option Addr) (n cap : Nat) (d : List Rc) (w : World) (hbig : n ≤ 100000) (hv : ∀ r ∈ d, -1099511627776 ≤ r.v ∧ r.v ≤ 1099511627776) (hd : IsRcs w s n cap d) :
    Calls Try.prog 23 #[.int .i64 4, .slice s n cap] w fun e w' => ∃ s2 n2 c2, e = .returned (.slice s2 n2 c2) ∧ Grow w w' ∧ IsRcs w' s2 n2 c2 (redR 4 d) := by
  have HI := hide hd
  have HV : Hid (∀ r ∈ srt d, -1099511627776 ≤ r.v ∧ r.v ≤ 1099511627776) := hide (fun r hr => hv r ((srt_perm d).mem_iff.1 hr))
  have HS := hide (srt_sorted d)
  have HRD := hide (redS_srt (a := 4) rfl d)
  have HL := hide ((srt_len d).trans hd.1)
  clear hd hv
  go_enter Try.func23, Try.ntmps23
  go_wp2_with fail
  refine (mayRed_at 4 (p := true) rfl _).mono ?_
  rintro e w1 ⟨rfl, rfl⟩
  go_wp2_with fail
  refine (aggregates_any _).mono ?_
  rintro e w2 ⟨rfl, hb⟩
  have G2 := hide hb
  have C := hide (sort_at s n cap d w2 (by omega) (HI.out.later hb))
  clear hb HI
  go_wp2_with fail
  refine (C.out).mono ?_
  rintro e w1 ⟨s1, c1, rfl, hb, hI⟩
  have G1 := hide (Grow.trans' G2.out hb)
  obtain ⟨S, hS⟩ : ∃ S, S = srt d := ⟨_, rfl⟩
  rw [← hS] at hI HV HS HRD HL
  have I1 := hide hI
  clear hb hI C hS G2
  rename World => w1
  go_wp2_with fail
  go_loopw [6, 7] (fun v r wr => ∃ (k : Nat) (sl : Option Addr) (ml cl : Nat) (sr : Option Addr) (m cr : Nat) (T : List Rc), k + m = n ∧ v = .slice sl ml cl ∧ r = .slice sr m cr ∧ IsRcs w1 sr m cr (S.drop k) ∧ Grow w1 wr ∧ OwnRV wr w1.heap.size sl ml cl T ∧ ml ≤ k ∧ T ++ redS 4 (S.drop k) = redS 4 S) (fun _ r _ => sliceLen r)
  case atStart => exact ⟨0, none, 0, 0, s1, n, c1, [], by omega, rfl, rfl, I1.out, Grow.rfl' _, OwnRV.nil _ _, Nat.le_refl _, rfl⟩
  case round =>
    obtain ⟨k, sl, ml, cl, sr, m, cr, T, hkm, rfl, rfl, hR, hg, hO, hml, hT⟩ := hrel
    have HG := hide hg
    have HO := hide hO
    have HT := hide hT
    have HKM := hide hkm
    have hkb : k ≤ 100000 := by omega
    have hmb : m ≤ 100000 := by omega
    have hsz := hg.size
    clear hO hT hkm
    by_cases hlt : 0 < m
    · obtain ⟨R, hRR⟩ : ∃ R, R = S.drop k := ⟨_, rfl⟩
      have HSR := hide (show SortedR R by rw [hRR]; exact HS.out.sublist (List.drop_sublist _ _))
      have HVR := hide (show ∀ r ∈ R, -1099511627776 ≤ r.v ∧ r.v ≤ 1099511627776 from fun r hr => HV.out r (by rw [hRR] at hr; exact List.mem_of_mem_drop hr))
      rw [← hRR] at hR HT
      have h0 : 0 < R.length := by rw [hR.1]; exact hlt
      have hne : ¬ R = [] := fun h => by rw [h] at h0; simp at h0
      obtain ⟨b, o, rfl, hr1⟩ := hR.2.2.resolve_left hne
      have hmc := hR.2.1
      obtain ⟨P0, P1⟩ := hr1.at 0 h0
      simp only [Nat.zero_mul, Nat.add_zero] at P0 P1
      have HST := hide (redS_step 4 R h0)
      have hq := shr_pos h0
      rw [hR.1] at hq
      have CS := hide (sharing_at (some ⟨b, o, none⟩) m cr R wr (by omega) hlt (hR.later hg))
      have CA := hide (fun w' (h : Grow w1 w') => aggC4 (some ⟨b, o, none⟩) (shr R) cr (R.take (shr R)) w' (grp_of (hR.later h) hlt (by omega) HSR.out HVR.out))
      have HNX := hide (hR.from' (shr R) hq.2)
      have HRD2 := hide hRR
      obtain ⟨x, hx⟩ : ∃ x, x = R[0] := ⟨_, rfl⟩
      rw [← hx] at P0 P1 HST
      have PK := hide P0
      obtain ⟨q, hqq⟩ : ∃ q, q = shr R := ⟨_, rfl⟩
      rw [← hqq] at hq CS CA HST HNX
      obtain ⟨z, hz⟩ : ∃ z, z = agg 4 (R.take q) := ⟨_, rfl⟩
      rw [← hz] at CA HST
      have hqc : (q : Int) ≤ (cr : Int) := by omega
      have hqm : (q : Int) ≤ (m : Int) := by omega
      have hq0 : (0 : Int) ≤ (q : Int) := by omega
      have hm0 : (0 : Int) < (m : Int) := by omega
      have hm1 : decide (0 < m) = true := by simpa using hlt
      have HH := hide (fun w' => run_headR (some ⟨b, o, none⟩) m cr q w' hqc)
      clear hR hr1 hx hqq hz hne P0 P1 hRR hg
      go_wp2_with fail
      refine (CS.out).mono ?_
      rintro e w3 ⟨rfl, hb⟩
      have G3 := hide (Grow.trans' HG.out hb)
      have O3 := hide (HO.out.later hb)
      clear hb CS HG HO hsz
      go_wp2_with fail
      have HGG : ∀ wa wb, Grow w1 wa → Grow wa wb → Grow w1 wb := fun _ _ h q => Grow.trans' h q
      have HBG : ∀ wa wb, Grow wa wb → OwnRV wa w1.heap.size sl ml cl T → OwnRV wb w1.heap.size sl ml cl T := fun _ _ q h => h.later q
      have HG0 : ∀ w', Grow w3 w' → w'.heap = w3.heap → Grow w1 w' := fun _ h _ => Grow.trans' G3.out h
      have HB0 : ∀ w', Grow w3 w' → w'.heap = w3.heap → OwnRV w' w1.heap.size sl ml cl T := fun _ h _ => O3.out.later h
      let FF : Nat → Value → World → Prop := fun i vF wF => match i with | 0 => vF = .slice sl ml cl | 1 => vF = .slice (some ⟨b, o, none⟩) m cr | 2 => vF = .pointer (some ⟨b, o, none⟩) | 3 => vF = .pointer (some ⟨b, o, none⟩) | 4 => vF = .int .i64 x.k | 5 => vF = .func (.func 55) #[] #[] | 6 => vF = .slice (some ⟨b, o, none⟩) m cr | 7 => vF = .int .i64 (q : Int) | 8 => vF = .slice (some ⟨b, o, none⟩) q cr | 9 => vF = .int .i64 z | 10 => vF = .agg #[.int .i64 (⟨x.k, z⟩ : Rc).k, .int .i64 (⟨x.k, z⟩ : Rc).v] | 11 => OneR ⟨x.k, z⟩ vF wF | 12 => AppF w1.heap.size (ml + 1) (T ++ [⟨x.k, z⟩]) vF wF | _ => True
      let GG : World → Prop := fun w' => Grow w1 w'
      let BB : World → Prop := fun w' => OwnRV w' w1.heap.size sl ml cl T
      have hstab : ∀ k v w1 w2, Grow w1 w2 → FF k v w1 → FF k v w2 := by
        intro k v w1 w2 hg h
        match k with
        | 0 => exact h
        | 1 => exact h
        | 2 => exact h
        | 3 => exact h
        | 4 => exact h
        | 5 => exact h
        | 6 => exact h
        | 7 => exact h
        | 8 => exact h
        | 9 => exact h
        | 10 => exact h
        | 11 => exact OneR.later hg h
        | 12 => exact AppF.later hg h
        | k + 13 => exact trivial
      have hGg : ∀ w1 w2, GG w1 → Grow w1 w2 → GG w2 := HGG
      have hBg : ∀ w1 w2, Grow w1 w2 → BB w1 → BB w2 := HBG
      refine wp_region_endG FF GG BB (fun i => match i with | 11 => some 12 | _ => none) 12 13 _ rfl rfl rfl (by kernel_rfl) (by kernel_rfl) HG0 HB0 ?_ ?_
      · refine ⟨?_, ?_, ?_, ?_, ?_, ?_, ?_, ?_, ?_, ?_, ?_, ?_, ?_, trivial⟩
        · refine stepG_run hGg hBg hstab rfl ?_
          intro a' w' hg hs hd hb
          have e6 : a'.eval (.tmp 6) = .slice sl ml cl := hs.rest 6 rfl
          have ec : ∀ v, a'.eval (.const v) = v := fun _ => rfl
          have ef : ∀ g, a'.eval (.func g) = .func (.func g) #[] #[] := fun _ => rfl
          clear hd hs
          refine wpv (v := .slice sl ml cl) ?_ ⟨_, rfl, Grow.rfl' _, rfl⟩
          (generalize a'.eval = ev at ec ef e6 ⊢; simp [execOp, go_sem, *])
        · refine stepG_run hGg hBg hstab rfl ?_
          intro a' w' hg hs hd hb
          have e7 : a'.eval (.tmp 7) = .slice (some ⟨b, o, none⟩) m cr := hs.rest 7 rfl
          have ec : ∀ v, a'.eval (.const v) = v := fun _ => rfl
          have ef : ∀ g, a'.eval (.func g) = .func (.func g) #[] #[] := fun _ => rfl
          clear hd hs
          refine wpv (v := .slice (some ⟨b, o, none⟩) m cr) ?_ ⟨_, rfl, Grow.rfl' _, rfl⟩
          (generalize a'.eval = ev at ec ef e7 ⊢; simp [execOp, go_sem, *])
        · refine stepG_run hGg hBg hstab rfl ?_
          intro a' w' hg hs hd hb
          have e24 : a'.eval (.tmp 24) = .slice (some ⟨b, o, none⟩) m cr := hd ⟨1, Ground.data⟩ (by simp) rfl rfl
          have ec : ∀ v, a'.eval (.const v) = v := fun _ => rfl
          have ef : ∀ g, a'.eval (.func g) = .func (.func g) #[] #[] := fun _ => rfl
          clear hd hs
          refine wpv (v := .pointer (some ⟨b, o, none⟩)) ?_ ⟨_, rfl, Grow.rfl' _, rfl⟩
          (generalize a'.eval = ev at ec ef e24 ⊢; simp [execOp, go_sem, *])
        · refine stepG_run hGg hBg hstab rfl ?_
          intro a' w' hg hs hd hb
          have e25 : a'.eval (.tmp 25) = .pointer (some ⟨b, o, none⟩) := hd ⟨2, Ground.data⟩ (by simp) rfl rfl
          have ec : ∀ v, a'.eval (.const v) = v := fun _ => rfl
          have ef : ∀ g, a'.eval (.func g) = .func (.func g) #[] #[] := fun _ => rfl
          clear hd hs
          refine wpv (v := .pointer (some ⟨b, o, none⟩)) ?_ ⟨_, rfl, Grow.rfl' _, rfl⟩
          (generalize a'.eval = ev at ec ef e25 ⊢; simp [execOp, go_sem, *])
        · refine stepG_run hGg hBg hstab rfl ?_
          intro a' w' hg hs hd hb
          have e26 : a'.eval (.tmp 26) = .pointer (some ⟨b, o, none⟩) := hd ⟨3, Ground.data⟩ (by simp) rfl rfl
          have ec : ∀ v, a'.eval (.const v) = v := fun _ => rfl
          have ef : ∀ g, a'.eval (.func g) = .func (.func g) #[] #[] := fun _ => rfl
          have p0 := cell_later hg PK.out
          clear hd hs
          refine wpv (v := .int .i64 x.k) ?_ ⟨_, rfl, Grow.rfl' _, rfl⟩
          (generalize a'.eval = ev at ec ef e26 ⊢; simp [execOp, go_sem, *])
        · refine stepG_run hGg hBg hstab rfl ?_
          intro a' w' hg hs hd hb
          have e5 : a'.eval (.tmp 5) = .func (.func 55) #[] #[] := hs.rest 5 rfl
          have ec : ∀ v, a'.eval (.const v) = v := fun _ => rfl
          have ef : ∀ g, a'.eval (.func g) = .func (.func g) #[] #[] := fun _ => rfl
          clear hd hs
          refine wpv (v := .func (.func 55) #[] #[]) ?_ ⟨_, rfl, Grow.rfl' _, rfl⟩
          (generalize a'.eval = ev at ec ef e5 ⊢; simp [execOp, go_sem, *])
        · refine stepG_run hGg hBg hstab rfl ?_
          intro a' w' hg hs hd hb
          have e7 : a'.eval (.tmp 7) = .slice (some ⟨b, o, none⟩) m cr := hs.rest 7 rfl
          have ec : ∀ v, a'.eval (.const v) = v := fun _ => rfl
          have ef : ∀ g, a'.eval (.func g) = .func (.func g) #[] #[] := fun _ => rfl
          clear hd hs
          refine wpv (v := .slice (some ⟨b, o, none⟩) m cr) ?_ ⟨_, rfl, Grow.rfl' _, rfl⟩
          (generalize a'.eval = ev at ec ef e7 ⊢; simp [execOp, go_sem, *])
        · refine stepG_run hGg hBg hstab rfl ?_
          intro a' w' hg hs hd hb
          have e8 : a'.eval (.tmp 8) = .int .i64 (q : Int) := hs.rest 8 rfl
          have ec : ∀ v, a'.eval (.const v) = v := fun _ => rfl
          have ef : ∀ g, a'.eval (.func g) = .func (.func g) #[] #[] := fun _ => rfl
          clear hd hs
          refine wpv (v := .int .i64 (q : Int)) ?_ ⟨_, rfl, Grow.rfl' _, rfl⟩
          (generalize a'.eval = ev at ec ef e8 ⊢; simp [execOp, go_sem, *])
        · refine stepG_run hGg hBg hstab rfl ?_
          intro a' w' hg hs hd hb
          have e29 : a'.eval (.tmp 29) = .slice (some ⟨b, o, none⟩) m cr := hd ⟨6, Ground.data⟩ (by simp) rfl rfl
          have e30 : a'.eval (.tmp 30) = .int .i64 (q : Int) := hd ⟨7, Ground.data⟩ (by simp) rfl rfl
          have ec : ∀ v, a'.eval (.const v) = v := fun _ => rfl
          have ef : ∀ g, a'.eval (.func g) = .func (.func g) #[] #[] := fun _ => rfl
          have hh := HH.out w'
          clear hd hs
          refine wpv (v := .slice (some ⟨b, o, none⟩) q cr) ?_ ⟨_, rfl, Grow.rfl' _, rfl⟩
          (generalize a'.eval = ev at ec ef e29 e30 ⊢; simp [execOp, go_sem, *])
        · refine stepG_run hGg hBg hstab rfl ?_
          intro a' w' hg hs hd hb
          have e28 : a'.eval (.tmp 28) = .func (.func 55) #[] #[] := hd ⟨5, Ground.data⟩ (by simp) rfl rfl
          have e31 : a'.eval (.tmp 31) = .slice (some ⟨b, o, none⟩) q cr := hd ⟨8, Ground.data⟩ (by simp) rfl rfl
          have ec : ∀ v, a'.eval (.const v) = v := fun _ => rfl
          have ef : ∀ g, a'.eval (.func g) = .func (.func g) #[] #[] := fun _ => rfl
          clear hd hs
          refine wpc ?_ (Calls.mono (CA.out w' hg) fun e w2 ⟨he, hb⟩ => ⟨_, he, _, rfl, hb, rfl⟩)
          (generalize a'.eval = ev at ec ef e28 e31 ⊢; simp [execOp, go_sem, *])
        · refine stepG_run hGg hBg hstab rfl ?_
          intro a' w' hg hs hd hb
          have e27 : a'.eval (.tmp 27) = .int .i64 x.k := hd ⟨4, Ground.data⟩ (by simp) rfl rfl
          have e32 : a'.eval (.tmp 32) = .int .i64 z := hd ⟨9, Ground.data⟩ (by simp) rfl rfl
          have ec : ∀ v, a'.eval (.const v) = v := fun _ => rfl
          have ef : ∀ g, a'.eval (.func g) = .func (.func g) #[] #[] := fun _ => rfl
          clear hd hs
          refine wpv (v := .agg #[.int .i64 (⟨x.k, z⟩ : Rc).k, .int .i64 (⟨x.k, z⟩ : Rc).v]) ?_ ⟨_, rfl, Grow.rfl' _, rfl⟩
          (generalize a'.eval = ev at ec ef e27 e32 ⊢; simp [execOp, go_sem, *])
        · refine stepG_run hGg hBg hstab rfl ?_
          intro a' w' hg hs hd hb
          have e33 : a'.eval (.tmp 33) = .agg #[.int .i64 (⟨x.k, z⟩ : Rc).k, .int .i64 (⟨x.k, z⟩ : Rc).v] := hd ⟨10, Ground.data⟩ (by simp) rfl rfl
          have ec : ∀ v, a'.eval (.const v) = v := fun _ => rfl
          have ef : ∀ g, a'.eval (.func g) = .func (.func g) #[] #[] := fun _ => rfl
          clear hd hs
          refine wpv (v := .slice (some ⟨w'.heap.size, 0, none⟩) 1 1) (w' := w'.alloc (.cells #[.int .i64 x.k, .int .i64 z] 23)) ?_ ⟨_, rfl, Grow.alloc' _ _, oneR_new w' ⟨x.k, z⟩⟩
          (generalize a'.eval = ev at ec ef e33 ⊢; simp [execOp, go_sem, *])
        · refine stepG_take rfl ?_
          intro a' w' hg hs hd hb
          have e23 : a'.eval (.tmp 23) = .slice sl ml cl := hd ⟨0, Ground.data⟩ (by simp) rfl rfl
          obtain ⟨g34, e34, h34⟩ : OneR ⟨x.k, z⟩ (a'.eval (.tmp 34)) w' := hd ⟨11, Ground.data⟩ (by simp) rfl rfl
          have ec : ∀ v, a'.eval (.const v) = v := fun _ => rfl
          have ef : ∀ g, a'.eval (.func g) = .func (.func g) #[] #[] := fun _ => rfl
          clear hd hs
          obtain ⟨s2, c2, w2, hrun, hown, hgr, hlie⟩ := run_apF hg 30 sl ml cl T [⟨x.k, z⟩] (hb rfl) (some ⟨g34, 0, none⟩) 1 1 h34 (by omega)
          refine wpv (v := .slice s2 _ c2) (w' := w2) ?_ ⟨_, rfl, hgr, ⟨s2, c2, rfl, hown, hlie⟩, ?_, fun h _ => absurd rfl h⟩
          rotate_left
          · intro j u hj h
            match j with
            | 0 => exact h
            | 1 => exact h
            | 2 => exact h
            | 3 => exact h
            | 4 => exact h
            | 5 => exact h
            | 6 => exact h
            | 7 => exact h
            | 8 => exact h
            | 9 => exact h
            | 10 => exact h
            | 11 => cases hj
            | 12 => cases hj
            | j + 13 => exact trivial
          · unfold execOp; simp only [resolve, invoke, builtin, Sem.run_bind, Sem.run_pure, Result.andThen_ok, List.map_toArray, List.map_cons, List.map_nil, e23, e34, hrun]
      · intro a' w' hg hs hd
        obtain ⟨sa35, ca35, e35, h35, t35⟩ : AppF w1.heap.size (ml + 1) (T ++ [⟨x.k, z⟩]) (a'.eval (.tmp 35)) w' := hd 12 (by omega) rfl
        have ec : ∀ v, a'.eval (.const v) = v := fun _ => rfl
        have ef : ∀ g, a'.eval (.func g) = .func (.func g) #[] #[] := fun _ => rfl
        have HF := hide h35
        have HG3 := hide hg
        refine wpv (v := .slice sa35 (ml + 1) ca35) (w' := w') ?_ ?_
        · (generalize a'.eval = ev at ec ef e35 ⊢; simp [execOp, go_sem, *])
        clear h35 t35 e35 ec ef hg HGG HBG HG0 HB0 hGg hBg hstab
        rw [frame_eq hs [false, false, false, false, false, false, true, false, false, false, false, false, false, false, false, false, false, false, false, false, false, false, false, true, true, true, true, true, true, true, true, true, true, true, true, true, false, false, false, false] (by kernel_rfl)]; simp only [mergeL]; clear hs hd; generalize a'.tmps = TT at *; try go_frame
        go_wp2_with fail
        go_roundw
        case rel => exact ⟨k + q, sa35, ml + 1, ca35, _, m - q, cr - q, T ++ [⟨x.k, z⟩], by have := HKM.out; omega, rfl, rfl, by rw [← List.drop_drop, ← HRD2.out]; exact HNX.out, HG3.out, HF.out, by omega, by rw [← List.drop_drop, ← HRD2.out, List.append_assoc, List.singleton_append, ← HST.out]; exact HT.out⟩
        case measure => simp [sliceLen]; omega
    · have hm0 : m = 0 := by omega
      subst hm0
      have hkn : S.drop k = [] := List.eq_nil_of_length_eq_zero (by rw [hR.1])
      rw [hkn] at HT
      have HF := hide (show T = redR 4 d by rw [← HRD.out, ← HT.out, redS_nil, List.append_nil])
      clear hg hR hkn
      go_wp2_with fail
      go_ret
      exact ⟨sl, ml, cl, rfl, Grow.trans' G1.out HG.out, by rw [← HF.out]; exact HO.out.is⟩

/-- fn.Reduce. -/
theorem red_at (a : Int) (s : Option Addr) (n cap : Nat) (d : List Rc) (w : World) (hbig : n ≤ 100000) (hv : ∀ r ∈ d, mayR r = true) (hd : IsRcs w s n cap d) :
    Calls Try.prog 23 #[.int .i64 a, .slice s n cap] w fun e w' => ∃ s2 n2 c2, e = .returned (.slice s2 n2 c2) ∧ Grow w w' ∧ IsRcs w' s2 n2 c2 (redR a d) := by
  have hv' : ∀ r ∈ d, -1099511627776 ≤ r.v ∧ r.v ≤ 1099511627776 := fun r hr => ((mayR_iff r).1 (hv r hr)).2
  cases ha : mayRedB a
  · refine (red_no a s n cap ha w).mono ?_
    rintro e w' ⟨rfl, hg⟩
    refine ⟨none, 0, 0, rfl, hg, ?_⟩
    unfold redR
    rw [ha, if_neg (by simp)]
    exact ⟨rfl, Nat.le_refl _, .inl rfl⟩
  · have : a = 1 ∨ a = 2 ∨ a = 3 ∨ a = 4 := by simp [mayRedB] at ha; omega
    rcases this with rfl | rfl | rfl | rfl
    · exact red_1 s n cap d w hbig hv' hd
    · exact red_2 s n cap d w hbig hv' hd
    · exact red_3 s n cap d w hbig hv' hd
    · exact red_4 s n cap d w hbig hv' hd

end Go.Proofs.Ythkkjhjbojbbaaa
