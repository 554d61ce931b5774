/-
  CountedPlays: for every row of numbers that are added (its first eighty, with copies taken on the way) and every time: they are added as the document says, or refused, with the changes of the frontier; and what is there then is as it says; the call returns true and leaves its arguments as they were. No conditions.
-/
import Derived.Test.YtpkhmhigoafklaaLCtH
import Derived.Test.YtpkhmhigoafklaaCCl
import Derived.Test.YtpkhmhigoafklaaRAd4
namespace Go.Proofs.Ytpkhmhigoafklaa
set_option maxRecDepth 100000
open Go.RowKit Go.Sort
attribute [local go_sem ↓] run_minI eqTm
set_option linter.unusedVariables false
set_option linter.unusedSimpArgs false

theorem radd_any (y : Nat) (s : Cs) (sT sN : Option Addr) (cT cN : Nat) (t : Tm) (n : Int) (w : World) (hok : s.ok) (hR : RepY w y s sT cT sN cN) :
    Calls Try.prog 13 #[.pointer (some ⟨y, 0, none⟩), .agg #[.int .i64 t.e, .int .i64 t.d, .int .i64 t.x, .int .i64 t.y, .int .i64 t.z], .int .i64 n] w (RAddPost y s t n w) := by
  cases h : (mayB t && fitsB n)
  · exact radd_arg y s sT sN cT cN t n w h hR
  · rw [Bool.and_eq_true] at h
    exact radd_main y s sT sN cT cN t n w h.1 h.2 hok hR
theorem RepY.new (w : World) : RepY (w.alloc (.cells #[.slice none 0 0, .slice none 0 0] 33)) w.heap.size Cs.none none 0 none 0 :=
  ⟨by simp [go_sem, Cs.none], by simp [go_sem, Cs.none], by simp [go_sem], by simp [go_sem], fun off ho => by
    have h0 : ¬ off = 0 := by omega
    have h1 : ¬ off = 1 := by omega
    match off, ho with
    | off + 2, _ => simp [go_sem], isTms_nil _, rfl, Nat.le_refl _, .inl rfl⟩
/-- A map turns: the document's numbers stay. -/
theorem RepY.turnM {w w' : World} {y b : Nat} {s : Cs} {sT sN : Option Addr} {cT cN : Nat} (h : RepY w y s sT cT sN cN) (hm : ∃ es clock, w.heap[b]? = some (.map es clock)) (hg : w.grownBy w' (some b)) (hyb : y ≠ b) : RepY w' y s sT cT sN cN := by
  have hne : some y ≠ some b := fun e => hyb (Option.some.inj e)
  have hbk := hg.block y h.lt hne
  exact ⟨hg.cell h.cell0 hne, hg.cell h.cell1 hne, by rw [World.frozen?_of_block (w := w) (a := ⟨y, 0, none⟩) hbk]; exact h.free0, by rw [World.frozen?_of_block (w := w) (a := ⟨y, 1, none⟩) hbk]; exact h.free1, fun off ho => by rw [World.cell?_of_block (w := w) (a := ⟨y, off, none⟩) hbk]; exact h.two off ho, h.times.turn hm hg, h.nums.turn hm hg⟩

set_option maxHeartbeats 8000000 in
theorem CountedPlays_any (s : Option Addr) (n cap : Nat) (d : List Opn) (t : Tm) (w : World) (hd : IsOps w s n cap d) (ht : wfT t) :
    Calls Try.prog 3 #[.slice s n cap, .agg #[.int .i64 t.e, .int .i64 t.d, .int .i64 t.x, .int .i64 t.y, .int .i64 t.z]] w fun e w' => e = .returned (.bool true) ∧ Grow w w' := by
  have G0 : Hid (Grow w (w.alloc (.cells #[.int .i64 t.e, .int .i64 t.d, .int .i64 t.x, .int .i64 t.y, .int .i64 t.z] 25))) := hide (Grow.alloc' _ _)
  have KX : Hid (Box (w.alloc (.cells #[.int .i64 t.e, .int .i64 t.d, .int .i64 t.x, .int .i64 t.y, .int .i64 t.z] 25)) w.heap.size t) := hide (Box.new _ _)
  have HD := hide (hd.later G0.out)
  have HW := hide ht
  clear hd ht
  go_enter Try.func3, Try.ntmps3
  go_wp2_with fail
  generalize w.alloc (.cells #[.int .i64 t.e, .int .i64 t.d, .int .i64 t.x, .int .i64 t.y, .int .i64 t.z] 25) = w0 at *
  refine (shown4_any w0).mono ?_
  rintro e w1 ⟨rfl, hb⟩
  have G1 := hide hb
  clear hb
  go_wp2_with fail
  refine (new_any w1).mono ?_
  rintro e w2 ⟨p, b, rfl, hb, hR, hp1, hb1⟩
  have G2 : Hid (Grow w0 (w2.alloc (.cells #[.slice none 0 0, .slice none 0 0] 33))) := hide (Grow.trans' (Grow.trans' G1.out hb) (Grow.alloc' _ _))
  have R2 : Hid (RepC (w2.alloc (.cells #[.slice none 0 0, .slice none 0 0] 33)) p b Cs.none) := hide (hR.later (Grow.alloc' _ _))
  have Y2 : Hid (RepY (w2.alloc (.cells #[.slice none 0 0, .slice none 0 0] 33)) w2.heap.size Cs.none none 0 none 0) := hide (RepY.new w2)
  have hwb : w0.heap.size ≤ b := by have := G1.out.size; omega
  have hpl : p < w2.heap.size := hR.lt
  have hbl : b < w2.heap.size := hR.map.lt
  have hwy : w0.heap.size ≤ w2.heap.size := (Grow.trans' G1.out hb).size
  clear hb hR G1 hp1 hb1
  go_wp2_with fail
  generalize w2.alloc (.cells #[.slice none 0 0, .slice none 0 0] 33) = w3 at *
  generalize w2.heap.size = y at *
  go_loopw [6, 8] (fun v i wr => ∃ (k p b : Nat) (sT : Option Addr) (cT : Nat) (sN : Option Addr) (cN : Nat), k ≤ n ∧ k ≤ 80 ∧ v = .pointer (some ⟨p, 0, none⟩) ∧ i = .int .i64 k ∧ Grow w0 wr ∧ RepC wr p b (Cs.none.adds (d.take k)) ∧ RepY wr y (Cs.none.adds (d.take k)) sT cT sN cN ∧ w0.heap.size ≤ b ∧ p ≠ y ∧ b ≠ y) (fun _ i _ => 80 - (intOf i).toNat)
  case atStart => exact ⟨0, p, b, none, 0, none, 0, Nat.zero_le _, Nat.zero_le _, rfl, rfl, G2.out, R2.out, Y2.out, hwb, by omega, by omega⟩
  case round =>
    clear hwb hpl hbl
    obtain ⟨k, p, b, sT, cT, sN, cN, hk, hk80, rfl, rfl, hg, hR, hY, hwb, hpy, hby⟩ := hrel
    have HG := hide hg
    have HR := hide hR
    have HYY := hide hY
    clear hg hR hY G2 R2 Y2
    by_cases hlt : k < n ∧ k < 80
    · obtain ⟨hlt, hlt80⟩ := hlt
      obtain ⟨bb, o, rfl, hr1, hkd⟩ := HD.out.see k (by omega)
      have HR1 := hide hr1
      obtain ⟨z, hz⟩ : ∃ z, z = d[k] := ⟨_, rfl⟩
      have HY := hide hz
      have HS := hide (Cs.adds_take Cs.none d k hkd)
      rw [← hz] at HS
      obtain ⟨S, hS⟩ : ∃ S, S = Cs.none.adds (d.take k) := ⟨_, rfl⟩
      have HSO := hide (show S.ok from by rw [hS]; exact Cs.adds_ok Cs.none_ok _)
      rw [← hS] at HR HYY HS
      have h0d : 0 < d.length := by omega
      obtain ⟨z0, hz0⟩ : ∃ z0, z0 = d[0] := ⟨_, rfl⟩
      have HZ0 := hide hz0
      obtain ⟨ev, hev⟩ : ∃ ev, S.err z.t z.n = ev := ⟨_, rfl⟩
      have HEV := hide hev
      obtain ⟨S', hS'⟩ : ∃ S', S' = S.add z.t z.n := ⟨_, rfl⟩
      rw [← hS'] at HS
      have HSP := hide hS'
      have hi1 : (0 : Int) ≤ (k : Int) := by omega
      have hi2 : (k : Int) < (n : Int) := by omega
      have hi3 : (k : Int) < 80 := by omega
      have hi4 : (0 : Int) < (n : Int) := by omega
      clear hr1 hz hS hz0 hev hS'
      by_cases hc9 : (k : Int) % 9 = 8
      · have h9 : ((k : Int) % 9 == 8) = true := by simpa using hc9
        go_wp2_with fail
        refine (clone_any p b S wr HR.out).mono ?_
        rintro e w4 ⟨q, c, rfl, hb, hR, hp1, hb1⟩
        have G4 := hide (Grow.trans' HG.out hb)
        have R4 := hide (HR.out.later hb)
        have Y4 := hide (HYY.out.later hb)
        have B4 := hide hR
        have hpl : p < wr.heap.size := HR.out.lt
        have hbl : b < wr.heap.size := HR.out.map.lt
        have hyl : y < wr.heap.size := HYY.out.lt
        have hwc : w0.heap.size ≤ c := by have := HG.out.size; omega
        have hqb : q ≠ b := by omega
        have hcb : c ≠ b := by omega
        have hqy : q ≠ y := by omega
        have hcy : c ≠ y := by omega
        clear hb hR HG HR HYY hp1 hb1 hpl hbl hyl
        obtain ⟨p0, p1, p2, p3, p4, p5⟩ := (HR1.out.later G4.out).at 0 h0d
        rw [← HZ0.out] at p0 p1 p2 p3 p4 p5
        simp only [Nat.zero_mul, Nat.add_zero] at p0 p1 p2 p3 p4 p5
        go_wp2_with fail
        refine (add_any p b S z0.t 5 w4 HSO.out R4.out).mono ?_
        rintro e w5 ⟨t1, m1, c1, t2, m2, c2, rfl, hg5, hR5, -, -⟩
        have GA := hide (grow_step G4.out hg5 hwb)
        have RA := hide (B4.out.far hg5 hqb hcb)
        have YA := hide (Y4.out.turnM R4.out.map.block hg5 (Ne.symm hby))
        clear hg5 hR5 G4 R4 Y4 B4 p0 p1 p2 p3 p4 p5 hqb hcb
        go_wp2_with fail
        refine wp_region_pivot (fun i vF wF => match i with | 0 => vF = .pointer (some ⟨q, 0, none⟩) | 1 => vF = .slice (some ⟨bb, o, none⟩) n cap | 2 => vF = .int .i64 (k : Int) | 3 => vF = .pointer (some ⟨bb, o + k * 6, none⟩) | 4 => vF = .pointer (some ⟨bb, o + k * 6, none⟩) | 5 => vF = .agg #[.int .i64 (z.t).e, .int .i64 (z.t).d, .int .i64 (z.t).x, .int .i64 (z.t).y, .int .i64 (z.t).z] | 6 => vF = .slice (some ⟨bb, o, none⟩) n cap | 7 => vF = .int .i64 (k : Int) | 8 => vF = .pointer (some ⟨bb, o + k * 6, none⟩) | 9 => vF = .pointer (some ⟨bb, o + k * 6 + 5, none⟩) | 10 => vF = .int .i64 z.n | _ => True) 11 _ rfl rfl (by kernel_rfl) (by kernel_rfl) (by kernel_rfl) (fun _ _ _ _ _ h => h) ?_ ?_
        · refine ⟨?_, ?_, ?_, ?_, ?_, ?_, ?_, ?_, ?_, ?_, ?_, trivial⟩
          · refine stepOne_run trivial ?_
            intro a' w' hg hs hd
            have e6 : a'.eval (.tmp 6) = .pointer (some ⟨q, 0, none⟩) := hs.rest 6 rfl
            have ec : ∀ v, a'.eval (.const v) = v := fun _ => rfl
            have ef : ∀ g, a'.eval (.func g) = .func (.func g) #[] #[] := fun _ => rfl
            clear hd hs
            refine wpv (v := .pointer (some ⟨q, 0, none⟩)) ?_ ⟨_, rfl, Grow.rfl' _, rfl⟩
            (generalize a'.eval = ev at ec ef e6 ⊢; simp [execOp, go_sem, *])
          · refine stepOne_run trivial ?_
            intro a' w' hg hs hd
            have e0 : a'.eval (.tmp 0) = .slice (some ⟨bb, o, none⟩) n cap := hs.rest 0 rfl
            have ec : ∀ v, a'.eval (.const v) = v := fun _ => rfl
            have ef : ∀ g, a'.eval (.func g) = .func (.func g) #[] #[] := fun _ => rfl
            clear hd hs
            refine wpv (v := .slice (some ⟨bb, o, none⟩) n cap) ?_ ⟨_, rfl, Grow.rfl' _, rfl⟩
            (generalize a'.eval = ev at ec ef e0 ⊢; simp [execOp, go_sem, *])
          · refine stepOne_run trivial ?_
            intro a' w' hg hs hd
            have e8 : a'.eval (.tmp 8) = .int .i64 (k : Int) := hs.rest 8 rfl
            have ec : ∀ v, a'.eval (.const v) = v := fun _ => rfl
            have ef : ∀ g, a'.eval (.func g) = .func (.func g) #[] #[] := fun _ => rfl
            clear hd hs
            refine wpv (v := .int .i64 (k : Int)) ?_ ⟨_, rfl, Grow.rfl' _, rfl⟩
            (generalize a'.eval = ev at ec ef e8 ⊢; simp [execOp, go_sem, *])
          · refine stepOne_run trivial ?_
            intro a' w' hg hs hd
            have e56 : a'.eval (.tmp 56) = .slice (some ⟨bb, o, none⟩) n cap := hd ⟨1, Ground.data⟩ (by simp) rfl
            have e57 : a'.eval (.tmp 57) = .int .i64 (k : Int) := hd ⟨2, Ground.data⟩ (by simp) rfl
            have ec : ∀ v, a'.eval (.const v) = v := fun _ => rfl
            have ef : ∀ g, a'.eval (.func g) = .func (.func g) #[] #[] := fun _ => rfl
            clear hd hs
            refine wpv (v := .pointer (some ⟨bb, o + k * 6, none⟩)) ?_ ⟨_, rfl, Grow.rfl' _, rfl⟩
            (generalize a'.eval = ev at ec ef e56 e57 ⊢; simp [execOp, go_sem, *])
          · refine stepOne_run trivial ?_
            intro a' w' hg hs hd
            have e58 : a'.eval (.tmp 58) = .pointer (some ⟨bb, o + k * 6, none⟩) := hd ⟨3, Ground.data⟩ (by simp) rfl
            have ec : ∀ v, a'.eval (.const v) = v := fun _ => rfl
            have ef : ∀ g, a'.eval (.func g) = .func (.func g) #[] #[] := fun _ => rfl
            clear hd hs
            refine wpv (v := .pointer (some ⟨bb, o + k * 6, none⟩)) ?_ ⟨_, rfl, Grow.rfl' _, rfl⟩
            (generalize a'.eval = ev at ec ef e58 ⊢; simp [execOp, go_sem, *])
          · refine stepOne_run trivial ?_
            intro a' w' hg hs hd
            have e59 : a'.eval (.tmp 59) = .pointer (some ⟨bb, o + k * 6, none⟩) := hd ⟨4, Ground.data⟩ (by simp) rfl
            have ec : ∀ v, a'.eval (.const v) = v := fun _ => rfl
            have ef : ∀ g, a'.eval (.func g) = .func (.func g) #[] #[] := fun _ => rfl
            obtain ⟨p0, p1, p2, p3, p4, p5⟩ := (HR1.out.later (Grow.trans' GA.out hg)).at k hkd; rw [← HY.out] at p0 p1 p2 p3 p4 p5
            clear hd hs
            refine wpv (v := .agg #[.int .i64 (z.t).e, .int .i64 (z.t).d, .int .i64 (z.t).x, .int .i64 (z.t).y, .int .i64 (z.t).z]) ?_ ⟨_, rfl, Grow.rfl' _, rfl⟩
            (generalize a'.eval = ev at ec ef e59 ⊢; simp [execOp, go_sem, *])
          · refine stepOne_run trivial ?_
            intro a' w' hg hs hd
            have e0 : a'.eval (.tmp 0) = .slice (some ⟨bb, o, none⟩) n cap := hs.rest 0 rfl
            have ec : ∀ v, a'.eval (.const v) = v := fun _ => rfl
            have ef : ∀ g, a'.eval (.func g) = .func (.func g) #[] #[] := fun _ => rfl
            clear hd hs
            refine wpv (v := .slice (some ⟨bb, o, none⟩) n cap) ?_ ⟨_, rfl, Grow.rfl' _, rfl⟩
            (generalize a'.eval = ev at ec ef e0 ⊢; simp [execOp, go_sem, *])
          · refine stepOne_run trivial ?_
            intro a' w' hg hs hd
            have e8 : a'.eval (.tmp 8) = .int .i64 (k : Int) := hs.rest 8 rfl
            have ec : ∀ v, a'.eval (.const v) = v := fun _ => rfl
            have ef : ∀ g, a'.eval (.func g) = .func (.func g) #[] #[] := fun _ => rfl
            clear hd hs
            refine wpv (v := .int .i64 (k : Int)) ?_ ⟨_, rfl, Grow.rfl' _, rfl⟩
            (generalize a'.eval = ev at ec ef e8 ⊢; simp [execOp, go_sem, *])
          · refine stepOne_run trivial ?_
            intro a' w' hg hs hd
            have e61 : a'.eval (.tmp 61) = .slice (some ⟨bb, o, none⟩) n cap := hd ⟨6, Ground.data⟩ (by simp) rfl
            have e62 : a'.eval (.tmp 62) = .int .i64 (k : Int) := hd ⟨7, Ground.data⟩ (by simp) rfl
            have ec : ∀ v, a'.eval (.const v) = v := fun _ => rfl
            have ef : ∀ g, a'.eval (.func g) = .func (.func g) #[] #[] := fun _ => rfl
            clear hd hs
            refine wpv (v := .pointer (some ⟨bb, o + k * 6, none⟩)) ?_ ⟨_, rfl, Grow.rfl' _, rfl⟩
            (generalize a'.eval = ev at ec ef e61 e62 ⊢; simp [execOp, go_sem, *])
          · refine stepOne_run trivial ?_
            intro a' w' hg hs hd
            have e63 : a'.eval (.tmp 63) = .pointer (some ⟨bb, o + k * 6, none⟩) := hd ⟨8, Ground.data⟩ (by simp) rfl
            have ec : ∀ v, a'.eval (.const v) = v := fun _ => rfl
            have ef : ∀ g, a'.eval (.func g) = .func (.func g) #[] #[] := fun _ => rfl
            clear hd hs
            refine wpv (v := .pointer (some ⟨bb, o + k * 6 + 5, none⟩)) ?_ ⟨_, rfl, Grow.rfl' _, rfl⟩
            (generalize a'.eval = ev at ec ef e63 ⊢; simp [execOp, go_sem, *])
          · refine stepOne_run trivial ?_
            intro a' w' hg hs hd
            have e64 : a'.eval (.tmp 64) = .pointer (some ⟨bb, o + k * 6 + 5, none⟩) := hd ⟨9, Ground.data⟩ (by simp) rfl
            have ec : ∀ v, a'.eval (.const v) = v := fun _ => rfl
            have ef : ∀ g, a'.eval (.func g) = .func (.func g) #[] #[] := fun _ => rfl
            obtain ⟨p0, p1, p2, p3, p4, p5⟩ := (HR1.out.later (Grow.trans' GA.out hg)).at k hkd; rw [← HY.out] at p0 p1 p2 p3 p4 p5
            clear hd hs
            refine wpv (v := .int .i64 z.n) ?_ ⟨_, rfl, Grow.rfl' _, rfl⟩
            (generalize a'.eval = ev at ec ef e64 ⊢; simp [execOp, go_sem, *])
        · intro a' w' hg hs hd
          have e55 : a'.eval (.tmp 55) = .pointer (some ⟨q, 0, none⟩) := hd 0 (by omega)
          have e60 : a'.eval (.tmp 60) = .agg #[.int .i64 (z.t).e, .int .i64 (z.t).d, .int .i64 (z.t).x, .int .i64 (z.t).y, .int .i64 (z.t).z] := hd 5 (by omega)
          have e65 : a'.eval (.tmp 65) = .int .i64 z.n := hd 10 (by omega)
          have ec : ∀ v, a'.eval (.const v) = v := fun _ => rfl
          have ef : ∀ g, a'.eval (.func g) = .func (.func g) #[] #[] := fun _ => rfl
          refine wpc ?_ ((add_any q c S z.t z.n w' HSO.out (RA.out.later hg)).mono ?_)
          · (generalize a'.eval = ev at ec ef e55 e60 e65 ⊢; simp [execOp, go_sem, *])
          rintro e w6 ⟨s1, n1, d1, s2, n2, d2, rfl, hg6, hR6, hI1, hI2⟩
          rw [HEV.out]
          rw [← HSP.out] at hR6
          refine ⟨_, rfl, _, rfl, ?_⟩
          have GB := hide (grow_step (Grow.trans' GA.out hg) hg6 hwc)
          have RB := hide hR6
          have YB := hide ((YA.out.later hg).turnM (RA.out.later hg).map.block hg6 (Ne.symm hcy))
          have JB := hide hI1
          have KB := hide hI2
          have hn1 : n1 ≤ 400 := by have h1 := hI1.1; have h2 := outO_len S.front (S.add z.t z.n).front; have h3 := Cs.front_len HSO.out; unfold Cs.gone at h1; omega
          have hn2 : n2 ≤ 400 := by have h1 := hI2.1; have h2 := outO_len (S.add z.t z.n).front S.front; have h3 := Cs.front_len (Cs.add_ok (t := z.t) (n := z.n) HSO.out); unfold Cs.come at h1; omega
          clear hg6 hR6 hI1 hI2 hg
          clear hd hs e55 e60 e65 ec ef
          refine ⟨fun i vF wF => match i with | 11 => vF = .tuple #[.slice s1 n1 d1, .slice s2 n2 d2, .int .i64 ev] | 12 => vF = .tuple #[.slice s1 n1 d1, .slice s2 n2 d2, .int .i64 ev] | 13 => vF = .slice s1 n1 d1 | 14 => vF = .slice s2 n2 d2 | 15 => vF = .int .i64 ev | 16 => vF = .slice s1 n1 d1 | 17 => vF = .slice s2 n2 d2 | 18 => vF = .int .i64 ev | _ => True, fun _ _ _ _ _ h => h, ?_, rfl, ?_, ?_⟩
          · intro i u w' hi
            match i, hi with
            | 0, _ => exact trivial
            | 1, _ => exact trivial
            | 2, _ => exact trivial
            | 3, _ => exact trivial
            | 4, _ => exact trivial
            | 5, _ => exact trivial
            | 6, _ => exact trivial
            | 7, _ => exact trivial
            | 8, _ => exact trivial
            | 9, _ => exact trivial
            | 10, _ => exact trivial
            | k + 11, h => exact absurd h (by omega)
          · refine ⟨?_, ?_, ?_, ?_, ?_, ?_, ?_, trivial⟩
            · refine stepOne_run trivial ?_
              intro a' w' hg hs hd
              have e66 : a'.eval (.tmp 66) = .tuple #[.slice s1 n1 d1, .slice s2 n2 d2, .int .i64 ev] := hd ⟨11, Ground.data⟩ (by simp) rfl
              have ec : ∀ v, a'.eval (.const v) = v := fun _ => rfl
              have ef : ∀ g, a'.eval (.func g) = .func (.func g) #[] #[] := fun _ => rfl
              clear hd hs
              refine wpv (v := .tuple #[.slice s1 n1 d1, .slice s2 n2 d2, .int .i64 ev]) ?_ ⟨_, rfl, Grow.rfl' _, rfl⟩
              (generalize a'.eval = ev at ec ef e66 ⊢; simp [execOp, go_sem, *])
            · refine stepOne_run trivial ?_
              intro a' w' hg hs hd
              have e54 : a'.eval (.tmp 54) = .tuple #[.slice s1 n1 d1, .slice s2 n2 d2, .int .i64 ev] := hd ⟨12, Ground.data⟩ (by simp) rfl
              have ec : ∀ v, a'.eval (.const v) = v := fun _ => rfl
              have ef : ∀ g, a'.eval (.func g) = .func (.func g) #[] #[] := fun _ => rfl
              clear hd hs
              refine wpv (v := .slice s1 n1 d1) ?_ ⟨_, rfl, Grow.rfl' _, rfl⟩
              (generalize a'.eval = ev at ec ef e54 ⊢; simp [execOp, go_sem, *])
            · refine stepOne_run trivial ?_
              intro a' w' hg hs hd
              have e54 : a'.eval (.tmp 54) = .tuple #[.slice s1 n1 d1, .slice s2 n2 d2, .int .i64 ev] := hd ⟨12, Ground.data⟩ (by simp) rfl
              have ec : ∀ v, a'.eval (.const v) = v := fun _ => rfl
              have ef : ∀ g, a'.eval (.func g) = .func (.func g) #[] #[] := fun _ => rfl
              clear hd hs
              refine wpv (v := .slice s2 n2 d2) ?_ ⟨_, rfl, Grow.rfl' _, rfl⟩
              (generalize a'.eval = ev at ec ef e54 ⊢; simp [execOp, go_sem, *])
            · refine stepOne_run trivial ?_
              intro a' w' hg hs hd
              have e54 : a'.eval (.tmp 54) = .tuple #[.slice s1 n1 d1, .slice s2 n2 d2, .int .i64 ev] := hd ⟨12, Ground.data⟩ (by simp) rfl
              have ec : ∀ v, a'.eval (.const v) = v := fun _ => rfl
              have ef : ∀ g, a'.eval (.func g) = .func (.func g) #[] #[] := fun _ => rfl
              clear hd hs
              refine wpv (v := .int .i64 ev) ?_ ⟨_, rfl, Grow.rfl' _, rfl⟩
              (generalize a'.eval = ev at ec ef e54 ⊢; simp [execOp, go_sem, *])
            · refine stepOne_run trivial ?_
              intro a' w' hg hs hd
              have e67 : a'.eval (.tmp 67) = .slice s1 n1 d1 := hd ⟨13, Ground.data⟩ (by simp) rfl
              have ec : ∀ v, a'.eval (.const v) = v := fun _ => rfl
              have ef : ∀ g, a'.eval (.func g) = .func (.func g) #[] #[] := fun _ => rfl
              clear hd hs
              refine wpv (v := .slice s1 n1 d1) ?_ ⟨_, rfl, Grow.rfl' _, rfl⟩
              (generalize a'.eval = ev at ec ef e67 ⊢; simp [execOp, go_sem, *])
            · refine stepOne_run trivial ?_
              intro a' w' hg hs hd
              have e68 : a'.eval (.tmp 68) = .slice s2 n2 d2 := hd ⟨14, Ground.data⟩ (by simp) rfl
              have ec : ∀ v, a'.eval (.const v) = v := fun _ => rfl
              have ef : ∀ g, a'.eval (.func g) = .func (.func g) #[] #[] := fun _ => rfl
              clear hd hs
              refine wpv (v := .slice s2 n2 d2) ?_ ⟨_, rfl, Grow.rfl' _, rfl⟩
              (generalize a'.eval = ev at ec ef e68 ⊢; simp [execOp, go_sem, *])
            · refine stepOne_run trivial ?_
              intro a' w' hg hs hd
              have e69 : a'.eval (.tmp 69) = .int .i64 ev := hd ⟨15, Ground.data⟩ (by simp) rfl
              have ec : ∀ v, a'.eval (.const v) = v := fun _ => rfl
              have ef : ∀ g, a'.eval (.func g) = .func (.func g) #[] #[] := fun _ => rfl
              clear hd hs
              refine wpv (v := .int .i64 ev) ?_ ⟨_, rfl, Grow.rfl' _, rfl⟩
              (generalize a'.eval = ev at ec ef e69 ⊢; simp [execOp, go_sem, *])
          · intro a' w' hg hs hd
            have GC := hide (Grow.trans' GB.out hg)
            have RC := hide (RB.out.later hg)
            have YC := hide (YB.out.later hg)
            have JC := hide (JB.out.later hg)
            have KC := hide (KB.out.later hg)
            rename_i wq1
            clear hg GA RA YA GB RB YB JB KB
            have fz66 : a'.tmps.getD 66 undef = .tuple #[.slice s1 n1 d1, .slice s2 n2 d2, .int .i64 ev] := hd 11 (by simp); have fz54 : a'.tmps.getD 54 undef = .tuple #[.slice s1 n1 d1, .slice s2 n2 d2, .int .i64 ev] := hd 12 (by simp); have fz67 : a'.tmps.getD 67 undef = .slice s1 n1 d1 := hd 13 (by simp); have fz68 : a'.tmps.getD 68 undef = .slice s2 n2 d2 := hd 14 (by simp); have fz69 : a'.tmps.getD 69 undef = .int .i64 ev := hd 15 (by simp); have fz10 : a'.tmps.getD 10 undef = .slice s1 n1 d1 := hd 16 (by simp); have fz11 : a'.tmps.getD 11 undef = .slice s2 n2 d2 := hd 17 (by simp); have fz12 : a'.tmps.getD 12 undef = .int .i64 ev := hd 18 (by simp); rw [frame_eq hs [false, false, false, false, false, false, false, false, false, false, true, true, true, false, false, false, false, false, false, false, false, false, false, false, false, false, false, false, false, false, false, false, false, false, false, false, false, false, false, false, false, false, false, false, false, false, false, false, false, false, false, false, false, false, true, true, true, true, true, true, true, true, true, true, true, true, true, true, true, true, false, false, false, false, false, false, false, false, false, false, false, false, false, false, false, false, false, false, false, false, false, false, false, false, false, false, false, false, false, false, false, false, false, false, false, false, false, false, false, false, false, false, false, false, false, false, false, false, false, false, false, false, false, false, false, false, false, false] (by kernel_rfl)]; simp only [mergeL, fz66, fz54, fz67, fz68, fz69, fz10, fz11, fz12]; clear hs hd fz66 fz54 fz67 fz68 fz69 fz10 fz11 fz12; generalize a'.tmps = TT at *
            go_wp2_with fail
            refine wp_region_pivot (fun i vF wF => match i with | 0 => vF = .pointer (some ⟨y, 0, none⟩) | 1 => vF = .slice (some ⟨bb, o, none⟩) n cap | 2 => vF = .int .i64 (k : Int) | 3 => vF = .pointer (some ⟨bb, o + k * 6, none⟩) | 4 => vF = .pointer (some ⟨bb, o + k * 6, none⟩) | 5 => vF = .agg #[.int .i64 (z.t).e, .int .i64 (z.t).d, .int .i64 (z.t).x, .int .i64 (z.t).y, .int .i64 (z.t).z] | 6 => vF = .slice (some ⟨bb, o, none⟩) n cap | 7 => vF = .int .i64 (k : Int) | 8 => vF = .pointer (some ⟨bb, o + k * 6, none⟩) | 9 => vF = .pointer (some ⟨bb, o + k * 6 + 5, none⟩) | 10 => vF = .int .i64 z.n | _ => True) 11 _ rfl rfl (by kernel_rfl) (by kernel_rfl) (by kernel_rfl) (fun _ _ _ _ _ h => h) ?_ ?_
            · refine ⟨?_, ?_, ?_, ?_, ?_, ?_, ?_, ?_, ?_, ?_, ?_, trivial⟩
              · refine stepOne_run trivial ?_
                intro a' w' hg hs hd
                have e7 : a'.eval (.tmp 7) = .pointer (some ⟨y, 0, none⟩) := hs.rest 7 rfl
                have ec : ∀ v, a'.eval (.const v) = v := fun _ => rfl
                have ef : ∀ g, a'.eval (.func g) = .func (.func g) #[] #[] := fun _ => rfl
                clear hd hs
                refine wpv (v := .pointer (some ⟨y, 0, none⟩)) ?_ ⟨_, rfl, Grow.rfl' _, rfl⟩
                (generalize a'.eval = ev at ec ef e7 ⊢; simp [execOp, go_sem, *])
              · refine stepOne_run trivial ?_
                intro a' w' hg hs hd
                have e0 : a'.eval (.tmp 0) = .slice (some ⟨bb, o, none⟩) n cap := hs.rest 0 rfl
                have ec : ∀ v, a'.eval (.const v) = v := fun _ => rfl
                have ef : ∀ g, a'.eval (.func g) = .func (.func g) #[] #[] := fun _ => rfl
                clear hd hs
                refine wpv (v := .slice (some ⟨bb, o, none⟩) n cap) ?_ ⟨_, rfl, Grow.rfl' _, rfl⟩
                (generalize a'.eval = ev at ec ef e0 ⊢; simp [execOp, go_sem, *])
              · refine stepOne_run trivial ?_
                intro a' w' hg hs hd
                have e8 : a'.eval (.tmp 8) = .int .i64 (k : Int) := hs.rest 8 rfl
                have ec : ∀ v, a'.eval (.const v) = v := fun _ => rfl
                have ef : ∀ g, a'.eval (.func g) = .func (.func g) #[] #[] := fun _ => rfl
                clear hd hs
                refine wpv (v := .int .i64 (k : Int)) ?_ ⟨_, rfl, Grow.rfl' _, rfl⟩
                (generalize a'.eval = ev at ec ef e8 ⊢; simp [execOp, go_sem, *])
              · refine stepOne_run trivial ?_
                intro a' w' hg hs hd
                have e72 : a'.eval (.tmp 72) = .slice (some ⟨bb, o, none⟩) n cap := hd ⟨1, Ground.data⟩ (by simp) rfl
                have e73 : a'.eval (.tmp 73) = .int .i64 (k : Int) := hd ⟨2, Ground.data⟩ (by simp) rfl
                have ec : ∀ v, a'.eval (.const v) = v := fun _ => rfl
                have ef : ∀ g, a'.eval (.func g) = .func (.func g) #[] #[] := fun _ => rfl
                clear hd hs
                refine wpv (v := .pointer (some ⟨bb, o + k * 6, none⟩)) ?_ ⟨_, rfl, Grow.rfl' _, rfl⟩
                (generalize a'.eval = ev at ec ef e72 e73 ⊢; simp [execOp, go_sem, *])
              · refine stepOne_run trivial ?_
                intro a' w' hg hs hd
                have e74 : a'.eval (.tmp 74) = .pointer (some ⟨bb, o + k * 6, none⟩) := hd ⟨3, Ground.data⟩ (by simp) rfl
                have ec : ∀ v, a'.eval (.const v) = v := fun _ => rfl
                have ef : ∀ g, a'.eval (.func g) = .func (.func g) #[] #[] := fun _ => rfl
                clear hd hs
                refine wpv (v := .pointer (some ⟨bb, o + k * 6, none⟩)) ?_ ⟨_, rfl, Grow.rfl' _, rfl⟩
                (generalize a'.eval = ev at ec ef e74 ⊢; simp [execOp, go_sem, *])
              · refine stepOne_run trivial ?_
                intro a' w' hg hs hd
                have e75 : a'.eval (.tmp 75) = .pointer (some ⟨bb, o + k * 6, none⟩) := hd ⟨4, Ground.data⟩ (by simp) rfl
                have ec : ∀ v, a'.eval (.const v) = v := fun _ => rfl
                have ef : ∀ g, a'.eval (.func g) = .func (.func g) #[] #[] := fun _ => rfl
                obtain ⟨p0, p1, p2, p3, p4, p5⟩ := (HR1.out.later (Grow.trans' GC.out hg)).at k hkd; rw [← HY.out] at p0 p1 p2 p3 p4 p5
                clear hd hs
                refine wpv (v := .agg #[.int .i64 (z.t).e, .int .i64 (z.t).d, .int .i64 (z.t).x, .int .i64 (z.t).y, .int .i64 (z.t).z]) ?_ ⟨_, rfl, Grow.rfl' _, rfl⟩
                (generalize a'.eval = ev at ec ef e75 ⊢; simp [execOp, go_sem, *])
              · refine stepOne_run trivial ?_
                intro a' w' hg hs hd
                have e0 : a'.eval (.tmp 0) = .slice (some ⟨bb, o, none⟩) n cap := hs.rest 0 rfl
                have ec : ∀ v, a'.eval (.const v) = v := fun _ => rfl
                have ef : ∀ g, a'.eval (.func g) = .func (.func g) #[] #[] := fun _ => rfl
                clear hd hs
                refine wpv (v := .slice (some ⟨bb, o, none⟩) n cap) ?_ ⟨_, rfl, Grow.rfl' _, rfl⟩
                (generalize a'.eval = ev at ec ef e0 ⊢; simp [execOp, go_sem, *])
              · refine stepOne_run trivial ?_
                intro a' w' hg hs hd
                have e8 : a'.eval (.tmp 8) = .int .i64 (k : Int) := hs.rest 8 rfl
                have ec : ∀ v, a'.eval (.const v) = v := fun _ => rfl
                have ef : ∀ g, a'.eval (.func g) = .func (.func g) #[] #[] := fun _ => rfl
                clear hd hs
                refine wpv (v := .int .i64 (k : Int)) ?_ ⟨_, rfl, Grow.rfl' _, rfl⟩
                (generalize a'.eval = ev at ec ef e8 ⊢; simp [execOp, go_sem, *])
              · refine stepOne_run trivial ?_
                intro a' w' hg hs hd
                have e77 : a'.eval (.tmp 77) = .slice (some ⟨bb, o, none⟩) n cap := hd ⟨6, Ground.data⟩ (by simp) rfl
                have e78 : a'.eval (.tmp 78) = .int .i64 (k : Int) := hd ⟨7, Ground.data⟩ (by simp) rfl
                have ec : ∀ v, a'.eval (.const v) = v := fun _ => rfl
                have ef : ∀ g, a'.eval (.func g) = .func (.func g) #[] #[] := fun _ => rfl
                clear hd hs
                refine wpv (v := .pointer (some ⟨bb, o + k * 6, none⟩)) ?_ ⟨_, rfl, Grow.rfl' _, rfl⟩
                (generalize a'.eval = ev at ec ef e77 e78 ⊢; simp [execOp, go_sem, *])
              · refine stepOne_run trivial ?_
                intro a' w' hg hs hd
                have e79 : a'.eval (.tmp 79) = .pointer (some ⟨bb, o + k * 6, none⟩) := hd ⟨8, Ground.data⟩ (by simp) rfl
                have ec : ∀ v, a'.eval (.const v) = v := fun _ => rfl
                have ef : ∀ g, a'.eval (.func g) = .func (.func g) #[] #[] := fun _ => rfl
                clear hd hs
                refine wpv (v := .pointer (some ⟨bb, o + k * 6 + 5, none⟩)) ?_ ⟨_, rfl, Grow.rfl' _, rfl⟩
                (generalize a'.eval = ev at ec ef e79 ⊢; simp [execOp, go_sem, *])
              · refine stepOne_run trivial ?_
                intro a' w' hg hs hd
                have e80 : a'.eval (.tmp 80) = .pointer (some ⟨bb, o + k * 6 + 5, none⟩) := hd ⟨9, Ground.data⟩ (by simp) rfl
                have ec : ∀ v, a'.eval (.const v) = v := fun _ => rfl
                have ef : ∀ g, a'.eval (.func g) = .func (.func g) #[] #[] := fun _ => rfl
                obtain ⟨p0, p1, p2, p3, p4, p5⟩ := (HR1.out.later (Grow.trans' GC.out hg)).at k hkd; rw [← HY.out] at p0 p1 p2 p3 p4 p5
                clear hd hs
                refine wpv (v := .int .i64 z.n) ?_ ⟨_, rfl, Grow.rfl' _, rfl⟩
                (generalize a'.eval = ev at ec ef e80 ⊢; simp [execOp, go_sem, *])
            · intro a' w' hg hs hd
              have e71 : a'.eval (.tmp 71) = .pointer (some ⟨y, 0, none⟩) := hd 0 (by omega)
              have e76 : a'.eval (.tmp 76) = .agg #[.int .i64 (z.t).e, .int .i64 (z.t).d, .int .i64 (z.t).x, .int .i64 (z.t).y, .int .i64 (z.t).z] := hd 5 (by omega)
              have e81 : a'.eval (.tmp 81) = .int .i64 z.n := hd 10 (by omega)
              have ec : ∀ v, a'.eval (.const v) = v := fun _ => rfl
              have ef : ∀ g, a'.eval (.func g) = .func (.func g) #[] #[] := fun _ => rfl
              refine wpc ?_ ((radd_any y S sT sN cT cN z.t z.n w' HSO.out (YC.out.later hg)).mono ?_)
              · (generalize a'.eval = ev at ec ef e71 e76 e81 ⊢; simp [execOp, go_sem, *])
              rintro e w7 ⟨s3, n3, d3, s4, n4, d4, sT', cT', sN', cN', rfl, hg7, hR7, hI3, hI4⟩
              rw [HEV.out]
              rw [← HSP.out] at hR7
              refine ⟨_, rfl, _, rfl, ?_⟩
              have GD := hide (grow_step (Grow.trans' GC.out hg) hg7 hwy)
              have YD := hide hR7
              have RD := hide ((RC.out.later hg).far hg7 hqy hcy)
              have JD := hide ((JC.out.later hg).turnY (YC.out.later hg) hg7)
              have KD := hide ((KC.out.later hg).turnY (YC.out.later hg) hg7)
              have LD := hide hI3
              have MD := hide hI4
              clear hg7 hR7 hI3 hI4 hg
              clear hd hs e71 e76 e81 ec ef
              refine ⟨fun i vF wF => match i with | 11 => vF = .tuple #[.slice s3 n3 d3, .slice s4 n4 d4, .int .i64 ev] | 12 => vF = .tuple #[.slice s3 n3 d3, .slice s4 n4 d4, .int .i64 ev] | 13 => vF = .slice s3 n3 d3 | 14 => vF = .slice s4 n4 d4 | 15 => vF = .int .i64 ev | 16 => vF = .slice s3 n3 d3 | 17 => vF = .slice s4 n4 d4 | 18 => vF = .int .i64 ev | _ => True, fun _ _ _ _ _ h => h, ?_, rfl, ?_, ?_⟩
              · intro i u w' hi
                match i, hi with
                | 0, _ => exact trivial
                | 1, _ => exact trivial
                | 2, _ => exact trivial
                | 3, _ => exact trivial
                | 4, _ => exact trivial
                | 5, _ => exact trivial
                | 6, _ => exact trivial
                | 7, _ => exact trivial
                | 8, _ => exact trivial
                | 9, _ => exact trivial
                | 10, _ => exact trivial
                | k + 11, h => exact absurd h (by omega)
              · refine ⟨?_, ?_, ?_, ?_, ?_, ?_, ?_, trivial⟩
                · refine stepOne_run trivial ?_
                  intro a' w' hg hs hd
                  have e82 : a'.eval (.tmp 82) = .tuple #[.slice s3 n3 d3, .slice s4 n4 d4, .int .i64 ev] := hd ⟨11, Ground.data⟩ (by simp) rfl
                  have ec : ∀ v, a'.eval (.const v) = v := fun _ => rfl
                  have ef : ∀ g, a'.eval (.func g) = .func (.func g) #[] #[] := fun _ => rfl
                  clear hd hs
                  refine wpv (v := .tuple #[.slice s3 n3 d3, .slice s4 n4 d4, .int .i64 ev]) ?_ ⟨_, rfl, Grow.rfl' _, rfl⟩
                  (generalize a'.eval = ev at ec ef e82 ⊢; simp [execOp, go_sem, *])
                · refine stepOne_run trivial ?_
                  intro a' w' hg hs hd
                  have e70 : a'.eval (.tmp 70) = .tuple #[.slice s3 n3 d3, .slice s4 n4 d4, .int .i64 ev] := hd ⟨12, Ground.data⟩ (by simp) rfl
                  have ec : ∀ v, a'.eval (.const v) = v := fun _ => rfl
                  have ef : ∀ g, a'.eval (.func g) = .func (.func g) #[] #[] := fun _ => rfl
                  clear hd hs
                  refine wpv (v := .slice s3 n3 d3) ?_ ⟨_, rfl, Grow.rfl' _, rfl⟩
                  (generalize a'.eval = ev at ec ef e70 ⊢; simp [execOp, go_sem, *])
                · refine stepOne_run trivial ?_
                  intro a' w' hg hs hd
                  have e70 : a'.eval (.tmp 70) = .tuple #[.slice s3 n3 d3, .slice s4 n4 d4, .int .i64 ev] := hd ⟨12, Ground.data⟩ (by simp) rfl
                  have ec : ∀ v, a'.eval (.const v) = v := fun _ => rfl
                  have ef : ∀ g, a'.eval (.func g) = .func (.func g) #[] #[] := fun _ => rfl
                  clear hd hs
                  refine wpv (v := .slice s4 n4 d4) ?_ ⟨_, rfl, Grow.rfl' _, rfl⟩
                  (generalize a'.eval = ev at ec ef e70 ⊢; simp [execOp, go_sem, *])
                · refine stepOne_run trivial ?_
                  intro a' w' hg hs hd
                  have e70 : a'.eval (.tmp 70) = .tuple #[.slice s3 n3 d3, .slice s4 n4 d4, .int .i64 ev] := hd ⟨12, Ground.data⟩ (by simp) rfl
                  have ec : ∀ v, a'.eval (.const v) = v := fun _ => rfl
                  have ef : ∀ g, a'.eval (.func g) = .func (.func g) #[] #[] := fun _ => rfl
                  clear hd hs
                  refine wpv (v := .int .i64 ev) ?_ ⟨_, rfl, Grow.rfl' _, rfl⟩
                  (generalize a'.eval = ev at ec ef e70 ⊢; simp [execOp, go_sem, *])
                · refine stepOne_run trivial ?_
                  intro a' w' hg hs hd
                  have e83 : a'.eval (.tmp 83) = .slice s3 n3 d3 := hd ⟨13, Ground.data⟩ (by simp) rfl
                  have ec : ∀ v, a'.eval (.const v) = v := fun _ => rfl
                  have ef : ∀ g, a'.eval (.func g) = .func (.func g) #[] #[] := fun _ => rfl
                  clear hd hs
                  refine wpv (v := .slice s3 n3 d3) ?_ ⟨_, rfl, Grow.rfl' _, rfl⟩
                  (generalize a'.eval = ev at ec ef e83 ⊢; simp [execOp, go_sem, *])
                · refine stepOne_run trivial ?_
                  intro a' w' hg hs hd
                  have e84 : a'.eval (.tmp 84) = .slice s4 n4 d4 := hd ⟨14, Ground.data⟩ (by simp) rfl
                  have ec : ∀ v, a'.eval (.const v) = v := fun _ => rfl
                  have ef : ∀ g, a'.eval (.func g) = .func (.func g) #[] #[] := fun _ => rfl
                  clear hd hs
                  refine wpv (v := .slice s4 n4 d4) ?_ ⟨_, rfl, Grow.rfl' _, rfl⟩
                  (generalize a'.eval = ev at ec ef e84 ⊢; simp [execOp, go_sem, *])
                · refine stepOne_run trivial ?_
                  intro a' w' hg hs hd
                  have e85 : a'.eval (.tmp 85) = .int .i64 ev := hd ⟨15, Ground.data⟩ (by simp) rfl
                  have ec : ∀ v, a'.eval (.const v) = v := fun _ => rfl
                  have ef : ∀ g, a'.eval (.func g) = .func (.func g) #[] #[] := fun _ => rfl
                  clear hd hs
                  refine wpv (v := .int .i64 ev) ?_ ⟨_, rfl, Grow.rfl' _, rfl⟩
                  (generalize a'.eval = ev at ec ef e85 ⊢; simp [execOp, go_sem, *])
              · intro a' w' hg hs hd
                have GE := hide (Grow.trans' GD.out hg)
                have RE := hide (RD.out.later hg)
                have YE := hide (YD.out.later hg)
                have C1 := hide (sameT_any s1 s3 d1 d3 n1 n3 _ _ true (by simp) w' (by omega) (JD.out.later hg) (LD.out.later hg))
                have KE := hide (KD.out.later hg)
                have ME := hide (MD.out.later hg)
                clear hg GC RC YC JC KC GD RD YD JD KD LD MD
                have fz82 : a'.tmps.getD 82 undef = .tuple #[.slice s3 n3 d3, .slice s4 n4 d4, .int .i64 ev] := hd 11 (by simp); have fz70 : a'.tmps.getD 70 undef = .tuple #[.slice s3 n3 d3, .slice s4 n4 d4, .int .i64 ev] := hd 12 (by simp); have fz83 : a'.tmps.getD 83 undef = .slice s3 n3 d3 := hd 13 (by simp); have fz84 : a'.tmps.getD 84 undef = .slice s4 n4 d4 := hd 14 (by simp); have fz85 : a'.tmps.getD 85 undef = .int .i64 ev := hd 15 (by simp); have fz13 : a'.tmps.getD 13 undef = .slice s3 n3 d3 := hd 16 (by simp); have fz14 : a'.tmps.getD 14 undef = .slice s4 n4 d4 := hd 17 (by simp); have fz15 : a'.tmps.getD 15 undef = .int .i64 ev := hd 18 (by simp); rw [frame_eq hs [false, false, false, false, false, false, false, false, false, false, false, false, false, true, true, true, false, false, false, false, false, false, false, false, false, false, false, false, false, false, false, false, false, false, false, false, false, false, false, false, false, false, false, false, false, false, false, false, false, false, false, false, false, false, false, false, false, false, false, false, false, false, false, false, false, false, false, false, false, false, true, true, true, true, true, true, true, true, true, true, true, true, true, true, true, true, false, false, false, false, false, false, false, false, false, false, false, false, false, false, false, false, false, false, false, false, false, false, false, false, false, false, false, false, false, false, false, false, false, false, false, false, false, false, false, false, false, false] (by kernel_rfl)]; simp only [mergeL, fz82, fz70, fz83, fz84, fz85, fz13, fz14, fz15]; clear hs hd fz82 fz70 fz83 fz84 fz85 fz13 fz14 fz15; generalize a'.tmps = TT at *
                go_wp2_with fail
                refine (C1.out).mono ?_
                rintro e w8 ⟨rfl, hb⟩
                have GF := hide (Grow.trans' GE.out hb)
                have RF := hide (RE.out.later hb)
                have YF := hide (YE.out.later hb)
                have C2 := hide (sameT_any s2 s4 d2 d4 n2 n4 _ _ true (by simp) w8 (by omega) (KE.out.later hb) (ME.out.later hb))
                clear hb C1 GE RE YE KE ME
                go_wp2_with fail
                refine (C2.out).mono ?_
                rintro e w9 ⟨rfl, hb⟩
                have GG' := hide (Grow.trans' GF.out hb)
                have RG := hide (RF.out.later hb)
                have YG := hide (YF.out.later hb)
                clear hb C2 GF RF YF
                go_wp2_with fail
                go_roundw
                case rel => exact ⟨k + 1, q, c, sT', cT', sN', cN', by omega, by omega, rfl, by go_num, GG'.out, by rw [HS.out]; exact RG.out, by rw [HS.out]; exact YG.out, hwc, hqy, hcy⟩
                case measure => simp [intOf]; omega
      · have h9 : ((k : Int) % 9 == 8) = false := by simpa using hc9
        have GA := hide HG.out
        have RA := hide HR.out
        have YA := hide HYY.out
        clear HG HR HYY
        go_wp2_with fail
        refine wp_region_pivot (fun i vF wF => match i with | 0 => vF = .pointer (some ⟨p, 0, none⟩) | 1 => vF = .slice (some ⟨bb, o, none⟩) n cap | 2 => vF = .int .i64 (k : Int) | 3 => vF = .pointer (some ⟨bb, o + k * 6, none⟩) | 4 => vF = .pointer (some ⟨bb, o + k * 6, none⟩) | 5 => vF = .agg #[.int .i64 (z.t).e, .int .i64 (z.t).d, .int .i64 (z.t).x, .int .i64 (z.t).y, .int .i64 (z.t).z] | 6 => vF = .slice (some ⟨bb, o, none⟩) n cap | 7 => vF = .int .i64 (k : Int) | 8 => vF = .pointer (some ⟨bb, o + k * 6, none⟩) | 9 => vF = .pointer (some ⟨bb, o + k * 6 + 5, none⟩) | 10 => vF = .int .i64 z.n | _ => True) 11 _ rfl rfl (by kernel_rfl) (by kernel_rfl) (by kernel_rfl) (fun _ _ _ _ _ h => h) ?_ ?_
        · refine ⟨?_, ?_, ?_, ?_, ?_, ?_, ?_, ?_, ?_, ?_, ?_, trivial⟩
          · refine stepOne_run trivial ?_
            intro a' w' hg hs hd
            have e6 : a'.eval (.tmp 6) = .pointer (some ⟨p, 0, none⟩) := hs.rest 6 rfl
            have ec : ∀ v, a'.eval (.const v) = v := fun _ => rfl
            have ef : ∀ g, a'.eval (.func g) = .func (.func g) #[] #[] := fun _ => rfl
            clear hd hs
            refine wpv (v := .pointer (some ⟨p, 0, none⟩)) ?_ ⟨_, rfl, Grow.rfl' _, rfl⟩
            (generalize a'.eval = ev at ec ef e6 ⊢; simp [execOp, go_sem, *])
          · refine stepOne_run trivial ?_
            intro a' w' hg hs hd
            have e0 : a'.eval (.tmp 0) = .slice (some ⟨bb, o, none⟩) n cap := hs.rest 0 rfl
            have ec : ∀ v, a'.eval (.const v) = v := fun _ => rfl
            have ef : ∀ g, a'.eval (.func g) = .func (.func g) #[] #[] := fun _ => rfl
            clear hd hs
            refine wpv (v := .slice (some ⟨bb, o, none⟩) n cap) ?_ ⟨_, rfl, Grow.rfl' _, rfl⟩
            (generalize a'.eval = ev at ec ef e0 ⊢; simp [execOp, go_sem, *])
          · refine stepOne_run trivial ?_
            intro a' w' hg hs hd
            have e8 : a'.eval (.tmp 8) = .int .i64 (k : Int) := hs.rest 8 rfl
            have ec : ∀ v, a'.eval (.const v) = v := fun _ => rfl
            have ef : ∀ g, a'.eval (.func g) = .func (.func g) #[] #[] := fun _ => rfl
            clear hd hs
            refine wpv (v := .int .i64 (k : Int)) ?_ ⟨_, rfl, Grow.rfl' _, rfl⟩
            (generalize a'.eval = ev at ec ef e8 ⊢; simp [execOp, go_sem, *])
          · refine stepOne_run trivial ?_
            intro a' w' hg hs hd
            have e56 : a'.eval (.tmp 56) = .slice (some ⟨bb, o, none⟩) n cap := hd ⟨1, Ground.data⟩ (by simp) rfl
            have e57 : a'.eval (.tmp 57) = .int .i64 (k : Int) := hd ⟨2, Ground.data⟩ (by simp) rfl
            have ec : ∀ v, a'.eval (.const v) = v := fun _ => rfl
            have ef : ∀ g, a'.eval (.func g) = .func (.func g) #[] #[] := fun _ => rfl
            clear hd hs
            refine wpv (v := .pointer (some ⟨bb, o + k * 6, none⟩)) ?_ ⟨_, rfl, Grow.rfl' _, rfl⟩
            (generalize a'.eval = ev at ec ef e56 e57 ⊢; simp [execOp, go_sem, *])
          · refine stepOne_run trivial ?_
            intro a' w' hg hs hd
            have e58 : a'.eval (.tmp 58) = .pointer (some ⟨bb, o + k * 6, none⟩) := hd ⟨3, Ground.data⟩ (by simp) rfl
            have ec : ∀ v, a'.eval (.const v) = v := fun _ => rfl
            have ef : ∀ g, a'.eval (.func g) = .func (.func g) #[] #[] := fun _ => rfl
            clear hd hs
            refine wpv (v := .pointer (some ⟨bb, o + k * 6, none⟩)) ?_ ⟨_, rfl, Grow.rfl' _, rfl⟩
            (generalize a'.eval = ev at ec ef e58 ⊢; simp [execOp, go_sem, *])
          · refine stepOne_run trivial ?_
            intro a' w' hg hs hd
            have e59 : a'.eval (.tmp 59) = .pointer (some ⟨bb, o + k * 6, none⟩) := hd ⟨4, Ground.data⟩ (by simp) rfl
            have ec : ∀ v, a'.eval (.const v) = v := fun _ => rfl
            have ef : ∀ g, a'.eval (.func g) = .func (.func g) #[] #[] := fun _ => rfl
            obtain ⟨p0, p1, p2, p3, p4, p5⟩ := (HR1.out.later (Grow.trans' GA.out hg)).at k hkd; rw [← HY.out] at p0 p1 p2 p3 p4 p5
            clear hd hs
            refine wpv (v := .agg #[.int .i64 (z.t).e, .int .i64 (z.t).d, .int .i64 (z.t).x, .int .i64 (z.t).y, .int .i64 (z.t).z]) ?_ ⟨_, rfl, Grow.rfl' _, rfl⟩
            (generalize a'.eval = ev at ec ef e59 ⊢; simp [execOp, go_sem, *])
          · refine stepOne_run trivial ?_
            intro a' w' hg hs hd
            have e0 : a'.eval (.tmp 0) = .slice (some ⟨bb, o, none⟩) n cap := hs.rest 0 rfl
            have ec : ∀ v, a'.eval (.const v) = v := fun _ => rfl
            have ef : ∀ g, a'.eval (.func g) = .func (.func g) #[] #[] := fun _ => rfl
            clear hd hs
            refine wpv (v := .slice (some ⟨bb, o, none⟩) n cap) ?_ ⟨_, rfl, Grow.rfl' _, rfl⟩
            (generalize a'.eval = ev at ec ef e0 ⊢; simp [execOp, go_sem, *])
          · refine stepOne_run trivial ?_
            intro a' w' hg hs hd
            have e8 : a'.eval (.tmp 8) = .int .i64 (k : Int) := hs.rest 8 rfl
            have ec : ∀ v, a'.eval (.const v) = v := fun _ => rfl
            have ef : ∀ g, a'.eval (.func g) = .func (.func g) #[] #[] := fun _ => rfl
            clear hd hs
            refine wpv (v := .int .i64 (k : Int)) ?_ ⟨_, rfl, Grow.rfl' _, rfl⟩
            (generalize a'.eval = ev at ec ef e8 ⊢; simp [execOp, go_sem, *])
          · refine stepOne_run trivial ?_
            intro a' w' hg hs hd
            have e61 : a'.eval (.tmp 61) = .slice (some ⟨bb, o, none⟩) n cap := hd ⟨6, Ground.data⟩ (by simp) rfl
            have e62 : a'.eval (.tmp 62) = .int .i64 (k : Int) := hd ⟨7, Ground.data⟩ (by simp) rfl
            have ec : ∀ v, a'.eval (.const v) = v := fun _ => rfl
            have ef : ∀ g, a'.eval (.func g) = .func (.func g) #[] #[] := fun _ => rfl
            clear hd hs
            refine wpv (v := .pointer (some ⟨bb, o + k * 6, none⟩)) ?_ ⟨_, rfl, Grow.rfl' _, rfl⟩
            (generalize a'.eval = ev at ec ef e61 e62 ⊢; simp [execOp, go_sem, *])
          · refine stepOne_run trivial ?_
            intro a' w' hg hs hd
            have e63 : a'.eval (.tmp 63) = .pointer (some ⟨bb, o + k * 6, none⟩) := hd ⟨8, Ground.data⟩ (by simp) rfl
            have ec : ∀ v, a'.eval (.const v) = v := fun _ => rfl
            have ef : ∀ g, a'.eval (.func g) = .func (.func g) #[] #[] := fun _ => rfl
            clear hd hs
            refine wpv (v := .pointer (some ⟨bb, o + k * 6 + 5, none⟩)) ?_ ⟨_, rfl, Grow.rfl' _, rfl⟩
            (generalize a'.eval = ev at ec ef e63 ⊢; simp [execOp, go_sem, *])
          · refine stepOne_run trivial ?_
            intro a' w' hg hs hd
            have e64 : a'.eval (.tmp 64) = .pointer (some ⟨bb, o + k * 6 + 5, none⟩) := hd ⟨9, Ground.data⟩ (by simp) rfl
            have ec : ∀ v, a'.eval (.const v) = v := fun _ => rfl
            have ef : ∀ g, a'.eval (.func g) = .func (.func g) #[] #[] := fun _ => rfl
            obtain ⟨p0, p1, p2, p3, p4, p5⟩ := (HR1.out.later (Grow.trans' GA.out hg)).at k hkd; rw [← HY.out] at p0 p1 p2 p3 p4 p5
            clear hd hs
            refine wpv (v := .int .i64 z.n) ?_ ⟨_, rfl, Grow.rfl' _, rfl⟩
            (generalize a'.eval = ev at ec ef e64 ⊢; simp [execOp, go_sem, *])
        · intro a' w' hg hs hd
          have e55 : a'.eval (.tmp 55) = .pointer (some ⟨p, 0, none⟩) := hd 0 (by omega)
          have e60 : a'.eval (.tmp 60) = .agg #[.int .i64 (z.t).e, .int .i64 (z.t).d, .int .i64 (z.t).x, .int .i64 (z.t).y, .int .i64 (z.t).z] := hd 5 (by omega)
          have e65 : a'.eval (.tmp 65) = .int .i64 z.n := hd 10 (by omega)
          have ec : ∀ v, a'.eval (.const v) = v := fun _ => rfl
          have ef : ∀ g, a'.eval (.func g) = .func (.func g) #[] #[] := fun _ => rfl
          refine wpc ?_ ((add_any p b S z.t z.n w' HSO.out (RA.out.later hg)).mono ?_)
          · (generalize a'.eval = ev at ec ef e55 e60 e65 ⊢; simp [execOp, go_sem, *])
          rintro e w6 ⟨s1, n1, d1, s2, n2, d2, rfl, hg6, hR6, hI1, hI2⟩
          rw [HEV.out]
          rw [← HSP.out] at hR6
          refine ⟨_, rfl, _, rfl, ?_⟩
          have GB := hide (grow_step (Grow.trans' GA.out hg) hg6 hwb)
          have RB := hide hR6
          have YB := hide ((YA.out.later hg).turnM (RA.out.later hg).map.block hg6 (Ne.symm hby))
          have JB := hide hI1
          have KB := hide hI2
          have hn1 : n1 ≤ 400 := by have h1 := hI1.1; have h2 := outO_len S.front (S.add z.t z.n).front; have h3 := Cs.front_len HSO.out; unfold Cs.gone at h1; omega
          have hn2 : n2 ≤ 400 := by have h1 := hI2.1; have h2 := outO_len (S.add z.t z.n).front S.front; have h3 := Cs.front_len (Cs.add_ok (t := z.t) (n := z.n) HSO.out); unfold Cs.come at h1; omega
          clear hg6 hR6 hI1 hI2 hg
          clear hd hs e55 e60 e65 ec ef
          refine ⟨fun i vF wF => match i with | 11 => vF = .tuple #[.slice s1 n1 d1, .slice s2 n2 d2, .int .i64 ev] | 12 => vF = .tuple #[.slice s1 n1 d1, .slice s2 n2 d2, .int .i64 ev] | 13 => vF = .slice s1 n1 d1 | 14 => vF = .slice s2 n2 d2 | 15 => vF = .int .i64 ev | 16 => vF = .slice s1 n1 d1 | 17 => vF = .slice s2 n2 d2 | 18 => vF = .int .i64 ev | _ => True, fun _ _ _ _ _ h => h, ?_, rfl, ?_, ?_⟩
          · intro i u w' hi
            match i, hi with
            | 0, _ => exact trivial
            | 1, _ => exact trivial
            | 2, _ => exact trivial
            | 3, _ => exact trivial
            | 4, _ => exact trivial
            | 5, _ => exact trivial
            | 6, _ => exact trivial
            | 7, _ => exact trivial
            | 8, _ => exact trivial
            | 9, _ => exact trivial
            | 10, _ => exact trivial
            | k + 11, h => exact absurd h (by omega)
          · refine ⟨?_, ?_, ?_, ?_, ?_, ?_, ?_, trivial⟩
            · refine stepOne_run trivial ?_
              intro a' w' hg hs hd
              have e66 : a'.eval (.tmp 66) = .tuple #[.slice s1 n1 d1, .slice s2 n2 d2, .int .i64 ev] := hd ⟨11, Ground.data⟩ (by simp) rfl
              have ec : ∀ v, a'.eval (.const v) = v := fun _ => rfl
              have ef : ∀ g, a'.eval (.func g) = .func (.func g) #[] #[] := fun _ => rfl
              clear hd hs
              refine wpv (v := .tuple #[.slice s1 n1 d1, .slice s2 n2 d2, .int .i64 ev]) ?_ ⟨_, rfl, Grow.rfl' _, rfl⟩
              (generalize a'.eval = ev at ec ef e66 ⊢; simp [execOp, go_sem, *])
            · refine stepOne_run trivial ?_
              intro a' w' hg hs hd
              have e54 : a'.eval (.tmp 54) = .tuple #[.slice s1 n1 d1, .slice s2 n2 d2, .int .i64 ev] := hd ⟨12, Ground.data⟩ (by simp) rfl
              have ec : ∀ v, a'.eval (.const v) = v := fun _ => rfl
              have ef : ∀ g, a'.eval (.func g) = .func (.func g) #[] #[] := fun _ => rfl
              clear hd hs
              refine wpv (v := .slice s1 n1 d1) ?_ ⟨_, rfl, Grow.rfl' _, rfl⟩
              (generalize a'.eval = ev at ec ef e54 ⊢; simp [execOp, go_sem, *])
            · refine stepOne_run trivial ?_
              intro a' w' hg hs hd
              have e54 : a'.eval (.tmp 54) = .tuple #[.slice s1 n1 d1, .slice s2 n2 d2, .int .i64 ev] := hd ⟨12, Ground.data⟩ (by simp) rfl
              have ec : ∀ v, a'.eval (.const v) = v := fun _ => rfl
              have ef : ∀ g, a'.eval (.func g) = .func (.func g) #[] #[] := fun _ => rfl
              clear hd hs
              refine wpv (v := .slice s2 n2 d2) ?_ ⟨_, rfl, Grow.rfl' _, rfl⟩
              (generalize a'.eval = ev at ec ef e54 ⊢; simp [execOp, go_sem, *])
            · refine stepOne_run trivial ?_
              intro a' w' hg hs hd
              have e54 : a'.eval (.tmp 54) = .tuple #[.slice s1 n1 d1, .slice s2 n2 d2, .int .i64 ev] := hd ⟨12, Ground.data⟩ (by simp) rfl
              have ec : ∀ v, a'.eval (.const v) = v := fun _ => rfl
              have ef : ∀ g, a'.eval (.func g) = .func (.func g) #[] #[] := fun _ => rfl
              clear hd hs
              refine wpv (v := .int .i64 ev) ?_ ⟨_, rfl, Grow.rfl' _, rfl⟩
              (generalize a'.eval = ev at ec ef e54 ⊢; simp [execOp, go_sem, *])
            · refine stepOne_run trivial ?_
              intro a' w' hg hs hd
              have e67 : a'.eval (.tmp 67) = .slice s1 n1 d1 := hd ⟨13, Ground.data⟩ (by simp) rfl
              have ec : ∀ v, a'.eval (.const v) = v := fun _ => rfl
              have ef : ∀ g, a'.eval (.func g) = .func (.func g) #[] #[] := fun _ => rfl
              clear hd hs
              refine wpv (v := .slice s1 n1 d1) ?_ ⟨_, rfl, Grow.rfl' _, rfl⟩
              (generalize a'.eval = ev at ec ef e67 ⊢; simp [execOp, go_sem, *])
            · refine stepOne_run trivial ?_
              intro a' w' hg hs hd
              have e68 : a'.eval (.tmp 68) = .slice s2 n2 d2 := hd ⟨14, Ground.data⟩ (by simp) rfl
              have ec : ∀ v, a'.eval (.const v) = v := fun _ => rfl
              have ef : ∀ g, a'.eval (.func g) = .func (.func g) #[] #[] := fun _ => rfl
              clear hd hs
              refine wpv (v := .slice s2 n2 d2) ?_ ⟨_, rfl, Grow.rfl' _, rfl⟩
              (generalize a'.eval = ev at ec ef e68 ⊢; simp [execOp, go_sem, *])
            · refine stepOne_run trivial ?_
              intro a' w' hg hs hd
              have e69 : a'.eval (.tmp 69) = .int .i64 ev := hd ⟨15, Ground.data⟩ (by simp) rfl
              have ec : ∀ v, a'.eval (.const v) = v := fun _ => rfl
              have ef : ∀ g, a'.eval (.func g) = .func (.func g) #[] #[] := fun _ => rfl
              clear hd hs
              refine wpv (v := .int .i64 ev) ?_ ⟨_, rfl, Grow.rfl' _, rfl⟩
              (generalize a'.eval = ev at ec ef e69 ⊢; simp [execOp, go_sem, *])
          · intro a' w' hg hs hd
            have GC := hide (Grow.trans' GB.out hg)
            have RC := hide (RB.out.later hg)
            have YC := hide (YB.out.later hg)
            have JC := hide (JB.out.later hg)
            have KC := hide (KB.out.later hg)
            rename_i wq1
            clear hg GA RA YA GB RB YB JB KB
            have fz66 : a'.tmps.getD 66 undef = .tuple #[.slice s1 n1 d1, .slice s2 n2 d2, .int .i64 ev] := hd 11 (by simp); have fz54 : a'.tmps.getD 54 undef = .tuple #[.slice s1 n1 d1, .slice s2 n2 d2, .int .i64 ev] := hd 12 (by simp); have fz67 : a'.tmps.getD 67 undef = .slice s1 n1 d1 := hd 13 (by simp); have fz68 : a'.tmps.getD 68 undef = .slice s2 n2 d2 := hd 14 (by simp); have fz69 : a'.tmps.getD 69 undef = .int .i64 ev := hd 15 (by simp); have fz10 : a'.tmps.getD 10 undef = .slice s1 n1 d1 := hd 16 (by simp); have fz11 : a'.tmps.getD 11 undef = .slice s2 n2 d2 := hd 17 (by simp); have fz12 : a'.tmps.getD 12 undef = .int .i64 ev := hd 18 (by simp); rw [frame_eq hs [false, false, false, false, false, false, false, false, false, false, true, true, true, false, false, false, false, false, false, false, false, false, false, false, false, false, false, false, false, false, false, false, false, false, false, false, false, false, false, false, false, false, false, false, false, false, false, false, false, false, false, false, false, false, true, true, true, true, true, true, true, true, true, true, true, true, true, true, true, true, false, false, false, false, false, false, false, false, false, false, false, false, false, false, false, false, false, false, false, false, false, false, false, false, false, false, false, false, false, false, false, false, false, false, false, false, false, false, false, false, false, false, false, false, false, false, false, false, false, false, false, false, false, false, false, false, false, false] (by kernel_rfl)]; simp only [mergeL, fz66, fz54, fz67, fz68, fz69, fz10, fz11, fz12]; clear hs hd fz66 fz54 fz67 fz68 fz69 fz10 fz11 fz12; generalize a'.tmps = TT at *
            go_wp2_with fail
            refine wp_region_pivot (fun i vF wF => match i with | 0 => vF = .pointer (some ⟨y, 0, none⟩) | 1 => vF = .slice (some ⟨bb, o, none⟩) n cap | 2 => vF = .int .i64 (k : Int) | 3 => vF = .pointer (some ⟨bb, o + k * 6, none⟩) | 4 => vF = .pointer (some ⟨bb, o + k * 6, none⟩) | 5 => vF = .agg #[.int .i64 (z.t).e, .int .i64 (z.t).d, .int .i64 (z.t).x, .int .i64 (z.t).y, .int .i64 (z.t).z] | 6 => vF = .slice (some ⟨bb, o, none⟩) n cap | 7 => vF = .int .i64 (k : Int) | 8 => vF = .pointer (some ⟨bb, o + k * 6, none⟩) | 9 => vF = .pointer (some ⟨bb, o + k * 6 + 5, none⟩) | 10 => vF = .int .i64 z.n | _ => True) 11 _ rfl rfl (by kernel_rfl) (by kernel_rfl) (by kernel_rfl) (fun _ _ _ _ _ h => h) ?_ ?_
            · refine ⟨?_, ?_, ?_, ?_, ?_, ?_, ?_, ?_, ?_, ?_, ?_, trivial⟩
              · refine stepOne_run trivial ?_
                intro a' w' hg hs hd
                have e7 : a'.eval (.tmp 7) = .pointer (some ⟨y, 0, none⟩) := hs.rest 7 rfl
                have ec : ∀ v, a'.eval (.const v) = v := fun _ => rfl
                have ef : ∀ g, a'.eval (.func g) = .func (.func g) #[] #[] := fun _ => rfl
                clear hd hs
                refine wpv (v := .pointer (some ⟨y, 0, none⟩)) ?_ ⟨_, rfl, Grow.rfl' _, rfl⟩
                (generalize a'.eval = ev at ec ef e7 ⊢; simp [execOp, go_sem, *])
              · refine stepOne_run trivial ?_
                intro a' w' hg hs hd
                have e0 : a'.eval (.tmp 0) = .slice (some ⟨bb, o, none⟩) n cap := hs.rest 0 rfl
                have ec : ∀ v, a'.eval (.const v) = v := fun _ => rfl
                have ef : ∀ g, a'.eval (.func g) = .func (.func g) #[] #[] := fun _ => rfl
                clear hd hs
                refine wpv (v := .slice (some ⟨bb, o, none⟩) n cap) ?_ ⟨_, rfl, Grow.rfl' _, rfl⟩
                (generalize a'.eval = ev at ec ef e0 ⊢; simp [execOp, go_sem, *])
              · refine stepOne_run trivial ?_
                intro a' w' hg hs hd
                have e8 : a'.eval (.tmp 8) = .int .i64 (k : Int) := hs.rest 8 rfl
                have ec : ∀ v, a'.eval (.const v) = v := fun _ => rfl
                have ef : ∀ g, a'.eval (.func g) = .func (.func g) #[] #[] := fun _ => rfl
                clear hd hs
                refine wpv (v := .int .i64 (k : Int)) ?_ ⟨_, rfl, Grow.rfl' _, rfl⟩
                (generalize a'.eval = ev at ec ef e8 ⊢; simp [execOp, go_sem, *])
              · refine stepOne_run trivial ?_
                intro a' w' hg hs hd
                have e72 : a'.eval (.tmp 72) = .slice (some ⟨bb, o, none⟩) n cap := hd ⟨1, Ground.data⟩ (by simp) rfl
                have e73 : a'.eval (.tmp 73) = .int .i64 (k : Int) := hd ⟨2, Ground.data⟩ (by simp) rfl
                have ec : ∀ v, a'.eval (.const v) = v := fun _ => rfl
                have ef : ∀ g, a'.eval (.func g) = .func (.func g) #[] #[] := fun _ => rfl
                clear hd hs
                refine wpv (v := .pointer (some ⟨bb, o + k * 6, none⟩)) ?_ ⟨_, rfl, Grow.rfl' _, rfl⟩
                (generalize a'.eval = ev at ec ef e72 e73 ⊢; simp [execOp, go_sem, *])
              · refine stepOne_run trivial ?_
                intro a' w' hg hs hd
                have e74 : a'.eval (.tmp 74) = .pointer (some ⟨bb, o + k * 6, none⟩) := hd ⟨3, Ground.data⟩ (by simp) rfl
                have ec : ∀ v, a'.eval (.const v) = v := fun _ => rfl
                have ef : ∀ g, a'.eval (.func g) = .func (.func g) #[] #[] := fun _ => rfl
                clear hd hs
                refine wpv (v := .pointer (some ⟨bb, o + k * 6, none⟩)) ?_ ⟨_, rfl, Grow.rfl' _, rfl⟩
                (generalize a'.eval = ev at ec ef e74 ⊢; simp [execOp, go_sem, *])
              · refine stepOne_run trivial ?_
                intro a' w' hg hs hd
                have e75 : a'.eval (.tmp 75) = .pointer (some ⟨bb, o + k * 6, none⟩) := hd ⟨4, Ground.data⟩ (by simp) rfl
                have ec : ∀ v, a'.eval (.const v) = v := fun _ => rfl
                have ef : ∀ g, a'.eval (.func g) = .func (.func g) #[] #[] := fun _ => rfl
                obtain ⟨p0, p1, p2, p3, p4, p5⟩ := (HR1.out.later (Grow.trans' GC.out hg)).at k hkd; rw [← HY.out] at p0 p1 p2 p3 p4 p5
                clear hd hs
                refine wpv (v := .agg #[.int .i64 (z.t).e, .int .i64 (z.t).d, .int .i64 (z.t).x, .int .i64 (z.t).y, .int .i64 (z.t).z]) ?_ ⟨_, rfl, Grow.rfl' _, rfl⟩
                (generalize a'.eval = ev at ec ef e75 ⊢; simp [execOp, go_sem, *])
              · refine stepOne_run trivial ?_
                intro a' w' hg hs hd
                have e0 : a'.eval (.tmp 0) = .slice (some ⟨bb, o, none⟩) n cap := hs.rest 0 rfl
                have ec : ∀ v, a'.eval (.const v) = v := fun _ => rfl
                have ef : ∀ g, a'.eval (.func g) = .func (.func g) #[] #[] := fun _ => rfl
                clear hd hs
                refine wpv (v := .slice (some ⟨bb, o, none⟩) n cap) ?_ ⟨_, rfl, Grow.rfl' _, rfl⟩
                (generalize a'.eval = ev at ec ef e0 ⊢; simp [execOp, go_sem, *])
              · refine stepOne_run trivial ?_
                intro a' w' hg hs hd
                have e8 : a'.eval (.tmp 8) = .int .i64 (k : Int) := hs.rest 8 rfl
                have ec : ∀ v, a'.eval (.const v) = v := fun _ => rfl
                have ef : ∀ g, a'.eval (.func g) = .func (.func g) #[] #[] := fun _ => rfl
                clear hd hs
                refine wpv (v := .int .i64 (k : Int)) ?_ ⟨_, rfl, Grow.rfl' _, rfl⟩
                (generalize a'.eval = ev at ec ef e8 ⊢; simp [execOp, go_sem, *])
              · refine stepOne_run trivial ?_
                intro a' w' hg hs hd
                have e77 : a'.eval (.tmp 77) = .slice (some ⟨bb, o, none⟩) n cap := hd ⟨6, Ground.data⟩ (by simp) rfl
                have e78 : a'.eval (.tmp 78) = .int .i64 (k : Int) := hd ⟨7, Ground.data⟩ (by simp) rfl
                have ec : ∀ v, a'.eval (.const v) = v := fun _ => rfl
                have ef : ∀ g, a'.eval (.func g) = .func (.func g) #[] #[] := fun _ => rfl
                clear hd hs
                refine wpv (v := .pointer (some ⟨bb, o + k * 6, none⟩)) ?_ ⟨_, rfl, Grow.rfl' _, rfl⟩
                (generalize a'.eval = ev at ec ef e77 e78 ⊢; simp [execOp, go_sem, *])
              · refine stepOne_run trivial ?_
                intro a' w' hg hs hd
                have e79 : a'.eval (.tmp 79) = .pointer (some ⟨bb, o + k * 6, none⟩) := hd ⟨8, Ground.data⟩ (by simp) rfl
                have ec : ∀ v, a'.eval (.const v) = v := fun _ => rfl
                have ef : ∀ g, a'.eval (.func g) = .func (.func g) #[] #[] := fun _ => rfl
                clear hd hs
                refine wpv (v := .pointer (some ⟨bb, o + k * 6 + 5, none⟩)) ?_ ⟨_, rfl, Grow.rfl' _, rfl⟩
                (generalize a'.eval = ev at ec ef e79 ⊢; simp [execOp, go_sem, *])
              · refine stepOne_run trivial ?_
                intro a' w' hg hs hd
                have e80 : a'.eval (.tmp 80) = .pointer (some ⟨bb, o + k * 6 + 5, none⟩) := hd ⟨9, Ground.data⟩ (by simp) rfl
                have ec : ∀ v, a'.eval (.const v) = v := fun _ => rfl
                have ef : ∀ g, a'.eval (.func g) = .func (.func g) #[] #[] := fun _ => rfl
                obtain ⟨p0, p1, p2, p3, p4, p5⟩ := (HR1.out.later (Grow.trans' GC.out hg)).at k hkd; rw [← HY.out] at p0 p1 p2 p3 p4 p5
                clear hd hs
                refine wpv (v := .int .i64 z.n) ?_ ⟨_, rfl, Grow.rfl' _, rfl⟩
                (generalize a'.eval = ev at ec ef e80 ⊢; simp [execOp, go_sem, *])
            · intro a' w' hg hs hd
              have e71 : a'.eval (.tmp 71) = .pointer (some ⟨y, 0, none⟩) := hd 0 (by omega)
              have e76 : a'.eval (.tmp 76) = .agg #[.int .i64 (z.t).e, .int .i64 (z.t).d, .int .i64 (z.t).x, .int .i64 (z.t).y, .int .i64 (z.t).z] := hd 5 (by omega)
              have e81 : a'.eval (.tmp 81) = .int .i64 z.n := hd 10 (by omega)
              have ec : ∀ v, a'.eval (.const v) = v := fun _ => rfl
              have ef : ∀ g, a'.eval (.func g) = .func (.func g) #[] #[] := fun _ => rfl
              refine wpc ?_ ((radd_any y S sT sN cT cN z.t z.n w' HSO.out (YC.out.later hg)).mono ?_)
              · (generalize a'.eval = ev at ec ef e71 e76 e81 ⊢; simp [execOp, go_sem, *])
              rintro e w7 ⟨s3, n3, d3, s4, n4, d4, sT', cT', sN', cN', rfl, hg7, hR7, hI3, hI4⟩
              rw [HEV.out]
              rw [← HSP.out] at hR7
              refine ⟨_, rfl, _, rfl, ?_⟩
              have GD := hide (grow_step (Grow.trans' GC.out hg) hg7 hwy)
              have YD := hide hR7
              have RD := hide ((RC.out.later hg).far hg7 hpy hby)
              have JD := hide ((JC.out.later hg).turnY (YC.out.later hg) hg7)
              have KD := hide ((KC.out.later hg).turnY (YC.out.later hg) hg7)
              have LD := hide hI3
              have MD := hide hI4
              clear hg7 hR7 hI3 hI4 hg
              clear hd hs e71 e76 e81 ec ef
              refine ⟨fun i vF wF => match i with | 11 => vF = .tuple #[.slice s3 n3 d3, .slice s4 n4 d4, .int .i64 ev] | 12 => vF = .tuple #[.slice s3 n3 d3, .slice s4 n4 d4, .int .i64 ev] | 13 => vF = .slice s3 n3 d3 | 14 => vF = .slice s4 n4 d4 | 15 => vF = .int .i64 ev | 16 => vF = .slice s3 n3 d3 | 17 => vF = .slice s4 n4 d4 | 18 => vF = .int .i64 ev | _ => True, fun _ _ _ _ _ h => h, ?_, rfl, ?_, ?_⟩
              · intro i u w' hi
                match i, hi with
                | 0, _ => exact trivial
                | 1, _ => exact trivial
                | 2, _ => exact trivial
                | 3, _ => exact trivial
                | 4, _ => exact trivial
                | 5, _ => exact trivial
                | 6, _ => exact trivial
                | 7, _ => exact trivial
                | 8, _ => exact trivial
                | 9, _ => exact trivial
                | 10, _ => exact trivial
                | k + 11, h => exact absurd h (by omega)
              · refine ⟨?_, ?_, ?_, ?_, ?_, ?_, ?_, trivial⟩
                · refine stepOne_run trivial ?_
                  intro a' w' hg hs hd
                  have e82 : a'.eval (.tmp 82) = .tuple #[.slice s3 n3 d3, .slice s4 n4 d4, .int .i64 ev] := hd ⟨11, Ground.data⟩ (by simp) rfl
                  have ec : ∀ v, a'.eval (.const v) = v := fun _ => rfl
                  have ef : ∀ g, a'.eval (.func g) = .func (.func g) #[] #[] := fun _ => rfl
                  clear hd hs
                  refine wpv (v := .tuple #[.slice s3 n3 d3, .slice s4 n4 d4, .int .i64 ev]) ?_ ⟨_, rfl, Grow.rfl' _, rfl⟩
                  (generalize a'.eval = ev at ec ef e82 ⊢; simp [execOp, go_sem, *])
                · refine stepOne_run trivial ?_
                  intro a' w' hg hs hd
                  have e70 : a'.eval (.tmp 70) = .tuple #[.slice s3 n3 d3, .slice s4 n4 d4, .int .i64 ev] := hd ⟨12, Ground.data⟩ (by simp) rfl
                  have ec : ∀ v, a'.eval (.const v) = v := fun _ => rfl
                  have ef : ∀ g, a'.eval (.func g) = .func (.func g) #[] #[] := fun _ => rfl
                  clear hd hs
                  refine wpv (v := .slice s3 n3 d3) ?_ ⟨_, rfl, Grow.rfl' _, rfl⟩
                  (generalize a'.eval = ev at ec ef e70 ⊢; simp [execOp, go_sem, *])
                · refine stepOne_run trivial ?_
                  intro a' w' hg hs hd
                  have e70 : a'.eval (.tmp 70) = .tuple #[.slice s3 n3 d3, .slice s4 n4 d4, .int .i64 ev] := hd ⟨12, Ground.data⟩ (by simp) rfl
                  have ec : ∀ v, a'.eval (.const v) = v := fun _ => rfl
                  have ef : ∀ g, a'.eval (.func g) = .func (.func g) #[] #[] := fun _ => rfl
                  clear hd hs
                  refine wpv (v := .slice s4 n4 d4) ?_ ⟨_, rfl, Grow.rfl' _, rfl⟩
                  (generalize a'.eval = ev at ec ef e70 ⊢; simp [execOp, go_sem, *])
                · refine stepOne_run trivial ?_
                  intro a' w' hg hs hd
                  have e70 : a'.eval (.tmp 70) = .tuple #[.slice s3 n3 d3, .slice s4 n4 d4, .int .i64 ev] := hd ⟨12, Ground.data⟩ (by simp) rfl
                  have ec : ∀ v, a'.eval (.const v) = v := fun _ => rfl
                  have ef : ∀ g, a'.eval (.func g) = .func (.func g) #[] #[] := fun _ => rfl
                  clear hd hs
                  refine wpv (v := .int .i64 ev) ?_ ⟨_, rfl, Grow.rfl' _, rfl⟩
                  (generalize a'.eval = ev at ec ef e70 ⊢; simp [execOp, go_sem, *])
                · refine stepOne_run trivial ?_
                  intro a' w' hg hs hd
                  have e83 : a'.eval (.tmp 83) = .slice s3 n3 d3 := hd ⟨13, Ground.data⟩ (by simp) rfl
                  have ec : ∀ v, a'.eval (.const v) = v := fun _ => rfl
                  have ef : ∀ g, a'.eval (.func g) = .func (.func g) #[] #[] := fun _ => rfl
                  clear hd hs
                  refine wpv (v := .slice s3 n3 d3) ?_ ⟨_, rfl, Grow.rfl' _, rfl⟩
                  (generalize a'.eval = ev at ec ef e83 ⊢; simp [execOp, go_sem, *])
                · refine stepOne_run trivial ?_
                  intro a' w' hg hs hd
                  have e84 : a'.eval (.tmp 84) = .slice s4 n4 d4 := hd ⟨14, Ground.data⟩ (by simp) rfl
                  have ec : ∀ v, a'.eval (.const v) = v := fun _ => rfl
                  have ef : ∀ g, a'.eval (.func g) = .func (.func g) #[] #[] := fun _ => rfl
                  clear hd hs
                  refine wpv (v := .slice s4 n4 d4) ?_ ⟨_, rfl, Grow.rfl' _, rfl⟩
                  (generalize a'.eval = ev at ec ef e84 ⊢; simp [execOp, go_sem, *])
                · refine stepOne_run trivial ?_
                  intro a' w' hg hs hd
                  have e85 : a'.eval (.tmp 85) = .int .i64 ev := hd ⟨15, Ground.data⟩ (by simp) rfl
                  have ec : ∀ v, a'.eval (.const v) = v := fun _ => rfl
                  have ef : ∀ g, a'.eval (.func g) = .func (.func g) #[] #[] := fun _ => rfl
                  clear hd hs
                  refine wpv (v := .int .i64 ev) ?_ ⟨_, rfl, Grow.rfl' _, rfl⟩
                  (generalize a'.eval = ev at ec ef e85 ⊢; simp [execOp, go_sem, *])
              · intro a' w' hg hs hd
                have GE := hide (Grow.trans' GD.out hg)
                have RE := hide (RD.out.later hg)
                have YE := hide (YD.out.later hg)
                have C1 := hide (sameT_any s1 s3 d1 d3 n1 n3 _ _ true (by simp) w' (by omega) (JD.out.later hg) (LD.out.later hg))
                have KE := hide (KD.out.later hg)
                have ME := hide (MD.out.later hg)
                clear hg GC RC YC JC KC GD RD YD JD KD LD MD
                have fz82 : a'.tmps.getD 82 undef = .tuple #[.slice s3 n3 d3, .slice s4 n4 d4, .int .i64 ev] := hd 11 (by simp); have fz70 : a'.tmps.getD 70 undef = .tuple #[.slice s3 n3 d3, .slice s4 n4 d4, .int .i64 ev] := hd 12 (by simp); have fz83 : a'.tmps.getD 83 undef = .slice s3 n3 d3 := hd 13 (by simp); have fz84 : a'.tmps.getD 84 undef = .slice s4 n4 d4 := hd 14 (by simp); have fz85 : a'.tmps.getD 85 undef = .int .i64 ev := hd 15 (by simp); have fz13 : a'.tmps.getD 13 undef = .slice s3 n3 d3 := hd 16 (by simp); have fz14 : a'.tmps.getD 14 undef = .slice s4 n4 d4 := hd 17 (by simp); have fz15 : a'.tmps.getD 15 undef = .int .i64 ev := hd 18 (by simp); rw [frame_eq hs [false, false, false, false, false, false, false, false, false, false, false, false, false, true, true, true, false, false, false, false, false, false, false, false, false, false, false, false, false, false, false, false, false, false, false, false, false, false, false, false, false, false, false, false, false, false, false, false, false, false, false, false, false, false, false, false, false, false, false, false, false, false, false, false, false, false, false, false, false, false, true, true, true, true, true, true, true, true, true, true, true, true, true, true, true, true, false, false, false, false, false, false, false, false, false, false, false, false, false, false, false, false, false, false, false, false, false, false, false, false, false, false, false, false, false, false, false, false, false, false, false, false, false, false, false, false, false, false] (by kernel_rfl)]; simp only [mergeL, fz82, fz70, fz83, fz84, fz85, fz13, fz14, fz15]; clear hs hd fz82 fz70 fz83 fz84 fz85 fz13 fz14 fz15; generalize a'.tmps = TT at *
                go_wp2_with fail
                refine (C1.out).mono ?_
                rintro e w8 ⟨rfl, hb⟩
                have GF := hide (Grow.trans' GE.out hb)
                have RF := hide (RE.out.later hb)
                have YF := hide (YE.out.later hb)
                have C2 := hide (sameT_any s2 s4 d2 d4 n2 n4 _ _ true (by simp) w8 (by omega) (KE.out.later hb) (ME.out.later hb))
                clear hb C1 GE RE YE KE ME
                go_wp2_with fail
                refine (C2.out).mono ?_
                rintro e w9 ⟨rfl, hb⟩
                have GG' := hide (Grow.trans' GF.out hb)
                have RG := hide (RF.out.later hb)
                have YG := hide (YF.out.later hb)
                clear hb C2 GF RF YF
                go_wp2_with fail
                go_roundw
                case rel => exact ⟨k + 1, p, b, sT', cT', sN', cN', by omega, by omega, rfl, by go_num, GG'.out, by rw [HS.out]; exact RG.out, by rw [HS.out]; exact YG.out, hwb, hpy, hby⟩
                case measure => simp [intOf]; omega
    · obtain ⟨S, hS⟩ : ∃ S, S = Cs.none.adds (d.take k) := ⟨_, rfl⟩
      have HSO := hide (show S.ok from by rw [hS]; exact Cs.adds_ok Cs.none_ok _)
      rw [← hS] at HR HYY
      obtain ⟨c, hc⟩ : ∃ c, S.f t = c := ⟨_, rfl⟩
      have HC := hide hc
      obtain ⟨N, hN⟩ : ∃ N, N = S.T.length := ⟨_, rfl⟩
      have HN := hide hN
      have hN4 : N ≤ 400 := by rw [hN]; exact HSO.out.few
      clear hS hc hN
      by_cases hlt1 : (k : Int) < (n : Int)
      all_goals
        have hi5 : ¬ ((k : Int) < (n : Int) ∧ (k : Int) < 80) := by omega
        have hi6 : ¬ (k : Int) < 80 ∨ ¬ (k : Int) < (n : Int) := by omega
        go_wp2_with fail
      · skip
        let FF : Nat → Value → World → Prop := fun i vF wF => match i with | 0 => vF = .pointer (some ⟨p, 0, none⟩) | 1 => IsRowT S.T vF wF | 2 => vF = .pointer (some ⟨y, 0, none⟩) | 3 => vF = .pointer (some ⟨y, 0, none⟩) | 4 => vF = .pointer (some ⟨y, 0, none⟩) | 5 => vF = .slice sT N cT | 6 => vF = .bool true | 7 => vF = .bool true | _ => True
        have hstab : ∀ k v w1 w2, Grow w1 w2 → FF k v w1 → FF k v w2 := by
          intro k v w1 w2 hg h
          match k with
          | 0 => exact h
          | 1 => exact IsRowT.later hg h
          | 2 => exact h
          | 3 => exact h
          | 4 => exact h
          | 5 => exact h
          | 6 => exact h
          | 7 => exact h
          | k + 8 => exact trivial
        refine wp_region_invK FF (fun _ => none) (by kernel_rfl) (by kernel_rfl) ?_ ?_
        · refine ⟨?_, ?_, ?_, ?_, ?_, ?_, ?_, ?_, trivial⟩
          · refine stepK_run hstab trivial (by intro j b h; cases h) ?_
            intro a' w' hg hs hd
            have e6 : a'.eval (.tmp 6) = .pointer (some ⟨p, 0, none⟩) := hs.rest 6 rfl
            have ec : ∀ v, a'.eval (.const v) = v := fun _ => rfl
            have ef : ∀ g, a'.eval (.func g) = .func (.func g) #[] #[] := fun _ => rfl
            clear hd hs
            refine wpv (v := .pointer (some ⟨p, 0, none⟩)) ?_ ⟨_, rfl, Grow.rfl' _, rfl⟩
            (generalize a'.eval = ev at ec ef e6 ⊢; simp [execOp, go_sem, *])
          · refine stepK_run hstab trivial (by intro j b h; cases h) ?_
            intro a' w' hg hs hd
            have e103 : a'.eval (.tmp 103) = .pointer (some ⟨p, 0, none⟩) := hd ⟨0, Ground.data⟩ (by simp) rfl rfl
            have ec : ∀ v, a'.eval (.const v) = v := fun _ => rfl
            have ef : ∀ g, a'.eval (.func g) = .func (.func g) #[] #[] := fun _ => rfl
            clear hd hs
            refine wpc ?_ (Calls.mono (all_any p b S w' HSO.out (HR.out.later hg)) fun e w2 ⟨v, he, hb, hv⟩ => ⟨v, he, _, rfl, hb, hv⟩)
            (generalize a'.eval = ev at ec ef e103 ⊢; simp [execOp, go_sem, *])
          · refine stepK_run hstab trivial (by intro j b h; cases h) ?_
            intro a' w' hg hs hd
            have e7 : a'.eval (.tmp 7) = .pointer (some ⟨y, 0, none⟩) := hs.rest 7 rfl
            have ec : ∀ v, a'.eval (.const v) = v := fun _ => rfl
            have ef : ∀ g, a'.eval (.func g) = .func (.func g) #[] #[] := fun _ => rfl
            clear hd hs
            refine wpv (v := .pointer (some ⟨y, 0, none⟩)) ?_ ⟨_, rfl, Grow.rfl' _, rfl⟩
            (generalize a'.eval = ev at ec ef e7 ⊢; simp [execOp, go_sem, *])
          · refine stepK_run hstab trivial (by intro j b h; cases h) ?_
            intro a' w' hg hs hd
            have e105 : a'.eval (.tmp 105) = .pointer (some ⟨y, 0, none⟩) := hd ⟨2, Ground.data⟩ (by simp) rfl rfl
            have ec : ∀ v, a'.eval (.const v) = v := fun _ => rfl
            have ef : ∀ g, a'.eval (.func g) = .func (.func g) #[] #[] := fun _ => rfl
            clear hd hs
            refine wpv (v := .pointer (some ⟨y, 0, none⟩)) ?_ ⟨_, rfl, Grow.rfl' _, rfl⟩
            (generalize a'.eval = ev at ec ef e105 ⊢; simp [execOp, go_sem, *])
          · refine stepK_run hstab trivial (by intro j b h; cases h) ?_
            intro a' w' hg hs hd
            have e106 : a'.eval (.tmp 106) = .pointer (some ⟨y, 0, none⟩) := hd ⟨3, Ground.data⟩ (by simp) rfl rfl
            have ec : ∀ v, a'.eval (.const v) = v := fun _ => rfl
            have ef : ∀ g, a'.eval (.func g) = .func (.func g) #[] #[] := fun _ => rfl
            clear hd hs
            refine wpv (v := .pointer (some ⟨y, 0, none⟩)) ?_ ⟨_, rfl, Grow.rfl' _, rfl⟩
            (generalize a'.eval = ev at ec ef e106 ⊢; simp [execOp, go_sem, *])
          · refine stepK_run hstab trivial (by intro j b h; cases h) ?_
            intro a' w' hg hs hd
            have e107 : a'.eval (.tmp 107) = .pointer (some ⟨y, 0, none⟩) := hd ⟨4, Ground.data⟩ (by simp) rfl rfl
            have ec : ∀ v, a'.eval (.const v) = v := fun _ => rfl
            have ef : ∀ g, a'.eval (.func g) = .func (.func g) #[] #[] := fun _ => rfl
            clear hd hs
            have hq := (HYY.out.later hg).cell0; rw [← HN.out] at hq
            refine wpv (v := .slice sT N cT) ?_ ⟨_, rfl, Grow.rfl' _, rfl⟩
            (generalize a'.eval = ev at ec ef e107 ⊢; simp [execOp, go_sem, *])
          · refine stepK_run hstab trivial (by intro j b h; cases h) ?_
            intro a' w' hg hs hd
            obtain ⟨sa104, na104, ca104, e104, h104⟩ : IsRowT S.T (a'.eval (.tmp 104)) w' := hd ⟨1, Ground.data⟩ (by simp) rfl rfl
            have e108 : a'.eval (.tmp 108) = .slice sT N cT := hd ⟨5, Ground.data⟩ (by simp) rfl rfl
            have ec : ∀ v, a'.eval (.const v) = v := fun _ => rfl
            have ef : ∀ g, a'.eval (.func g) = .func (.func g) #[] #[] := fun _ => rfl
            clear hd hs
            refine wpc ?_ (Calls.mono (sameT_any sa104 sT ca104 cT na104 N S.T S.T true (by simp) w' (by have h8 := h104.1; have h7 := HN.out; omega) h104 (by have h9 := (HYY.out.later hg).times; rw [← HN.out] at h9; exact h9)) fun e w2 ⟨he, hb⟩ => ⟨_, he, _, rfl, hb, rfl⟩)
            (generalize a'.eval = ev at ec ef e104 e108 ⊢; simp [execOp, go_sem, *])
          · refine stepK_run hstab trivial (by intro j b h; cases h) ?_
            intro a' w' hg hs hd
            have e109 : a'.eval (.tmp 109) = .bool true := hd ⟨6, Ground.data⟩ (by simp) rfl rfl
            have ec : ∀ v, a'.eval (.const v) = v := fun _ => rfl
            have ef : ∀ g, a'.eval (.func g) = .func (.func g) #[] #[] := fun _ => rfl
            clear hd hs
            refine wpv (v := .bool true) ?_ ⟨_, rfl, Grow.rfl' _, rfl⟩
            (generalize a'.eval = ev at ec ef e109 ⊢; simp [execOp, go_sem, *])
        · intro a' w' hg hs hd
          have GB := hide (Grow.trans' HG.out hg)
          have RB := hide (HR.out.later hg)
          have YB := hide (HYY.out.later hg)
          clear hg HG HR HYY
          have fz103 : a'.tmps.getD 103 undef = .pointer (some ⟨p, 0, none⟩) := hd 0 (by simp) (by intro k h; cases h); have fz105 : a'.tmps.getD 105 undef = .pointer (some ⟨y, 0, none⟩) := hd 2 (by simp) (by intro k h; cases h); have fz106 : a'.tmps.getD 106 undef = .pointer (some ⟨y, 0, none⟩) := hd 3 (by simp) (by intro k h; cases h); have fz107 : a'.tmps.getD 107 undef = .pointer (some ⟨y, 0, none⟩) := hd 4 (by simp) (by intro k h; cases h); have fz108 : a'.tmps.getD 108 undef = .slice sT N cT := hd 5 (by simp) (by intro k h; cases h); have fz109 : a'.tmps.getD 109 undef = .bool true := hd 6 (by simp) (by intro k h; cases h); have fz18 : a'.tmps.getD 18 undef = .bool true := hd 7 (by simp) (by intro k h; cases h); rw [frame_eq hs [false, false, false, false, false, false, false, false, false, false, false, false, false, false, false, false, false, false, true, false, false, false, false, false, false, false, false, false, false, false, false, false, false, false, false, false, false, false, false, false, false, false, false, false, false, false, false, false, false, false, false, false, false, false, false, false, false, false, false, false, false, false, false, false, false, false, false, false, false, false, false, false, false, false, false, false, false, false, false, false, false, false, false, false, false, false, false, false, false, false, false, false, false, false, false, false, false, false, false, false, false, false, false, true, true, true, true, true, true, true, false, false, false, false, false, false, false, false, false, false, false, false, false, false, false, false, false, false] (by kernel_rfl)]; simp only [mergeL, fz103, fz105, fz106, fz107, fz108, fz109, fz18]; clear hs hd hstab fz103 fz105 fz106 fz107 fz108 fz109 fz18; generalize a'.tmps = TT at *
          go_wp2_with fail
          refine (front_any p b S w' HSO.out RB.out).mono ?_
          rintro e w4 ⟨v, rfl, hb, sA, nA, cA, rfl, hI⟩
          have G4 := hide (Grow.trans' GB.out hb)
          have R4 := hide (RB.out.later hb)
          have Y4 := hide (YB.out.later hb)
          have I4 := hide hI
          have hnA : nA ≤ 400 := by have h1 := hI.1; have h2 := Cs.front_len HSO.out; omega
          clear hb hI GB RB YB
          go_wp2_with fail
          refine (rfront_any y S sT sN cT cN w4 HSO.out Y4.out).mono ?_
          rintro e w5 ⟨v, rfl, hb, sB, nB, cB, rfl, hI⟩
          have G5 := hide (Grow.trans' G4.out hb)
          have R5 := hide (R4.out.later hb)
          have Y5 := hide (Y4.out.later hb)
          have C5 := hide (sameT_any sA sB cA cB nA nB S.front S.front true (by simp) w5 (by omega) (I4.out.later hb) hI)
          clear hb hI G4 R4 Y4 I4
          go_wp2_with fail
          refine (C5.out).mono ?_
          rintro e w6 ⟨rfl, hb⟩
          have G6 := hide (Grow.trans' G5.out hb)
          have R6 := hide (R5.out.later hb)
          have Y6 := hide (Y5.out.later hb)
          clear hb G5 R5 Y5 C5
          go_wp2_with fail
          let FF : Nat → Value → World → Prop := fun i vF wF => match i with | 0 => vF = .bool true | 1 => vF = .bool true | 2 => vF = .bool true | 3 => vF = .bool true | 4 => vF = .bool true | 5 => vF = .pointer (some ⟨p, 0, none⟩) | 6 => vF = .agg #[.int .i64 t.e, .int .i64 t.d, .int .i64 t.x, .int .i64 t.y, .int .i64 t.z] | 7 => vF = .int .i64 c | 8 => vF = .pointer (some ⟨y, 0, none⟩) | 9 => vF = .agg #[.int .i64 t.e, .int .i64 t.d, .int .i64 t.x, .int .i64 t.y, .int .i64 t.z] | 10 => vF = .int .i64 c | 11 => vF = .bool true | 12 => vF = .bool true | 13 => vF = .bool true | _ => True
          have hstab : ∀ k v w1 w2, Grow w1 w2 → FF k v w1 → FF k v w2 := by
            intro k v w1 w2 hg h
            match k with
            | 0 => exact h
            | 1 => exact h
            | 2 => exact h
            | 3 => exact h
            | 4 => exact h
            | 5 => exact h
            | 6 => exact h
            | 7 => exact h
            | 8 => exact h
            | 9 => exact h
            | 10 => exact h
            | 11 => exact h
            | 12 => exact h
            | 13 => exact h
            | k + 14 => exact trivial
          refine wp_region_invK FF (fun _ => none) (by kernel_rfl) (by kernel_rfl) ?_ ?_
          · refine ⟨?_, ?_, ?_, ?_, ?_, ?_, ?_, ?_, ?_, ?_, ?_, ?_, ?_, ?_, trivial⟩
            · refine stepK_run hstab trivial (by intro j b h; cases h) ?_
              intro a' w' hg hs hd
              have e18 : a'.eval (.tmp 18) = .bool true := hs.rest 18 rfl
              have ec : ∀ v, a'.eval (.const v) = v := fun _ => rfl
              have ef : ∀ g, a'.eval (.func g) = .func (.func g) #[] #[] := fun _ => rfl
              clear hd hs
              refine wpv (v := .bool true) ?_ ⟨_, rfl, Grow.rfl' _, rfl⟩
              (generalize a'.eval = ev at ec ef e18 ⊢; simp [execOp, go_sem, *])
            · refine stepK_run hstab trivial (by intro j b h; cases h) ?_
              intro a' w' hg hs hd
              have e115 : a'.eval (.tmp 115) = .bool true := hd ⟨0, Ground.data⟩ (by simp) rfl rfl
              have ec : ∀ v, a'.eval (.const v) = v := fun _ => rfl
              have ef : ∀ g, a'.eval (.func g) = .func (.func g) #[] #[] := fun _ => rfl
              clear hd hs
              refine wpv (v := .bool true) ?_ ⟨_, rfl, Grow.rfl' _, rfl⟩
              (generalize a'.eval = ev at ec ef e115 ⊢; simp [execOp, go_sem, *])
            · refine stepK_run hstab ⟨⟨⟨1, Ground.guard⟩, by simp, rfl, rfl⟩, fun _ _ h => h⟩ (by intro j b h; cases h; rfl) ?_
              intro a' w' hg hs hd
              have e19 : a'.eval (.tmp 19) = .bool true := hs.rest 19 rfl
              have ec : ∀ v, a'.eval (.const v) = v := fun _ => rfl
              have ef : ∀ g, a'.eval (.func g) = .func (.func g) #[] #[] := fun _ => rfl
              clear hd hs
              refine wpv (v := .bool true) ?_ ⟨_, rfl, Grow.rfl' _, rfl⟩
              (generalize a'.eval = ev at ec ef e19 ⊢; simp [execOp, go_sem, *])
            · refine stepK_run hstab trivial (by intro j b h; cases h) ?_
              intro a' w' hg hs hd
              have e116 : a'.eval (.tmp 116) = .bool true := hd ⟨1, Ground.data⟩ (by simp) rfl rfl
              have e117 : a'.eval (.tmp 117) = .bool true := hd ⟨2, Ground.data⟩ (by simp) rfl rfl
              have ec : ∀ v, a'.eval (.const v) = v := fun _ => rfl
              have ef : ∀ g, a'.eval (.func g) = .func (.func g) #[] #[] := fun _ => rfl
              clear hd hs
              refine wpv (v := .bool true) ?_ ⟨_, rfl, Grow.rfl' _, rfl⟩
              (generalize a'.eval = ev at ec ef e116 e117 ⊢; simp [execOp, go_sem, *])
            · refine stepK_run hstab trivial (by intro j b h; cases h) ?_
              intro a' w' hg hs hd
              have e118 : a'.eval (.tmp 118) = .bool true := hd ⟨3, Ground.data⟩ (by simp) rfl rfl
              have ec : ∀ v, a'.eval (.const v) = v := fun _ => rfl
              have ef : ∀ g, a'.eval (.func g) = .func (.func g) #[] #[] := fun _ => rfl
              clear hd hs
              refine wpv (v := .bool true) ?_ ⟨_, rfl, Grow.rfl' _, rfl⟩
              (generalize a'.eval = ev at ec ef e118 ⊢; simp [execOp, go_sem, *])
            · refine stepK_run hstab ⟨⟨⟨4, Ground.guard⟩, by simp, rfl, rfl⟩, fun _ _ h => h⟩ (by intro j b h; cases h; rfl) ?_
              intro a' w' hg hs hd
              have e6 : a'.eval (.tmp 6) = .pointer (some ⟨p, 0, none⟩) := hs.rest 6 rfl
              have ec : ∀ v, a'.eval (.const v) = v := fun _ => rfl
              have ef : ∀ g, a'.eval (.func g) = .func (.func g) #[] #[] := fun _ => rfl
              clear hd hs
              refine wpv (v := .pointer (some ⟨p, 0, none⟩)) ?_ ⟨_, rfl, Grow.rfl' _, rfl⟩
              (generalize a'.eval = ev at ec ef e6 ⊢; simp [execOp, go_sem, *])
            · refine stepK_run hstab ⟨⟨⟨4, Ground.guard⟩, by simp, rfl, rfl⟩, fun _ _ h => h⟩ (by intro j b h; cases h; rfl) ?_
              intro a' w' hg hs hd
              have e3 : a'.eval (.tmp 3) = .pointer (some ⟨w.heap.size, 0, none⟩) := hs.rest 3 rfl
              have ec : ∀ v, a'.eval (.const v) = v := fun _ => rfl
              have ef : ∀ g, a'.eval (.func g) = .func (.func g) #[] #[] := fun _ => rfl
              clear hd hs
              obtain ⟨x0, x1, x2, x3, x4⟩ := KX.out.later (Grow.trans' G6.out hg)
              refine wpv (v := .agg #[.int .i64 t.e, .int .i64 t.d, .int .i64 t.x, .int .i64 t.y, .int .i64 t.z]) ?_ ⟨_, rfl, Grow.rfl' _, rfl⟩
              (generalize a'.eval = ev at ec ef e3 ⊢; simp [execOp, go_sem, *])
            · refine stepK_run hstab ⟨⟨⟨4, Ground.chain⟩, by simp, rfl, rfl⟩, fun _ _ h => h⟩ (by intro j b h; cases h; rfl) ?_
              intro a' w' hg hs hd
              have e120 : a'.eval (.tmp 120) = .pointer (some ⟨p, 0, none⟩) := hd ⟨5, Ground.data⟩ (by simp) rfl rfl
              have e121 : a'.eval (.tmp 121) = .agg #[.int .i64 t.e, .int .i64 t.d, .int .i64 t.x, .int .i64 t.y, .int .i64 t.z] := hd ⟨6, Ground.data⟩ (by simp) rfl rfl
              have ec : ∀ v, a'.eval (.const v) = v := fun _ => rfl
              have ef : ∀ g, a'.eval (.func g) = .func (.func g) #[] #[] := fun _ => rfl
              clear hd hs
              refine wpc ?_ (Calls.mono (count_at p b S t HC.out w' HW.out (R6.out.later hg)) fun e w2 ⟨he, hb⟩ => ⟨_, he, _, rfl, hb, rfl⟩)
              (generalize a'.eval = ev at ec ef e120 e121 ⊢; simp [execOp, go_sem, *])
            · refine stepK_run hstab ⟨⟨⟨4, Ground.guard⟩, by simp, rfl, rfl⟩, fun _ _ h => h⟩ (by intro j b h; cases h; rfl) ?_
              intro a' w' hg hs hd
              have e7 : a'.eval (.tmp 7) = .pointer (some ⟨y, 0, none⟩) := hs.rest 7 rfl
              have ec : ∀ v, a'.eval (.const v) = v := fun _ => rfl
              have ef : ∀ g, a'.eval (.func g) = .func (.func g) #[] #[] := fun _ => rfl
              clear hd hs
              refine wpv (v := .pointer (some ⟨y, 0, none⟩)) ?_ ⟨_, rfl, Grow.rfl' _, rfl⟩
              (generalize a'.eval = ev at ec ef e7 ⊢; simp [execOp, go_sem, *])
            · refine stepK_run hstab ⟨⟨⟨4, Ground.guard⟩, by simp, rfl, rfl⟩, fun _ _ h => h⟩ (by intro j b h; cases h; rfl) ?_
              intro a' w' hg hs hd
              have e3 : a'.eval (.tmp 3) = .pointer (some ⟨w.heap.size, 0, none⟩) := hs.rest 3 rfl
              have ec : ∀ v, a'.eval (.const v) = v := fun _ => rfl
              have ef : ∀ g, a'.eval (.func g) = .func (.func g) #[] #[] := fun _ => rfl
              clear hd hs
              obtain ⟨x0, x1, x2, x3, x4⟩ := KX.out.later (Grow.trans' G6.out hg)
              refine wpv (v := .agg #[.int .i64 t.e, .int .i64 t.d, .int .i64 t.x, .int .i64 t.y, .int .i64 t.z]) ?_ ⟨_, rfl, Grow.rfl' _, rfl⟩
              (generalize a'.eval = ev at ec ef e3 ⊢; simp [execOp, go_sem, *])
            · refine stepK_run hstab ⟨⟨⟨4, Ground.guard⟩, by simp, rfl, rfl⟩, fun _ _ h => h⟩ (by intro j b h; cases h; rfl) ?_
              intro a' w' hg hs hd
              have e123 : a'.eval (.tmp 123) = .pointer (some ⟨y, 0, none⟩) := hd ⟨8, Ground.data⟩ (by simp) rfl rfl
              have e124 : a'.eval (.tmp 124) = .agg #[.int .i64 t.e, .int .i64 t.d, .int .i64 t.x, .int .i64 t.y, .int .i64 t.z] := hd ⟨9, Ground.data⟩ (by simp) rfl rfl
              have ec : ∀ v, a'.eval (.const v) = v := fun _ => rfl
              have ef : ∀ g, a'.eval (.func g) = .func (.func g) #[] #[] := fun _ => rfl
              clear hd hs
              refine wpc ?_ (Calls.mono (rcount_any y S sT sN cT cN t HC.out w' HSO.out (Y6.out.later hg)) fun e w2 ⟨he, hb⟩ => ⟨_, he, _, rfl, hb, rfl⟩)
              (generalize a'.eval = ev at ec ef e123 e124 ⊢; simp [execOp, go_sem, *])
            · refine stepK_run hstab ⟨⟨⟨4, Ground.guard⟩, by simp, rfl, rfl⟩, fun _ _ h => h⟩ (by intro j b h; cases h; rfl) ?_
              intro a' w' hg hs hd
              have e122 : a'.eval (.tmp 122) = .int .i64 c := hd ⟨7, Ground.data⟩ (by simp) rfl rfl
              have e125 : a'.eval (.tmp 125) = .int .i64 c := hd ⟨10, Ground.data⟩ (by simp) rfl rfl
              have ec : ∀ v, a'.eval (.const v) = v := fun _ => rfl
              have ef : ∀ g, a'.eval (.func g) = .func (.func g) #[] #[] := fun _ => rfl
              clear hd hs
              refine wpv (v := .bool true) ?_ ⟨_, rfl, Grow.rfl' _, rfl⟩
              (generalize a'.eval = ev at ec ef e122 e125 ⊢; simp [execOp, go_sem, *])
            · refine stepK_run hstab trivial (by intro j b h; cases h) ?_
              intro a' w' hg hs hd
              have e119 : a'.eval (.tmp 119) = .bool true := hd ⟨4, Ground.data⟩ (by simp) rfl rfl
              have e126 : a'.eval (.tmp 126) = .bool true := hd ⟨11, Ground.data⟩ (by simp) rfl rfl
              have ec : ∀ v, a'.eval (.const v) = v := fun _ => rfl
              have ef : ∀ g, a'.eval (.func g) = .func (.func g) #[] #[] := fun _ => rfl
              clear hd hs
              refine wpv (v := .bool true) ?_ ⟨_, rfl, Grow.rfl' _, rfl⟩
              (generalize a'.eval = ev at ec ef e119 e126 ⊢; simp [execOp, go_sem, *])
            · refine stepK_run hstab trivial (by intro j b h; cases h) ?_
              intro a' w' hg hs hd
              have e127 : a'.eval (.tmp 127) = .bool true := hd ⟨12, Ground.data⟩ (by simp) rfl rfl
              have ec : ∀ v, a'.eval (.const v) = v := fun _ => rfl
              have ef : ∀ g, a'.eval (.func g) = .func (.func g) #[] #[] := fun _ => rfl
              clear hd hs
              refine wpv (v := .bool true) ?_ ⟨_, rfl, Grow.rfl' _, rfl⟩
              (generalize a'.eval = ev at ec ef e127 ⊢; simp [execOp, go_sem, *])
          · intro a' w' hg hs hd
            have e4 : a'.eval (.tmp 4) = .bool true := hd 13 (by simp) (by intro k h; cases h)
            go_wp2_with fail
            refine bodyPost_ret (v := .bool true) ?_ (by rw [hs.defers]) ⟨rfl, Grow.trans' G0.out (Grow.trans' G6.out hg)⟩
            clear hd hs hstab
            simpa [results, Try.results3, Act.eval] using e4
      · skip
        let FF : Nat → Value → World → Prop := fun i vF wF => match i with | 0 => vF = .pointer (some ⟨p, 0, none⟩) | 1 => IsRowT S.T vF wF | 2 => vF = .pointer (some ⟨y, 0, none⟩) | 3 => vF = .pointer (some ⟨y, 0, none⟩) | 4 => vF = .pointer (some ⟨y, 0, none⟩) | 5 => vF = .slice sT N cT | 6 => vF = .bool true | 7 => vF = .bool true | _ => True
        have hstab : ∀ k v w1 w2, Grow w1 w2 → FF k v w1 → FF k v w2 := by
          intro k v w1 w2 hg h
          match k with
          | 0 => exact h
          | 1 => exact IsRowT.later hg h
          | 2 => exact h
          | 3 => exact h
          | 4 => exact h
          | 5 => exact h
          | 6 => exact h
          | 7 => exact h
          | k + 8 => exact trivial
        refine wp_region_invK FF (fun _ => none) (by kernel_rfl) (by kernel_rfl) ?_ ?_
        · refine ⟨?_, ?_, ?_, ?_, ?_, ?_, ?_, ?_, trivial⟩
          · refine stepK_run hstab trivial (by intro j b h; cases h) ?_
            intro a' w' hg hs hd
            have e6 : a'.eval (.tmp 6) = .pointer (some ⟨p, 0, none⟩) := hs.rest 6 rfl
            have ec : ∀ v, a'.eval (.const v) = v := fun _ => rfl
            have ef : ∀ g, a'.eval (.func g) = .func (.func g) #[] #[] := fun _ => rfl
            clear hd hs
            refine wpv (v := .pointer (some ⟨p, 0, none⟩)) ?_ ⟨_, rfl, Grow.rfl' _, rfl⟩
            (generalize a'.eval = ev at ec ef e6 ⊢; simp [execOp, go_sem, *])
          · refine stepK_run hstab trivial (by intro j b h; cases h) ?_
            intro a' w' hg hs hd
            have e103 : a'.eval (.tmp 103) = .pointer (some ⟨p, 0, none⟩) := hd ⟨0, Ground.data⟩ (by simp) rfl rfl
            have ec : ∀ v, a'.eval (.const v) = v := fun _ => rfl
            have ef : ∀ g, a'.eval (.func g) = .func (.func g) #[] #[] := fun _ => rfl
            clear hd hs
            refine wpc ?_ (Calls.mono (all_any p b S w' HSO.out (HR.out.later hg)) fun e w2 ⟨v, he, hb, hv⟩ => ⟨v, he, _, rfl, hb, hv⟩)
            (generalize a'.eval = ev at ec ef e103 ⊢; simp [execOp, go_sem, *])
          · refine stepK_run hstab trivial (by intro j b h; cases h) ?_
            intro a' w' hg hs hd
            have e7 : a'.eval (.tmp 7) = .pointer (some ⟨y, 0, none⟩) := hs.rest 7 rfl
            have ec : ∀ v, a'.eval (.const v) = v := fun _ => rfl
            have ef : ∀ g, a'.eval (.func g) = .func (.func g) #[] #[] := fun _ => rfl
            clear hd hs
            refine wpv (v := .pointer (some ⟨y, 0, none⟩)) ?_ ⟨_, rfl, Grow.rfl' _, rfl⟩
            (generalize a'.eval = ev at ec ef e7 ⊢; simp [execOp, go_sem, *])
          · refine stepK_run hstab trivial (by intro j b h; cases h) ?_
            intro a' w' hg hs hd
            have e105 : a'.eval (.tmp 105) = .pointer (some ⟨y, 0, none⟩) := hd ⟨2, Ground.data⟩ (by simp) rfl rfl
            have ec : ∀ v, a'.eval (.const v) = v := fun _ => rfl
            have ef : ∀ g, a'.eval (.func g) = .func (.func g) #[] #[] := fun _ => rfl
            clear hd hs
            refine wpv (v := .pointer (some ⟨y, 0, none⟩)) ?_ ⟨_, rfl, Grow.rfl' _, rfl⟩
            (generalize a'.eval = ev at ec ef e105 ⊢; simp [execOp, go_sem, *])
          · refine stepK_run hstab trivial (by intro j b h; cases h) ?_
            intro a' w' hg hs hd
            have e106 : a'.eval (.tmp 106) = .pointer (some ⟨y, 0, none⟩) := hd ⟨3, Ground.data⟩ (by simp) rfl rfl
            have ec : ∀ v, a'.eval (.const v) = v := fun _ => rfl
            have ef : ∀ g, a'.eval (.func g) = .func (.func g) #[] #[] := fun _ => rfl
            clear hd hs
            refine wpv (v := .pointer (some ⟨y, 0, none⟩)) ?_ ⟨_, rfl, Grow.rfl' _, rfl⟩
            (generalize a'.eval = ev at ec ef e106 ⊢; simp [execOp, go_sem, *])
          · refine stepK_run hstab trivial (by intro j b h; cases h) ?_
            intro a' w' hg hs hd
            have e107 : a'.eval (.tmp 107) = .pointer (some ⟨y, 0, none⟩) := hd ⟨4, Ground.data⟩ (by simp) rfl rfl
            have ec : ∀ v, a'.eval (.const v) = v := fun _ => rfl
            have ef : ∀ g, a'.eval (.func g) = .func (.func g) #[] #[] := fun _ => rfl
            clear hd hs
            have hq := (HYY.out.later hg).cell0; rw [← HN.out] at hq
            refine wpv (v := .slice sT N cT) ?_ ⟨_, rfl, Grow.rfl' _, rfl⟩
            (generalize a'.eval = ev at ec ef e107 ⊢; simp [execOp, go_sem, *])
          · refine stepK_run hstab trivial (by intro j b h; cases h) ?_
            intro a' w' hg hs hd
            obtain ⟨sa104, na104, ca104, e104, h104⟩ : IsRowT S.T (a'.eval (.tmp 104)) w' := hd ⟨1, Ground.data⟩ (by simp) rfl rfl
            have e108 : a'.eval (.tmp 108) = .slice sT N cT := hd ⟨5, Ground.data⟩ (by simp) rfl rfl
            have ec : ∀ v, a'.eval (.const v) = v := fun _ => rfl
            have ef : ∀ g, a'.eval (.func g) = .func (.func g) #[] #[] := fun _ => rfl
            clear hd hs
            refine wpc ?_ (Calls.mono (sameT_any sa104 sT ca104 cT na104 N S.T S.T true (by simp) w' (by have h8 := h104.1; have h7 := HN.out; omega) h104 (by have h9 := (HYY.out.later hg).times; rw [← HN.out] at h9; exact h9)) fun e w2 ⟨he, hb⟩ => ⟨_, he, _, rfl, hb, rfl⟩)
            (generalize a'.eval = ev at ec ef e104 e108 ⊢; simp [execOp, go_sem, *])
          · refine stepK_run hstab trivial (by intro j b h; cases h) ?_
            intro a' w' hg hs hd
            have e109 : a'.eval (.tmp 109) = .bool true := hd ⟨6, Ground.data⟩ (by simp) rfl rfl
            have ec : ∀ v, a'.eval (.const v) = v := fun _ => rfl
            have ef : ∀ g, a'.eval (.func g) = .func (.func g) #[] #[] := fun _ => rfl
            clear hd hs
            refine wpv (v := .bool true) ?_ ⟨_, rfl, Grow.rfl' _, rfl⟩
            (generalize a'.eval = ev at ec ef e109 ⊢; simp [execOp, go_sem, *])
        · intro a' w' hg hs hd
          have GB := hide (Grow.trans' HG.out hg)
          have RB := hide (HR.out.later hg)
          have YB := hide (HYY.out.later hg)
          clear hg HG HR HYY
          have fz103 : a'.tmps.getD 103 undef = .pointer (some ⟨p, 0, none⟩) := hd 0 (by simp) (by intro k h; cases h); have fz105 : a'.tmps.getD 105 undef = .pointer (some ⟨y, 0, none⟩) := hd 2 (by simp) (by intro k h; cases h); have fz106 : a'.tmps.getD 106 undef = .pointer (some ⟨y, 0, none⟩) := hd 3 (by simp) (by intro k h; cases h); have fz107 : a'.tmps.getD 107 undef = .pointer (some ⟨y, 0, none⟩) := hd 4 (by simp) (by intro k h; cases h); have fz108 : a'.tmps.getD 108 undef = .slice sT N cT := hd 5 (by simp) (by intro k h; cases h); have fz109 : a'.tmps.getD 109 undef = .bool true := hd 6 (by simp) (by intro k h; cases h); have fz18 : a'.tmps.getD 18 undef = .bool true := hd 7 (by simp) (by intro k h; cases h); rw [frame_eq hs [false, false, false, false, false, false, false, false, false, false, false, false, false, false, false, false, false, false, true, false, false, false, false, false, false, false, false, false, false, false, false, false, false, false, false, false, false, false, false, false, false, false, false, false, false, false, false, false, false, false, false, false, false, false, false, false, false, false, false, false, false, false, false, false, false, false, false, false, false, false, false, false, false, false, false, false, false, false, false, false, false, false, false, false, false, false, false, false, false, false, false, false, false, false, false, false, false, false, false, false, false, false, false, true, true, true, true, true, true, true, false, false, false, false, false, false, false, false, false, false, false, false, false, false, false, false, false, false] (by kernel_rfl)]; simp only [mergeL, fz103, fz105, fz106, fz107, fz108, fz109, fz18]; clear hs hd hstab fz103 fz105 fz106 fz107 fz108 fz109 fz18; generalize a'.tmps = TT at *
          go_wp2_with fail
          refine (front_any p b S w' HSO.out RB.out).mono ?_
          rintro e w4 ⟨v, rfl, hb, sA, nA, cA, rfl, hI⟩
          have G4 := hide (Grow.trans' GB.out hb)
          have R4 := hide (RB.out.later hb)
          have Y4 := hide (YB.out.later hb)
          have I4 := hide hI
          have hnA : nA ≤ 400 := by have h1 := hI.1; have h2 := Cs.front_len HSO.out; omega
          clear hb hI GB RB YB
          go_wp2_with fail
          refine (rfront_any y S sT sN cT cN w4 HSO.out Y4.out).mono ?_
          rintro e w5 ⟨v, rfl, hb, sB, nB, cB, rfl, hI⟩
          have G5 := hide (Grow.trans' G4.out hb)
          have R5 := hide (R4.out.later hb)
          have Y5 := hide (Y4.out.later hb)
          have C5 := hide (sameT_any sA sB cA cB nA nB S.front S.front true (by simp) w5 (by omega) (I4.out.later hb) hI)
          clear hb hI G4 R4 Y4 I4
          go_wp2_with fail
          refine (C5.out).mono ?_
          rintro e w6 ⟨rfl, hb⟩
          have G6 := hide (Grow.trans' G5.out hb)
          have R6 := hide (R5.out.later hb)
          have Y6 := hide (Y5.out.later hb)
          clear hb G5 R5 Y5 C5
          go_wp2_with fail
          let FF : Nat → Value → World → Prop := fun i vF wF => match i with | 0 => vF = .bool true | 1 => vF = .bool true | 2 => vF = .bool true | 3 => vF = .bool true | 4 => vF = .bool true | 5 => vF = .pointer (some ⟨p, 0, none⟩) | 6 => vF = .agg #[.int .i64 t.e, .int .i64 t.d, .int .i64 t.x, .int .i64 t.y, .int .i64 t.z] | 7 => vF = .int .i64 c | 8 => vF = .pointer (some ⟨y, 0, none⟩) | 9 => vF = .agg #[.int .i64 t.e, .int .i64 t.d, .int .i64 t.x, .int .i64 t.y, .int .i64 t.z] | 10 => vF = .int .i64 c | 11 => vF = .bool true | 12 => vF = .bool true | 13 => vF = .bool true | _ => True
          have hstab : ∀ k v w1 w2, Grow w1 w2 → FF k v w1 → FF k v w2 := by
            intro k v w1 w2 hg h
            match k with
            | 0 => exact h
            | 1 => exact h
            | 2 => exact h
            | 3 => exact h
            | 4 => exact h
            | 5 => exact h
            | 6 => exact h
            | 7 => exact h
            | 8 => exact h
            | 9 => exact h
            | 10 => exact h
            | 11 => exact h
            | 12 => exact h
            | 13 => exact h
            | k + 14 => exact trivial
          refine wp_region_invK FF (fun _ => none) (by kernel_rfl) (by kernel_rfl) ?_ ?_
          · refine ⟨?_, ?_, ?_, ?_, ?_, ?_, ?_, ?_, ?_, ?_, ?_, ?_, ?_, ?_, trivial⟩
            · refine stepK_run hstab trivial (by intro j b h; cases h) ?_
              intro a' w' hg hs hd
              have e18 : a'.eval (.tmp 18) = .bool true := hs.rest 18 rfl
              have ec : ∀ v, a'.eval (.const v) = v := fun _ => rfl
              have ef : ∀ g, a'.eval (.func g) = .func (.func g) #[] #[] := fun _ => rfl
              clear hd hs
              refine wpv (v := .bool true) ?_ ⟨_, rfl, Grow.rfl' _, rfl⟩
              (generalize a'.eval = ev at ec ef e18 ⊢; simp [execOp, go_sem, *])
            · refine stepK_run hstab trivial (by intro j b h; cases h) ?_
              intro a' w' hg hs hd
              have e115 : a'.eval (.tmp 115) = .bool true := hd ⟨0, Ground.data⟩ (by simp) rfl rfl
              have ec : ∀ v, a'.eval (.const v) = v := fun _ => rfl
              have ef : ∀ g, a'.eval (.func g) = .func (.func g) #[] #[] := fun _ => rfl
              clear hd hs
              refine wpv (v := .bool true) ?_ ⟨_, rfl, Grow.rfl' _, rfl⟩
              (generalize a'.eval = ev at ec ef e115 ⊢; simp [execOp, go_sem, *])
            · refine stepK_run hstab ⟨⟨⟨1, Ground.guard⟩, by simp, rfl, rfl⟩, fun _ _ h => h⟩ (by intro j b h; cases h; rfl) ?_
              intro a' w' hg hs hd
              have e19 : a'.eval (.tmp 19) = .bool true := hs.rest 19 rfl
              have ec : ∀ v, a'.eval (.const v) = v := fun _ => rfl
              have ef : ∀ g, a'.eval (.func g) = .func (.func g) #[] #[] := fun _ => rfl
              clear hd hs
              refine wpv (v := .bool true) ?_ ⟨_, rfl, Grow.rfl' _, rfl⟩
              (generalize a'.eval = ev at ec ef e19 ⊢; simp [execOp, go_sem, *])
            · refine stepK_run hstab trivial (by intro j b h; cases h) ?_
              intro a' w' hg hs hd
              have e116 : a'.eval (.tmp 116) = .bool true := hd ⟨1, Ground.data⟩ (by simp) rfl rfl
              have e117 : a'.eval (.tmp 117) = .bool true := hd ⟨2, Ground.data⟩ (by simp) rfl rfl
              have ec : ∀ v, a'.eval (.const v) = v := fun _ => rfl
              have ef : ∀ g, a'.eval (.func g) = .func (.func g) #[] #[] := fun _ => rfl
              clear hd hs
              refine wpv (v := .bool true) ?_ ⟨_, rfl, Grow.rfl' _, rfl⟩
              (generalize a'.eval = ev at ec ef e116 e117 ⊢; simp [execOp, go_sem, *])
            · refine stepK_run hstab trivial (by intro j b h; cases h) ?_
              intro a' w' hg hs hd
              have e118 : a'.eval (.tmp 118) = .bool true := hd ⟨3, Ground.data⟩ (by simp) rfl rfl
              have ec : ∀ v, a'.eval (.const v) = v := fun _ => rfl
              have ef : ∀ g, a'.eval (.func g) = .func (.func g) #[] #[] := fun _ => rfl
              clear hd hs
              refine wpv (v := .bool true) ?_ ⟨_, rfl, Grow.rfl' _, rfl⟩
              (generalize a'.eval = ev at ec ef e118 ⊢; simp [execOp, go_sem, *])
            · refine stepK_run hstab ⟨⟨⟨4, Ground.guard⟩, by simp, rfl, rfl⟩, fun _ _ h => h⟩ (by intro j b h; cases h; rfl) ?_
              intro a' w' hg hs hd
              have e6 : a'.eval (.tmp 6) = .pointer (some ⟨p, 0, none⟩) := hs.rest 6 rfl
              have ec : ∀ v, a'.eval (.const v) = v := fun _ => rfl
              have ef : ∀ g, a'.eval (.func g) = .func (.func g) #[] #[] := fun _ => rfl
              clear hd hs
              refine wpv (v := .pointer (some ⟨p, 0, none⟩)) ?_ ⟨_, rfl, Grow.rfl' _, rfl⟩
              (generalize a'.eval = ev at ec ef e6 ⊢; simp [execOp, go_sem, *])
            · refine stepK_run hstab ⟨⟨⟨4, Ground.guard⟩, by simp, rfl, rfl⟩, fun _ _ h => h⟩ (by intro j b h; cases h; rfl) ?_
              intro a' w' hg hs hd
              have e3 : a'.eval (.tmp 3) = .pointer (some ⟨w.heap.size, 0, none⟩) := hs.rest 3 rfl
              have ec : ∀ v, a'.eval (.const v) = v := fun _ => rfl
              have ef : ∀ g, a'.eval (.func g) = .func (.func g) #[] #[] := fun _ => rfl
              clear hd hs
              obtain ⟨x0, x1, x2, x3, x4⟩ := KX.out.later (Grow.trans' G6.out hg)
              refine wpv (v := .agg #[.int .i64 t.e, .int .i64 t.d, .int .i64 t.x, .int .i64 t.y, .int .i64 t.z]) ?_ ⟨_, rfl, Grow.rfl' _, rfl⟩
              (generalize a'.eval = ev at ec ef e3 ⊢; simp [execOp, go_sem, *])
            · refine stepK_run hstab ⟨⟨⟨4, Ground.chain⟩, by simp, rfl, rfl⟩, fun _ _ h => h⟩ (by intro j b h; cases h; rfl) ?_
              intro a' w' hg hs hd
              have e120 : a'.eval (.tmp 120) = .pointer (some ⟨p, 0, none⟩) := hd ⟨5, Ground.data⟩ (by simp) rfl rfl
              have e121 : a'.eval (.tmp 121) = .agg #[.int .i64 t.e, .int .i64 t.d, .int .i64 t.x, .int .i64 t.y, .int .i64 t.z] := hd ⟨6, Ground.data⟩ (by simp) rfl rfl
              have ec : ∀ v, a'.eval (.const v) = v := fun _ => rfl
              have ef : ∀ g, a'.eval (.func g) = .func (.func g) #[] #[] := fun _ => rfl
              clear hd hs
              refine wpc ?_ (Calls.mono (count_at p b S t HC.out w' HW.out (R6.out.later hg)) fun e w2 ⟨he, hb⟩ => ⟨_, he, _, rfl, hb, rfl⟩)
              (generalize a'.eval = ev at ec ef e120 e121 ⊢; simp [execOp, go_sem, *])
            · refine stepK_run hstab ⟨⟨⟨4, Ground.guard⟩, by simp, rfl, rfl⟩, fun _ _ h => h⟩ (by intro j b h; cases h; rfl) ?_
              intro a' w' hg hs hd
              have e7 : a'.eval (.tmp 7) = .pointer (some ⟨y, 0, none⟩) := hs.rest 7 rfl
              have ec : ∀ v, a'.eval (.const v) = v := fun _ => rfl
              have ef : ∀ g, a'.eval (.func g) = .func (.func g) #[] #[] := fun _ => rfl
              clear hd hs
              refine wpv (v := .pointer (some ⟨y, 0, none⟩)) ?_ ⟨_, rfl, Grow.rfl' _, rfl⟩
              (generalize a'.eval = ev at ec ef e7 ⊢; simp [execOp, go_sem, *])
            · refine stepK_run hstab ⟨⟨⟨4, Ground.guard⟩, by simp, rfl, rfl⟩, fun _ _ h => h⟩ (by intro j b h; cases h; rfl) ?_
              intro a' w' hg hs hd
              have e3 : a'.eval (.tmp 3) = .pointer (some ⟨w.heap.size, 0, none⟩) := hs.rest 3 rfl
              have ec : ∀ v, a'.eval (.const v) = v := fun _ => rfl
              have ef : ∀ g, a'.eval (.func g) = .func (.func g) #[] #[] := fun _ => rfl
              clear hd hs
              obtain ⟨x0, x1, x2, x3, x4⟩ := KX.out.later (Grow.trans' G6.out hg)
              refine wpv (v := .agg #[.int .i64 t.e, .int .i64 t.d, .int .i64 t.x, .int .i64 t.y, .int .i64 t.z]) ?_ ⟨_, rfl, Grow.rfl' _, rfl⟩
              (generalize a'.eval = ev at ec ef e3 ⊢; simp [execOp, go_sem, *])
            · refine stepK_run hstab ⟨⟨⟨4, Ground.guard⟩, by simp, rfl, rfl⟩, fun _ _ h => h⟩ (by intro j b h; cases h; rfl) ?_
              intro a' w' hg hs hd
              have e123 : a'.eval (.tmp 123) = .pointer (some ⟨y, 0, none⟩) := hd ⟨8, Ground.data⟩ (by simp) rfl rfl
              have e124 : a'.eval (.tmp 124) = .agg #[.int .i64 t.e, .int .i64 t.d, .int .i64 t.x, .int .i64 t.y, .int .i64 t.z] := hd ⟨9, Ground.data⟩ (by simp) rfl rfl
              have ec : ∀ v, a'.eval (.const v) = v := fun _ => rfl
              have ef : ∀ g, a'.eval (.func g) = .func (.func g) #[] #[] := fun _ => rfl
              clear hd hs
              refine wpc ?_ (Calls.mono (rcount_any y S sT sN cT cN t HC.out w' HSO.out (Y6.out.later hg)) fun e w2 ⟨he, hb⟩ => ⟨_, he, _, rfl, hb, rfl⟩)
              (generalize a'.eval = ev at ec ef e123 e124 ⊢; simp [execOp, go_sem, *])
            · refine stepK_run hstab ⟨⟨⟨4, Ground.guard⟩, by simp, rfl, rfl⟩, fun _ _ h => h⟩ (by intro j b h; cases h; rfl) ?_
              intro a' w' hg hs hd
              have e122 : a'.eval (.tmp 122) = .int .i64 c := hd ⟨7, Ground.data⟩ (by simp) rfl rfl
              have e125 : a'.eval (.tmp 125) = .int .i64 c := hd ⟨10, Ground.data⟩ (by simp) rfl rfl
              have ec : ∀ v, a'.eval (.const v) = v := fun _ => rfl
              have ef : ∀ g, a'.eval (.func g) = .func (.func g) #[] #[] := fun _ => rfl
              clear hd hs
              refine wpv (v := .bool true) ?_ ⟨_, rfl, Grow.rfl' _, rfl⟩
              (generalize a'.eval = ev at ec ef e122 e125 ⊢; simp [execOp, go_sem, *])
            · refine stepK_run hstab trivial (by intro j b h; cases h) ?_
              intro a' w' hg hs hd
              have e119 : a'.eval (.tmp 119) = .bool true := hd ⟨4, Ground.data⟩ (by simp) rfl rfl
              have e126 : a'.eval (.tmp 126) = .bool true := hd ⟨11, Ground.data⟩ (by simp) rfl rfl
              have ec : ∀ v, a'.eval (.const v) = v := fun _ => rfl
              have ef : ∀ g, a'.eval (.func g) = .func (.func g) #[] #[] := fun _ => rfl
              clear hd hs
              refine wpv (v := .bool true) ?_ ⟨_, rfl, Grow.rfl' _, rfl⟩
              (generalize a'.eval = ev at ec ef e119 e126 ⊢; simp [execOp, go_sem, *])
            · refine stepK_run hstab trivial (by intro j b h; cases h) ?_
              intro a' w' hg hs hd
              have e127 : a'.eval (.tmp 127) = .bool true := hd ⟨12, Ground.data⟩ (by simp) rfl rfl
              have ec : ∀ v, a'.eval (.const v) = v := fun _ => rfl
              have ef : ∀ g, a'.eval (.func g) = .func (.func g) #[] #[] := fun _ => rfl
              clear hd hs
              refine wpv (v := .bool true) ?_ ⟨_, rfl, Grow.rfl' _, rfl⟩
              (generalize a'.eval = ev at ec ef e127 ⊢; simp [execOp, go_sem, *])
          · intro a' w' hg hs hd
            have e4 : a'.eval (.tmp 4) = .bool true := hd 13 (by simp) (by intro k h; cases h)
            go_wp2_with fail
            refine bodyPost_ret (v := .bool true) ?_ (by rw [hs.defers]) ⟨rfl, Grow.trans' G0.out (Grow.trans' G6.out hg)⟩
            clear hd hs hstab
            simpa [results, Try.results3, Act.eval] using e4

end Go.Proofs.Ytpkhmhigoafklaa
namespace Go.Proofs.Ytpkhmhigoafklaa
set_option maxRecDepth 100000
open Go.ChangeShapes Go.WideShapes Go.ChangeAt Go.RowKit Go.Deep
set_option linter.unusedVariables false

set_option maxRecDepth 100000 in
theorem CountedPlays_lifted (os : Os) (started : os.Started) (H : Type) (enc : TypeId × Value → H) :
    ReturnsInHanded {} Try.checked os 3 .any (Rows.countedPlaysSpec.pre6 enc Try.prog Try.f3 Rows.countedPlaysRow.domain false) (Rows.countedPlaysSpec.post enc Try.prog Try.f3 false true false false) := by
  refine returnsInHanded_of_change (C := Try.checked) own started (by kernel_rfl) Try.func3
    (ChangeSpec.witness6 (enc := enc) (C := Try.checked) false ⟨#[], #[.slice none 0 0, .agg #[.int .i64 0, .int .i64 0, .int .i64 0, .int .i64 0, .int .i64 0]], []⟩ 8 (by kernel_rfl) (by kernel_rfl) (by kernel_rfl) (by kernel_rfl)) ?_
  intro W base args ds gs before hval0 hW hcnd _
  have hval : ∀ (j : Nat) t v, Try.f3.params[j]? = some t → args[j]? = some v → Value.okWide Try.prog W .any base t v := hval0
  have hW' := hW
  obtain ⟨p, q, hA0, hV, rfl, hfz, hnd⟩ := hW
  have hA : DataW.TrodAll enc Try.prog W 0 (fun _ => true) true Try.f3.params.toList args.toList ds p := hA0
  rw [Try.params3] at hA hval
  obtain ⟨v0, vs0, d0, ds0, p0, q0, hargs, rfl, rfl, h0, r0⟩ := trodAll_cons hA
  obtain ⟨v1, vs1, d1, ds1, p1, q1, rfl, rfl, rfl, h1, r1⟩ := trodAll_cons r0
  obtain ⟨rfl, rfl, rfl⟩ := trodAll_nil r1
  obtain rfl : args = #[v0, v1] := by cases args; simp_all
  obtain ⟨rfl, rfl⟩ := trodVars_none hV
  have k0 := h0
  have lt0 : ∀ x ∈ p0, x.block < W.heap.size := by obtain ⟨m, hm⟩ := k0; exact DataW.trod_lt m _ _ _ hm
  obtain ⟨s0, len0, cap0, rfl⟩ := okWide_slice Try.underlying22 (hval 0 22 v0 rfl rfl)
  obtain ⟨z0, w0⟩ := rows_opr h0
  have k1 := h1
  have lt1 : ∀ x ∈ p1, x.block < W.heap.size := by obtain ⟨m, hm⟩ := k1; exact DataW.trod_lt m _ _ _ hm
  obtain ⟨t1, rfl, w1⟩ := open_tm (hval 1 25 v1 rfl rfl) h1
  clear hA0 hval0
  refine (CountedPlays_any s0 len0 cap0 z0 t1 W w0 w1).mono fun e W' ⟨he, bel⟩ => ?_
  subst he
  exact ⟨_, rfl, _, _, _, [], _, [], hW', trodAll_mk1 (shut_bool Try.underlying4 _), (trodAll_cons_mk (Below.trod laidOut (by kernel_rfl) (of_decide_eq_true (by kernel_rfl)) k0 bel lt0) (trodAll_cons_mk (Below.trod laidOut (by kernel_rfl) (of_decide_eq_true (by kernel_rfl)) k1 bel lt1) trodAll_mk0)), rfl, bel.frame _, fun h => by cases h⟩

/-- The given statement. -/
theorem CountedPlays_holds : Rows.CountedPlaysSaid :=
  OpenClaim.holds_of_wide 3 Try.f3 rfl rfl rfl rfl rfl rfl rfl ⟨rfl, rfl, rfl, rfl, rfl⟩ rfl rfl rfl rfl rfl (by kernel_rfl) Try.func3 (by kernel_rfl)
    (of_decide_eq_true (by kernel_rfl)) (by unfold Func.isWrapper; first | (rw [if_pos (by decide +kernel)]; kernel_rfl) | (rw [if_neg (by decide +kernel)]; exact ⟨rfl, rfl⟩))
    (fun os started H enc _ => CountedPlays_lifted os started H enc)


end Go.Proofs.Ytpkhmhigoafklaa
