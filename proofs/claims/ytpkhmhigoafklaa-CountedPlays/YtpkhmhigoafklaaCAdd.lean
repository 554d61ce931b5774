/-
  What counted's Add does to the world: the number is added or refused, the map is turned and nothing else, and what goes from the frontier and comes to it is told in rows of its own.
-/
import Derived.Test.YtpkhmhigoafklaaCFr
import Derived.Test.YtpkhmhigoafklaaCWo
import Derived.Test.YtpkhmhigoafklaaMy
namespace Go.Proofs.Ytpkhmhigoafklaa
set_option maxRecDepth 100000
open Go.RowKit Go.Sort
set_option linter.unusedVariables false
set_option linter.unusedSimpArgs false

theorem nmay_any (n : Int) {q : Bool} (hq : fitsB n = q) (w : World) : Calls Try.prog 25 #[.int .i64 n] w fun e w' => e = .returned (.bool q) ∧ w' = w := by
  have h := fitsB_iff n
  rw [hq] at h
  by_cases h1 : -1073741824 ≤ n
  · by_cases h2 : n ≤ 1073741824
    · have e : q = true := h.2 ⟨h1, h2⟩
      subst e
      clear h hq
      go_enter Try.func25, Try.ntmps25
      go_wp2
      go_ret
      exact ⟨rfl, rfl⟩
    · have e : q = false := by cases q; rfl; exact absurd (h.1 rfl).2 h2
      subst e
      clear h hq
      go_enter Try.func25, Try.ntmps25
      go_wp2
      go_ret
      exact ⟨rfl, rfl⟩
  · have e : q = false := by cases q; rfl; exact absurd (h.1 rfl).1 h1
    subst e
    clear h hq
    go_enter Try.func25, Try.ntmps25
    go_wp2
    go_ret
    exact ⟨rfl, rfl⟩
theorem rfits_any (n : Int) {q : Bool} (hq : fitsB n = q) (w : World) : Calls Try.prog 28 #[.int .i64 n] w fun e w' => e = .returned (.bool q) ∧ w' = w := by
  have h := fitsB_iff n
  rw [hq] at h
  by_cases h1 : -1073741824 ≤ n
  · by_cases h2 : n ≤ 1073741824
    · have e : q = true := h.2 ⟨h1, h2⟩
      subst e
      clear h hq
      go_enter Try.func28, Try.ntmps28
      go_wp2
      go_ret
      exact ⟨rfl, rfl⟩
    · have e : q = false := by cases q; rfl; exact absurd (h.1 rfl).2 h2
      subst e
      clear h hq
      go_enter Try.func28, Try.ntmps28
      go_wp2
      go_ret
      exact ⟨rfl, rfl⟩
  · have e : q = false := by cases q; rfl; exact absurd (h.1 rfl).1 h1
    subst e
    clear h hq
    go_enter Try.func28, Try.ntmps28
    go_wp2
    go_ret
    exact ⟨rfl, rfl⟩
theorem may_at (t : Tm) {q : Bool} (hq : mayB t = q) (w : World) : Calls Try.prog 24 #[.agg #[.int .i64 t.e, .int .i64 t.d, .int .i64 t.x, .int .i64 t.y, .int .i64 t.z]] w fun e w' => e = .returned (.bool q) ∧ Grow w w' := by
  rw [← hq]; exact may_any t w

/-- What Add answers, and leaves. -/
def AddPost (p b : Nat) (s : Cs) (t : Tm) (n : Int) (w : World) (e : Ending) (w' : World) : Prop :=
  ∃ s1 n1 c1 s2 n2 c2, e = .returned (.tuple #[.slice s1 n1 c1, .slice s2 n2 c2, .int .i64 (s.err t n)]) ∧ w.grownBy w' (some b) ∧ RepC w' p b (s.add t n) ∧ IsTms w' s1 n1 c1 (s.gone t n) ∧ IsTms w' s2 n2 c2 (s.come t n)
theorem isTms_nil (w : World) : IsTms w none 0 0 [] := ⟨rfl, Nat.le_refl _, .inl rfl⟩
theorem addPost_err {p b : Nat} {s : Cs} {t : Tm} {n : Int} {w w' : World} {k : Int} (he : s.err t n = k) (hk : k ≠ 0) (hg : Grow w w') (hR : RepC w p b s) :
    AddPost p b s t n w (.returned (.tuple #[.slice none 0 0, .slice none 0 0, .int .i64 k])) w' := by
  have h0 : s.err t n ≠ 0 := by rw [he]; exact hk
  obtain ⟨h1, h2⟩ := Cs.gone_not h0
  have h3 : s.add t n = s := by unfold Cs.add; rw [if_neg h0]
  refine ⟨none, 0, 0, none, 0, 0, by rw [he], (grown_of hg).but _, ?_, ?_, ?_⟩
  · rw [h3]; exact hR.later hg
  · rw [h1]; exact isTms_nil _
  · rw [h2]; exact isTms_nil _

set_option maxHeartbeats 2000000 in
theorem add_arg (p b : Nat) (s : Cs) (t : Tm) (n : Int) (w : World) (h : (mayB t && fitsB n) = false) (hR : RepC w p b s) :
    Calls Try.prog 12 #[.pointer (some ⟨p, 0, none⟩), .agg #[.int .i64 t.e, .int .i64 t.d, .int .i64 t.x, .int .i64 t.y, .int .i64 t.z], .int .i64 n] w (AddPost p b s t n w) := by
  have he : s.err t n = 1 := by unfold Cs.err; rw [h]; rfl
  have FIN := hide (fun w' (hg : Grow w w') => addPost_err he (by decide) hg hR)
  have G0 : Hid (Grow w (w.alloc (.cells #[.int .i64 t.e, .int .i64 t.d, .int .i64 t.x, .int .i64 t.y, .int .i64 t.z] 25))) := hide (Grow.alloc' _ _)
  have KX : Hid (Box (w.alloc (.cells #[.int .i64 t.e, .int .i64 t.d, .int .i64 t.x, .int .i64 t.y, .int .i64 t.z] 25)) w.heap.size t) := hide (Box.new _ _)
  clear hR he
  cases hm : mayB t
  · have C1 := hide (fun w => may_at t hm w)
    clear hm h
    go_enter Try.func12, Try.ntmps12
    go_wp2_with fail
    generalize w.alloc (.cells #[.int .i64 t.e, .int .i64 t.d, .int .i64 t.x, .int .i64 t.y, .int .i64 t.z] 25) = w0 at *
    refine (C1.out w0).mono ?_
    rintro e w1 ⟨rfl, hb⟩
    have G1 := hide (Grow.trans' G0.out hb)
    clear hb
    go_wp2_with fail
    go_ret3
    exact FIN.out w1 G1.out
  · have hf : fitsB n = false := by rw [hm] at h; simpa using h
    have C1 := hide (fun w => may_at t hm w)
    have C2 := hide (fun w => nmay_any n hf w)
    clear hm h hf
    go_enter Try.func12, Try.ntmps12
    go_wp2_with fail
    generalize w.alloc (.cells #[.int .i64 t.e, .int .i64 t.d, .int .i64 t.x, .int .i64 t.y, .int .i64 t.z] 25) = w0 at *
    refine (C1.out w0).mono ?_
    rintro e w1 ⟨rfl, hb⟩
    have G1 := hide (Grow.trans' G0.out hb)
    clear hb
    go_wp2_with fail
    refine (C2.out w1).mono ?_
    rintro e w2 ⟨rfl, rfl⟩
    go_wp2_with fail
    go_ret3
    exact FIN.out _ G1.out

theorem addPost_same {p b : Nat} {s : Cs} {t : Tm} {n : Int} {w w' : World} (he : s.err t n = 0) (hs : (s.add t n).front = s.front) (hg : w.grownBy w' (some b)) (hR : RepC w' p b (s.add t n)) :
    AddPost p b s t n w (.returned (.tuple #[.slice none 0 0, .slice none 0 0, .int .i64 0])) w' := by
  refine ⟨none, 0, 0, none, 0, 0, by rw [he], hg, hR, ?_, ?_⟩
  · unfold Cs.gone; rw [hs, outO_self]; exact isTms_nil _
  · unfold Cs.come; rw [hs, outO_self]; exact isTms_nil _
theorem MapR.block {w : World} {b : Nat} {s : Cs} (h : MapR w b s) : ∃ es clock, w.heap[b]? = some (.map es clock) := by
  obtain ⟨D, ⟨es, clock, hb, _⟩, _⟩ := h
  exact ⟨es, clock, hb⟩
/-- A map turns: a row stays. -/
theorem IsTms.turn {w w' : World} {b : Nat} {s : Option Addr} {n cap : Nat} {d : List Tm} (hm : ∃ es clock, w.heap[b]? = some (.map es clock)) (hg : w.grownBy w' (some b)) (h : IsTms w s n cap d) : IsTms w' s n cap d := by
  refine ⟨h.1, h.2.1, h.2.2.imp id fun ⟨bb, o, e, r⟩ => ⟨bb, o, e, fun j v hj => ?_⟩⟩
  have h1 := r j v hj
  refine hg.cell h1 fun k => ?_
  obtain ⟨es, clock, hb⟩ := hm
  have hk : bb = b := by simpa using k
  subst hk
  simp [World.cell?, hb] at h1
theorem Box.turn {w w' : World} {b bb : Nat} {t : Tm} (hm : ∃ es clock, w.heap[b]? = some (.map es clock)) (hg : w.grownBy w' (some b)) (h : Box w bb t) : Box w' bb t := by
  have hne : some bb ≠ some b := fun k => by
    obtain ⟨es, clock, hb⟩ := hm
    have hk : bb = b := by simpa using k
    subst hk
    have h1 := h.1
    simp [World.cell?, hb] at h1
  obtain ⟨h0, h1, h2, h3, h4⟩ := h
  exact ⟨hg.cell h0 hne, hg.cell h1 hne, hg.cell h2 hne, hg.cell h3 hne, hg.cell h4 hne⟩

set_option maxHeartbeats 4000000 in
theorem add_main (p b : Nat) (s : Cs) (t : Tm) (n : Int) (w : World) (hm : mayB t = true) (hf : fitsB n = true) (hok : s.ok) (hR : RepC w p b s) :
    Calls Try.prog 12 #[.pointer (some ⟨p, 0, none⟩), .agg #[.int .i64 t.e, .int .i64 t.d, .int .i64 t.x, .int .i64 t.y, .int .i64 t.z], .int .i64 n] w (AddPost p b s t n w) := by
  have ht := wfT_may hm
  have HT := hide ht
  have HM := hide hm
  have HF := hide hf
  have HOK := hide hok
  have ER := hide (fun w' k (he : s.err t n = k) (hk : k ≠ 0) (hg : Grow w w') => addPost_err he hk hg hR)
  have G0 : Hid (Grow w (w.alloc (.cells #[.int .i64 t.e, .int .i64 t.d, .int .i64 t.x, .int .i64 t.y, .int .i64 t.z] 25))) := hide (Grow.alloc' _ _)
  have KX : Hid (Box (w.alloc (.cells #[.int .i64 t.e, .int .i64 t.d, .int .i64 t.x, .int .i64 t.y, .int .i64 t.z] 25)) w.heap.size t) := hide (Box.new _ _)
  have HR := hide (hR.later G0.out)
  have C1 := hide (fun w => may_at t hm w)
  have C2 := hide (fun w => nmay_any n hf w)
  obtain ⟨c, hc⟩ : ∃ c, c = s.f t := ⟨_, rfl⟩
  have hcf := hok.fits t
  rw [← hc] at hcf
  obtain ⟨hc1, hc2⟩ := (fitsB_iff c).1 hcf
  obtain ⟨hn1, hn2⟩ := (fitsB_iff n).1 hf
  have HC := hide hc
  clear hm hf ht hR hok hcf hc
  go_enter Try.func12, Try.ntmps12
  go_wp2_with fail
  have hzp : w.heap.size < (w.alloc (.cells #[.int .i64 t.e, .int .i64 t.d, .int .i64 t.x, .int .i64 t.y, .int .i64 t.z] 25)).heap.size := by simp
  generalize w.alloc (.cells #[.int .i64 t.e, .int .i64 t.d, .int .i64 t.x, .int .i64 t.y, .int .i64 t.z] 25) = w0 at *
  refine (C1.out w0).mono ?_
  rintro e w1 ⟨rfl, hb⟩
  have G1 := hide (Grow.trans' G0.out hb)
  have HR1 := hide (HR.out.later hb)
  have KX1 := hide (KX.out.later hb)
  clear hb G0 HR KX hzp
  go_wp2_with fail
  refine (C2.out w1).mono ?_
  rintro e w2 ⟨rfl, rfl⟩
  clear C1 C2
  have hcell := HR1.out.cell
  obtain ⟨x0, x1, x2, x3, x4⟩ := KX1.out
  have sc := cell_regrown hcell; have sx0 := cell_regrown x0; have sx1 := cell_regrown x1; have sx2 := cell_regrown x2; have sx3 := cell_regrown x3; have sx4 := cell_regrown x4
  have hl : ∀ dd os, (Instr.lookup 49 (.map (some b)) (.agg #[.int .i64 t.e, .int .i64 t.d, .int .i64 t.x, .int .i64 t.y, .int .i64 t.z]) false).run Try.prog (grow (redrawn w2 dd) os) = .ok (.int .i64 c) (grow (redrawn w2 dd) os) := fun dd os => by
    rw [HC.out]; exact (HR1.out.later (below_regrown w2 dd os)).map.get HT.out
  go_wp2_with fail
  refine wp_region_quiet_below (by kernel_rfl) (by kernel_rfl) ?_
  repeat (go_big_quiet_step (fail))
  refine wpQuiet_nil ?_
  intro _ hw'
  obtain ⟨⟨dq, osq⟩, hw''⟩ := hw'
  subst hw''
  have G3 := hide (Grow.trans' G1.out (below_regrown w2 dq osq))
  have HR3 := hide (HR1.out.later (below_regrown w2 dq osq))
  have KX3 := hide (KX1.out.later (below_regrown w2 dq osq))
  clear hl sc sx0 sx1 sx2 sx3 sx4 hcell x0 x1 x2 x3 x4 G1 HR1 KX1
  generalize grow (redrawn w2 dq) osq = w3 at *
  cases hs : fitsB (c + n)
  · have C3 := hide (fun w => nmay_any (c + n) hs w)
    have he : s.err t n = 4 := by
      unfold Cs.err
      rw [HM.out, HF.out, ← HC.out, hs]; rfl
    have HE := hide he
    clear hs he
    go_wp2_with fail
    refine (C3.out w3).mono ?_
    rintro e w4 ⟨rfl, rfl⟩
    go_wp2_with fail
    go_ret3
    exact ER.out _ 4 HE.out (by decide) G3.out
  · have C3 := hide (fun w => nmay_any (c + n) hs w)
    obtain ⟨hs1, hs2⟩ := (fitsB_iff (c + n)).1 hs
    have HS := hide hs
    clear hs
    go_wp2_with fail
    refine (C3.out w3).mono ?_
    rintro e w4 ⟨rfl, rfl⟩
    clear C3
    obtain ⟨y, hy⟩ : ∃ y, y = c + n := ⟨_, rfl⟩
    have hlen := HR3.out.map.len
    have hcell := HR3.out.cell
    rw [← hy] at hs1 hs2 HS ⊢
    by_cases hbig : c = 0 ∧ y ≠ 0 ∧ 400 ≤ s.T.length
    · obtain ⟨rfl, hy0, h4⟩ := hbig
      have he : s.err t n = 3 := by
        unfold Cs.err
        have : ¬ (nextT s.T t (s.f t + n)).length ≤ 400 := by
          rw [Cs.room HOK.out, Classical.not_not, ← HC.out, ← hy]
          exact ⟨rfl, hy0, h4⟩
        rw [HM.out, HF.out, if_neg this, ← HC.out, ← hy, HS.out]; rfl
      have HE := hide he
      have h4' : (400 : Int) ≤ (s.T.length : Int) := by omega
      clear he hy
      go_wp2_with fail
      go_ret3
      exact ER.out _ 3 HE.out (by decide) G3.out
    · have he : s.err t n = 0 := Cs.err_of HM.out HF.out (by rw [← HC.out, ← hy]; exact HS.out) ((Cs.room HOK.out).2 (by rw [← HC.out, ← hy]; exact hbig))
      have ha : s.add t n = s.next t y := by unfold Cs.add; rw [if_pos he, ← HC.out, ← hy]
      have HE := hide he
      have HA := hide ha
      have HL := hide (show (nextT s.T t y).length ≤ 400 from by have := (Cs.err_ok he).2.2.2; rw [← HC.out, ← hy] at this; exact this)
      have cs : (0 < c ∧ 0 < y ∧ ¬ c = 0) ∨ (0 < c ∧ ¬ 0 < y ∧ ¬ c = 0) ∨ (¬ 0 < c ∧ 0 < y ∧ ¬ c = 0) ∨ (c = 0 ∧ 0 < y ∧ ¬ y = 0 ∧ ¬ (400 : Int) ≤ (s.T.length : Int)) ∨ (¬ 0 < c ∧ ¬ 0 < y ∧ ¬ c = 0) ∨ (c = 0 ∧ y = 0) ∨ (c = 0 ∧ ¬ 0 < y ∧ ¬ y = 0 ∧ ¬ (400 : Int) ≤ (s.T.length : Int)) := by
        clear hs1 hs2 hc1 hc2 hn1 hn2 hy
        by_cases z : c = 0
        · by_cases z2 : y = 0
          · exact .inr (.inr (.inr (.inr (.inr (.inl ⟨z, z2⟩)))))
          · have : ¬ (400 : Int) ≤ (s.T.length : Int) := fun k => hbig ⟨z, z2, by omega⟩
            by_cases z3 : 0 < y
            · exact .inr (.inr (.inr (.inl ⟨z, z3, z2, this⟩)))
            · exact .inr (.inr (.inr (.inr (.inr (.inr ⟨z, z3, z2, this⟩)))))
        · by_cases z3 : 0 < c <;> by_cases z4 : 0 < y <;> simp [z, z3, z4]
      clear he ha hbig hy
      rcases cs with ⟨h1, h2, h3⟩ | ⟨h1, h2, h3⟩ | ⟨h1, h2, h3⟩ | ⟨rfl, h2, h3, h4⟩ | ⟨h1, h2, h3⟩ | ⟨rfl, rfl⟩ | ⟨rfl, h2, h3, h4⟩
      · have d1 : decide (0 < c) = true := by simpa using h1
        have d2 : decide (0 < y) = true := by simpa using h2
        have FR := hide (show (s.add t n).front = s.front from by
          rw [HA.out]
          exact Cs.front_same HOK.out HM.out HS.out HL.out (by rw [← HC.out] <;> omega))
        have CS := hide (set_any p b s t y w4 HOK.out HT.out HS.out HR3.out)
        obtain ⟨x0, x1, x2, x3, x4⟩ := KX3.out
        clear ER HC
        go_wp2_with fail
        refine (CS.out).mono ?_
        rintro e w5 ⟨rfl, hR5, hg5⟩
        have H5 := hide hR5
        have HG5 := hide (grown_pre G3.out hg5)
        clear hR5 hg5 CS x0 x1 x2 x3 x4 hcell hlen
        go_wp2_with fail
        go_ret3
        exact addPost_same HE.out FR.out HG5.out (by rw [HA.out]; exact H5.out)
      · have d1 : decide (0 < c) = true := by simpa using h1
        have d2 : decide (0 < y) = false := by simpa using h2
        have HOK2 := hide (Cs.next_ok HOK.out HM.out HS.out HL.out)
        clear ER HC
        go_wp2_with fail
        refine (front_any p b s w4 HOK.out HR3.out).mono ?_
        rintro e w5 ⟨v, rfl, hb5, s1, n1, c1, rfl, hI1⟩
        have G5 := hide (Grow.trans' G3.out hb5)
        have HR5 := hide (HR3.out.later hb5)
        have KX5 := hide (KX3.out.later hb5)
        have HI5 := hide hI1
        have hn1' : n1 ≤ 400 := by have h1 := hI1.1; have h2 := Cs.front_len HOK.out; omega
        have CS := hide (set_any p b s t y w5 HOK.out HT.out HS.out HR5.out)
        obtain ⟨x0, x1, x2, x3, x4⟩ := KX5.out
        clear hb5 hI1 G3 HR3 KX3 hcell hlen
        go_wp2_with fail
        refine (CS.out).mono ?_
        rintro e w6 ⟨rfl, hR6, hg6⟩
        have HR6 := hide hR6
        have HG6 := hide (grown_pre G5.out hg6)
        have HI6 := hide (HI5.out.turn HR5.out.map.block hg6)
        clear hR6 hg6 CS x0 x1 x2 x3 x4 HI5 HR5 KX5 G5
        go_wp2_with fail
        refine (front_any p b (s.next t y) w6 HOK2.out HR6.out).mono ?_
        rintro e w7 ⟨v, rfl, hb7, s2, n2, c2, rfl, hI7⟩
        have HR7 := hide (HR6.out.later hb7)
        have HG7 := hide (grown_post HG6.out hb7)
        have HI7 := hide (HI6.out.later hb7)
        have HJ7 := hide hI7
        have hn2' : n2 ≤ 400 := by have h1 := hI7.1; have h2 := Cs.front_len HOK2.out; omega
        clear hb7 hI7 HR6 HG6 HI6
        go_wp2_with fail
        refine (without_any s1 n1 c1 s.front s2 n2 c2 (s.next t y).front w7 (by omega) (by omega) HI7.out HJ7.out (Cs.front_rises _)).mono ?_
        rintro e w8 ⟨v, rfl, hb8, s3, n3, c3, rfl, hI8⟩
        have HR8 := hide (HR7.out.later hb8)
        have HG8 := hide (grown_post HG7.out hb8)
        have HI8 := hide (HI7.out.later hb8)
        have HJ8 := hide (HJ7.out.later hb8)
        have HK8 := hide hI8
        clear hb8 hI8 HR7 HG7 HI7 HJ7
        go_wp2_with fail
        refine (without_any s2 n2 c2 (s.next t y).front s1 n1 c1 s.front w8 (by omega) (by omega) HJ8.out HI8.out (Cs.front_rises _)).mono ?_
        rintro e w9 ⟨v, rfl, hb9, s4, n4, c4, rfl, hI9⟩
        have HR9 := hide (HR8.out.later hb9)
        have HG9 := hide (grown_post HG8.out hb9)
        have HK9 := hide (HK8.out.later hb9)
        have HL9 := hide hI9
        clear hb9 hI9 HR8 HG8 HI8 HJ8 HK8
        go_wp2_with fail
        go_ret3
        refine ⟨s3, n3, c3, s4, n4, c4, by rw [HE.out]; rfl, HG9.out, ?_, ?_, ?_⟩
        · rw [HA.out]; exact HR9.out
        · unfold Cs.gone; rw [HA.out]; exact HK9.out
        · unfold Cs.come; rw [HA.out]; exact HL9.out
      · have d1 : decide (0 < c) = false := by simpa using h1
        have d2 : decide (0 < y) = true := by simpa using h2
        have HOK2 := hide (Cs.next_ok HOK.out HM.out HS.out HL.out)
        clear ER HC
        go_wp2_with fail
        refine (front_any p b s w4 HOK.out HR3.out).mono ?_
        rintro e w5 ⟨v, rfl, hb5, s1, n1, c1, rfl, hI1⟩
        have G5 := hide (Grow.trans' G3.out hb5)
        have HR5 := hide (HR3.out.later hb5)
        have KX5 := hide (KX3.out.later hb5)
        have HI5 := hide hI1
        have hn1' : n1 ≤ 400 := by have h1 := hI1.1; have h2 := Cs.front_len HOK.out; omega
        have CS := hide (set_any p b s t y w5 HOK.out HT.out HS.out HR5.out)
        obtain ⟨x0, x1, x2, x3, x4⟩ := KX5.out
        clear hb5 hI1 G3 HR3 KX3 hcell hlen
        go_wp2_with fail
        refine (CS.out).mono ?_
        rintro e w6 ⟨rfl, hR6, hg6⟩
        have HR6 := hide hR6
        have HG6 := hide (grown_pre G5.out hg6)
        have HI6 := hide (HI5.out.turn HR5.out.map.block hg6)
        clear hR6 hg6 CS x0 x1 x2 x3 x4 HI5 HR5 KX5 G5
        go_wp2_with fail
        refine (front_any p b (s.next t y) w6 HOK2.out HR6.out).mono ?_
        rintro e w7 ⟨v, rfl, hb7, s2, n2, c2, rfl, hI7⟩
        have HR7 := hide (HR6.out.later hb7)
        have HG7 := hide (grown_post HG6.out hb7)
        have HI7 := hide (HI6.out.later hb7)
        have HJ7 := hide hI7
        have hn2' : n2 ≤ 400 := by have h1 := hI7.1; have h2 := Cs.front_len HOK2.out; omega
        clear hb7 hI7 HR6 HG6 HI6
        go_wp2_with fail
        refine (without_any s1 n1 c1 s.front s2 n2 c2 (s.next t y).front w7 (by omega) (by omega) HI7.out HJ7.out (Cs.front_rises _)).mono ?_
        rintro e w8 ⟨v, rfl, hb8, s3, n3, c3, rfl, hI8⟩
        have HR8 := hide (HR7.out.later hb8)
        have HG8 := hide (grown_post HG7.out hb8)
        have HI8 := hide (HI7.out.later hb8)
        have HJ8 := hide (HJ7.out.later hb8)
        have HK8 := hide hI8
        clear hb8 hI8 HR7 HG7 HI7 HJ7
        go_wp2_with fail
        refine (without_any s2 n2 c2 (s.next t y).front s1 n1 c1 s.front w8 (by omega) (by omega) HJ8.out HI8.out (Cs.front_rises _)).mono ?_
        rintro e w9 ⟨v, rfl, hb9, s4, n4, c4, rfl, hI9⟩
        have HR9 := hide (HR8.out.later hb9)
        have HG9 := hide (grown_post HG8.out hb9)
        have HK9 := hide (HK8.out.later hb9)
        have HL9 := hide hI9
        clear hb9 hI9 HR8 HG8 HI8 HJ8 HK8
        go_wp2_with fail
        go_ret3
        refine ⟨s3, n3, c3, s4, n4, c4, by rw [HE.out]; rfl, HG9.out, ?_, ?_, ?_⟩
        · rw [HA.out]; exact HR9.out
        · unfold Cs.gone; rw [HA.out]; exact HK9.out
        · unfold Cs.come; rw [HA.out]; exact HL9.out
      · have d2 : decide (0 < y) = true := by simpa using h2
        have HOK2 := hide (Cs.next_ok HOK.out HM.out HS.out HL.out)
        clear ER HC
        go_wp2_with fail
        refine (front_any p b s w4 HOK.out HR3.out).mono ?_
        rintro e w5 ⟨v, rfl, hb5, s1, n1, c1, rfl, hI1⟩
        have G5 := hide (Grow.trans' G3.out hb5)
        have HR5 := hide (HR3.out.later hb5)
        have KX5 := hide (KX3.out.later hb5)
        have HI5 := hide hI1
        have hn1' : n1 ≤ 400 := by have h1 := hI1.1; have h2 := Cs.front_len HOK.out; omega
        have CS := hide (set_any p b s t y w5 HOK.out HT.out HS.out HR5.out)
        obtain ⟨x0, x1, x2, x3, x4⟩ := KX5.out
        clear hb5 hI1 G3 HR3 KX3 hcell hlen
        go_wp2_with fail
        refine (CS.out).mono ?_
        rintro e w6 ⟨rfl, hR6, hg6⟩
        have HR6 := hide hR6
        have HG6 := hide (grown_pre G5.out hg6)
        have HI6 := hide (HI5.out.turn HR5.out.map.block hg6)
        clear hR6 hg6 CS x0 x1 x2 x3 x4 HI5 HR5 KX5 G5
        go_wp2_with fail
        refine (front_any p b (s.next t y) w6 HOK2.out HR6.out).mono ?_
        rintro e w7 ⟨v, rfl, hb7, s2, n2, c2, rfl, hI7⟩
        have HR7 := hide (HR6.out.later hb7)
        have HG7 := hide (grown_post HG6.out hb7)
        have HI7 := hide (HI6.out.later hb7)
        have HJ7 := hide hI7
        have hn2' : n2 ≤ 400 := by have h1 := hI7.1; have h2 := Cs.front_len HOK2.out; omega
        clear hb7 hI7 HR6 HG6 HI6
        go_wp2_with fail
        refine (without_any s1 n1 c1 s.front s2 n2 c2 (s.next t y).front w7 (by omega) (by omega) HI7.out HJ7.out (Cs.front_rises _)).mono ?_
        rintro e w8 ⟨v, rfl, hb8, s3, n3, c3, rfl, hI8⟩
        have HR8 := hide (HR7.out.later hb8)
        have HG8 := hide (grown_post HG7.out hb8)
        have HI8 := hide (HI7.out.later hb8)
        have HJ8 := hide (HJ7.out.later hb8)
        have HK8 := hide hI8
        clear hb8 hI8 HR7 HG7 HI7 HJ7
        go_wp2_with fail
        refine (without_any s2 n2 c2 (s.next t y).front s1 n1 c1 s.front w8 (by omega) (by omega) HJ8.out HI8.out (Cs.front_rises _)).mono ?_
        rintro e w9 ⟨v, rfl, hb9, s4, n4, c4, rfl, hI9⟩
        have HR9 := hide (HR8.out.later hb9)
        have HG9 := hide (grown_post HG8.out hb9)
        have HK9 := hide (HK8.out.later hb9)
        have HL9 := hide hI9
        clear hb9 hI9 HR8 HG8 HI8 HJ8 HK8
        go_wp2_with fail
        go_ret3
        refine ⟨s3, n3, c3, s4, n4, c4, by rw [HE.out]; rfl, HG9.out, ?_, ?_, ?_⟩
        · rw [HA.out]; exact HR9.out
        · unfold Cs.gone; rw [HA.out]; exact HK9.out
        · unfold Cs.come; rw [HA.out]; exact HL9.out
      · have d1 : decide (0 < c) = false := by simpa using h1
        have d2 : decide (0 < y) = false := by simpa using h2
        have FR := hide (show (s.add t n).front = s.front from by
          rw [HA.out]
          exact Cs.front_same HOK.out HM.out HS.out HL.out (by rw [← HC.out] <;> omega))
        have CS := hide (set_any p b s t y w4 HOK.out HT.out HS.out HR3.out)
        obtain ⟨x0, x1, x2, x3, x4⟩ := KX3.out
        clear ER HC
        go_wp2_with fail
        refine (CS.out).mono ?_
        rintro e w5 ⟨rfl, hR5, hg5⟩
        have H5 := hide hR5
        have HG5 := hide (grown_pre G3.out hg5)
        clear hR5 hg5 CS x0 x1 x2 x3 x4 hcell hlen
        go_wp2_with fail
        go_ret3
        exact addPost_same HE.out FR.out HG5.out (by rw [HA.out]; exact H5.out)
      · have FR := hide (show (s.add t n).front = s.front from by
          rw [HA.out]
          exact Cs.front_same HOK.out HM.out HS.out HL.out (by rw [← HC.out] <;> omega))
        have CS := hide (set_any p b s t 0 w4 HOK.out HT.out HS.out HR3.out)
        obtain ⟨x0, x1, x2, x3, x4⟩ := KX3.out
        clear ER HC
        go_wp2_with fail
        refine (CS.out).mono ?_
        rintro e w5 ⟨rfl, hR5, hg5⟩
        have H5 := hide hR5
        have HG5 := hide (grown_pre G3.out hg5)
        clear hR5 hg5 CS x0 x1 x2 x3 x4 hcell hlen
        go_wp2_with fail
        go_ret3
        exact addPost_same HE.out FR.out HG5.out (by rw [HA.out]; exact H5.out)
      · have d2 : decide (0 < y) = false := by simpa using h2
        have FR := hide (show (s.add t n).front = s.front from by
          rw [HA.out]
          exact Cs.front_same HOK.out HM.out HS.out HL.out (by rw [← HC.out] <;> omega))
        have CS := hide (set_any p b s t y w4 HOK.out HT.out HS.out HR3.out)
        obtain ⟨x0, x1, x2, x3, x4⟩ := KX3.out
        clear ER HC
        go_wp2_with fail
        refine (CS.out).mono ?_
        rintro e w5 ⟨rfl, hR5, hg5⟩
        have H5 := hide hR5
        have HG5 := hide (grown_pre G3.out hg5)
        clear hR5 hg5 CS x0 x1 x2 x3 x4 hcell hlen
        go_wp2_with fail
        go_ret3
        exact addPost_same HE.out FR.out HG5.out (by rw [HA.out]; exact H5.out)

/-- Add, whatever is added. -/
theorem add_any (p b : Nat) (s : Cs) (t : Tm) (n : Int) (w : World) (hok : s.ok) (hR : RepC w p b s) :
    Calls Try.prog 12 #[.pointer (some ⟨p, 0, none⟩), .agg #[.int .i64 t.e, .int .i64 t.d, .int .i64 t.x, .int .i64 t.y, .int .i64 t.z], .int .i64 n] w (AddPost p b s t n w) := by
  cases h : (mayB t && fitsB n)
  · exact add_arg p b s t n w h hR
  · rw [Bool.and_eq_true] at h
    exact add_main p b s t n w h.1 h.2 hok hR

end Go.Proofs.Ytpkhmhigoafklaa
