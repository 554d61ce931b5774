/-
  The document's own numbers of times: two rows behind a pointer. What its Count, Frontier and without do to the world; what was there stays as it was.
-/
import Derived.Test.YtpkhmhigoafklaaCWo
import Derived.Test.YtpkhmhigoafklaaCSet
import Derived.Test.YtpkhmhigoafklaaRTm
import Derived.Test.YtpkhmhigoafklaaEq
namespace Go.Proofs.Ytpkhmhigoafklaa
set_option maxRecDepth 100000
open Go.RowKit Go.Sort
set_option linter.unusedVariables false
set_option linter.unusedSimpArgs false

/-- A slice of numbers. -/
structure IsIns (w : World) (s : Option Addr) (n cap : Nat) (d : List Int) : Prop where
  len : d.length = n
  cap : n ≤ cap
  row : d = [] ∨ ∃ b o, s = some ⟨b, o, none⟩ ∧ ∀ j (h : j < d.length), w.cell? ⟨b, o + j, none⟩ = some (.int .i64 d[j])
theorem IsIns.later {w w' : World} {s : Option Addr} {n cap : Nat} {d : List Int} (hg : Grow w w') (h : IsIns w s n cap d) : IsIns w' s n cap d :=
  ⟨h.len, h.cap, h.row.imp id fun ⟨b, o, e, r⟩ => ⟨b, o, e, fun j hj => cell_later hg (r j hj)⟩⟩
/-- A pointer to numbers of times, as the document keeps them. -/
structure RepY (w : World) (y : Nat) (s : Cs) (sT : Option Addr) (cT : Nat) (sN : Option Addr) (cN : Nat) : Prop where
  cell0 : w.cell? ⟨y, 0, none⟩ = some (.slice sT s.T.length cT)
  cell1 : w.cell? ⟨y, 1, none⟩ = some (.slice sN s.T.length cN)
  free0 : w.frozen? ⟨y, 0, none⟩ = false
  free1 : w.frozen? ⟨y, 1, none⟩ = false
  two : ∀ off, 2 ≤ off → w.cell? ⟨y, off, none⟩ = none
  times : IsTms w sT s.T.length cT s.T
  nums : IsIns w sN s.T.length cN (s.T.map s.f)
theorem RepY.lt {w : World} {y : Nat} {s : Cs} {sT sN : Option Addr} {cT cN : Nat} (h : RepY w y s sT cT sN cN) : y < w.heap.size := World.block_lt_of_cell? _ _ h.cell0
theorem RepY.later {w w' : World} {y : Nat} {s : Cs} {sT sN : Option Addr} {cT cN : Nat} (hg : Grow w w') (h : RepY w y s sT cT sN cN) : RepY w' y s sT cT sN cN :=
  ⟨cell_later hg h.cell0, cell_later hg h.cell1, by rw [hg.frozen (p := ⟨y, 0, none⟩) h.lt]; exact h.free0, by rw [hg.frozen (p := ⟨y, 1, none⟩) h.lt]; exact h.free1, fun off ho => by rw [hg.cell (p := ⟨y, off, none⟩) h.lt]; exact h.two off ho, h.times.later hg, h.nums.later hg⟩

/-- No number lies in the pointer's own block. -/
theorem RepY.noInt {w : World} {y : Nat} {s : Cs} {sT sN : Option Addr} {cT cN : Nat} (h : RepY w y s sT cT sN cN) {off : Nat} {k : IntKind} {v : Int} (hc : w.cell? ⟨y, off, none⟩ = some (.int k v)) : False := by
  match off, hc with
  | 0, hc => rw [h.cell0] at hc; cases hc
  | 1, hc => rw [h.cell1] at hc; cases hc
  | off + 2, hc => rw [h.two (off + 2) (by omega)] at hc; cases hc
theorem flatT_int (d : List Tm) : ∀ v ∈ flatT d, ∃ k, v = .int .i64 k := by
  intro v hv
  obtain ⟨x, _, hx⟩ := List.mem_flatMap.1 hv
  simp [encT] at hx
  rcases hx with h | h | h | h | h <;> exact ⟨_, h⟩
/-- The pointer's block turns: a row stays. -/
theorem IsTms.turnY {w w' : World} {y : Nat} {st : Cs} {sT sN : Option Addr} {cT cN : Nat} {s : Option Addr} {n cap : Nat} {d : List Tm} (hR : RepY w y st sT cT sN cN) (hg : w.grownBy w' (some y)) (h : IsTms w s n cap d) : IsTms w' s n cap d := by
  refine ⟨h.1, h.2.1, h.2.2.imp id fun ⟨bb, o, e, r⟩ => ⟨bb, o, e, fun j v hj => ?_⟩⟩
  have h1 := r j v hj
  refine hg.cell h1 fun k => ?_
  have hk : bb = y := by simpa using k
  subst hk
  obtain ⟨q, rfl⟩ := flatT_int d v (List.mem_of_getElem? hj)
  exact hR.noInt h1
theorem IsIns.turn {w w' : World} {b : Nat} {s : Option Addr} {n cap : Nat} {d : List Int} (hm : ∃ es clock, w.heap[b]? = some (.map es clock)) (hg : w.grownBy w' (some b)) (h : IsIns w s n cap d) : IsIns w' s n cap d := by
  refine ⟨h.len, h.cap, h.row.imp id fun ⟨bb, o, e, r⟩ => ⟨bb, o, e, fun j hj => ?_⟩⟩
  have h1 := r j hj
  refine hg.cell h1 fun k => ?_
  obtain ⟨es, clock, hb⟩ := hm
  have hk : bb = b := by simpa using k
  subst hk
  simp [World.cell?, hb] at h1

attribute [local go_sem ↓] eqTm
set_option maxHeartbeats 2000000 in
theorem rwithout_any (s : Option Addr) (n cap : Nat) (a : List Tm) (s1 : Option Addr) (n1 cap1 : Nat) (b : List Tm) (w : World) (hbig : n ≤ 100000) (hbig1 : n1 ≤ 100000) (ha : IsTms w s n cap a) (hb : IsTms w s1 n1 cap1 b) :
    Calls Try.prog 30 #[.slice s n cap, .slice s1 n1 cap1] w fun e w' => ∃ v, e = .returned v ∧ Grow w w' ∧ IsRowT (outO a b) v w' := by
  have HA := hide ha
  have HB := hide hb
  have HN := hide ha.1
  have HM := hide hb.1
  have U0 : Hid (OwnS (w.alloc (.cells #[] 25)) w.heap.size w.heap.size 0 []) := hide (OwnS.lit0 w w.heap.size (Nat.le_refl _))
  have V0 : Hid (Grow w (w.alloc (.cells #[] 25))) := hide (Grow.alloc' _ _)
  clear ha hb
  go_enter Try.func30, Try.ntmps30
  go_wp2_with fail
  generalize w.alloc (.cells #[] 25) = w0 at *
  go_loopw [5, 6] (fun v i wr => ∃ (k : Nat) (s' : Option Addr) (m cap' : Nat), k ≤ n ∧ v = .slice s' m cap' ∧ i = .int .i64 k ∧ Grow w wr ∧ OwnSV wr w.heap.size s' m cap' (outO (a.take k) b)) (fun _ i _ => n - (intOf i).toNat)
  case atStart => exact ⟨0, _, 0, 0, Nat.zero_le _, rfl, rfl, V0.out, OwnSV.of U0.out rfl⟩
  case round =>
    obtain ⟨k, s', m, cap', hk, rfl, rfl, hg, hO⟩ := hrel
    have HG := hide hg
    have HO := hide hO
    clear hO U0 V0
    by_cases hlt : k < n
    · have hkd : k < a.length := by rw [HN.out]; exact hlt
      obtain ⟨bb, o, rfl, hr1⟩ := HA.out.2.2.resolve_left (fun h => by rw [h] at hkd; simp at hkd)
      have HR1 := hide hr1
      obtain ⟨y, hy⟩ : ∃ y, y = a[k] := ⟨_, rfl⟩
      have HY := hide hy
      have hi1 : (0 : Int) ≤ (k : Int) := by omega
      have hi2 : (k : Int) < (n : Int) := by omega
      have HE := hide (out_take_succ a b k hkd)
      rw [← hy] at HE
      have hml : m ≤ n := by
        have h1 := HO.out.1
        have h2 := outO_len (a.take k) b
        rw [List.length_take] at h2
        omega
      obtain ⟨w1, hw1⟩ : ∃ w1, w1 = wr := ⟨_, rfl⟩
      rw [← hw1] at HG HO ⊢
      clear hr1 hy hg hw1
      go_wp2_with fail
      go_loopw [7, 8] (fun f i wr => ∃ (j : Nat) (q : Bool), j ≤ n1 ∧ f = .bool q ∧ i = .int .i64 j ∧ q = ((b.take j).any fun z => eqB y z) ∧ Grow w1 wr) (fun _ i _ => n1 - (intOf i).toNat)
      case atStart => exact ⟨0, false, Nat.zero_le _, rfl, rfl, rfl, Grow.rfl' _⟩
      case round =>
        obtain ⟨j, q, hj, rfl, rfl, hq, hg⟩ := hrel
        have HG1 := hide hg
        have HQ := hide hq
        clear hg hq
        by_cases hjl : j < n1
        · have hjd : j < b.length := by rw [HM.out]; exact hjl
          obtain ⟨b2, o2, rfl, hr2⟩ := HB.out.2.2.resolve_left (fun h => by rw [h] at hjd; simp at hjd)
          obtain ⟨z, hz⟩ : ∃ z, z = b[j] := ⟨_, rfl⟩
          have hstep : ((b.take (j + 1)).any fun z => eqB y z) = (q || eqB y z) := by
            rw [List.take_succ_eq_append_getElem hjd, List.any_append, ← HQ.out, ← hz]; simp
          have HS := hide hstep
          obtain ⟨p0, p1, p2, p3, p4⟩ := (HR1.out.later (Grow.trans' HG.out HG1.out)).at k hkd
          rw [← HY.out] at p0 p1 p2 p3 p4
          obtain ⟨q0, q1, q2, q3, q4⟩ := (hr2.later (Grow.trans' HG.out HG1.out)).at j hjd
          rw [← hz] at q0 q1 q2 q3 q4
          have hj1 : (0 : Int) ≤ (j : Int) := by omega
          have hj2 : (j : Int) < (n1 : Int) := by omega
          have sp0 := cell_regrown p0; have sp1 := cell_regrown p1; have sp2 := cell_regrown p2; have sp3 := cell_regrown p3; have sp4 := cell_regrown p4
          have sq0 := cell_regrown q0; have sq1 := cell_regrown q1; have sq2 := cell_regrown q2; have sq3 := cell_regrown q3; have sq4 := cell_regrown q4
          clear hr2 hz hstep
          cases q
          · cases es : eqB y z
            all_goals
              have HES := hide es
              go_wp2_with fail
              refine wp_region_quiet_below (by kernel_rfl) (by kernel_rfl) ?_
              repeat (go_big_quiet_step (fail))
              refine wpQuiet_nil ?_
              intro _ hw'
              obtain ⟨⟨dq, osq⟩, hw''⟩ := hw'
              subst hw''
              have GB := hide (Grow.trans' HG1.out (below_regrown wr dq osq))
              clear sp0 sp1 sp2 sp3 sp4 sq0 sq1 sq2 sq3 sq4 p0 p1 p2 p3 p4 q0 q1 q2 q3 q4
              generalize grow (redrawn wr dq) osq = wc at *
              go_wp2_with fail
              go_roundw
            case rel => exact ⟨j + 1, false, by omega, rfl, by go_num, by rw [HS.out, HES.out]; rfl, GB.out⟩
            case measure => simp [intOf]; omega
            case rel => exact ⟨j + 1, true, by omega, rfl, by go_num, by rw [HS.out, HES.out]; rfl, GB.out⟩
            case measure => simp [intOf]; omega
          · go_wp2_with fail
            refine wp_region_quiet_below (by kernel_rfl) (by kernel_rfl) ?_
            repeat (go_big_quiet_step (fail))
            refine wpQuiet_nil ?_
            intro _ hw'
            obtain ⟨⟨dq, osq⟩, hw''⟩ := hw'
            subst hw''
            have GB := hide (Grow.trans' HG1.out (below_regrown wr dq osq))
            clear sp0 sp1 sp2 sp3 sp4 sq0 sq1 sq2 sq3 sq4 p0 p1 p2 p3 p4 q0 q1 q2 q3 q4
            generalize grow (redrawn wr dq) osq = wc at *
            go_wp2_with fail
            go_roundw
            case rel => exact ⟨j + 1, true, by omega, rfl, by go_num, by rw [HS.out]; rfl, GB.out⟩
            case measure => simp [intOf]; omega
        · have hj2 : ¬ (j : Int) < (n1 : Int) := by omega
          have hqe : (b.any fun z => eqB y z) = q := by rw [HQ.out, List.take_of_length_le (by rw [HM.out]; omega)]
          have HQE := hide hqe
          have HG2 := hide (Grow.trans' HG.out HG1.out)
          have HO2 := hide (HO.out.later HG1.out)
          have hzr : w.heap.size ≤ wr.heap.size := HG2.out.size
          obtain ⟨p0, p1, p2, p3, p4⟩ := (HR1.out.later HG2.out).at k hkd
          rw [← HY.out] at p0 p1 p2 p3 p4
          clear hqe
          cases q
          · go_wp2_with (at_builtin; refine wpList_apv_tm rfl _ _ rfl w.heap.size s' cap' (outO (a.take k) b) [y] m rfl (HO2.out.later (Grow.alloc' _ _)) wr.heap.size 0 1 1 rfl rfl (by omega) (RowT_one wr y) ?hl ?hb ?_)
            case hl => rw [HO2.out.1]; omega
            case hb => first | omega | (simp; omega)
            intro g' c' w4 O2 gb
            have G4 := hide (gb.grow (Grow.trans' HG2.out (Grow.alloc' _ _)) (Nat.le_refl _))
            have HO4 := hide O2
            clear gb O2 p0 p1 p2 p3 p4
            go_wp2_with fail
            go_roundw
            case rel =>
              refine ⟨k + 1, some ⟨g', 0, none⟩, m + 1, c', by omega, rfl, by go_num, G4.out, ?_⟩
              rw [HE.out, HQE.out, if_neg (by simp)]
              refine OwnSV.of HO4.out ?_
              have := HO2.out.1
              simp [this]
            case measure => simp [intOf]; omega
          · clear p0 p1 p2 p3 p4
            go_wp2_with fail
            go_roundw
            case rel =>
              refine ⟨k + 1, s', m, cap', by omega, rfl, by go_num, HG2.out, ?_⟩
              rw [HE.out, HQE.out, if_pos rfl, List.append_nil]
              exact HO2.out
            case measure => simp [intOf]; omega
    · have hi2 : ¬ (k : Int) < (n : Int) := by omega
      clear hg
      go_wp2_with fail
      go_ret
      refine ⟨_, rfl, HG.out, s', m, cap', rfl, ?_⟩
      have h1 := HO.out.is
      rw [List.take_of_length_le (by rw [HN.out]; omega)] at h1
      exact h1

set_option maxHeartbeats 2000000 in
theorem rfront_any (y : Nat) (s : Cs) (sT sN : Option Addr) (cT cN : Nat) (w : World) (hok : s.ok) (hR : RepY w y s sT cT sN cN) :
    Calls Try.prog 17 #[.pointer (some ⟨y, 0, none⟩)] w fun e w' => ∃ v, e = .returned v ∧ Grow w w' ∧ IsRowT s.front v w' := by
  have V0 : Hid (Grow w (w.alloc (.cells #[] 25))) := hide (Grow.alloc' _ _)
  have U0 : Hid (OwnS (w.alloc (.cells #[] 25)) w.heap.size w.heap.size 0 []) := hide (OwnS.lit0 w w.heap.size (Nat.le_refl _))
  have HR := hide hR
  have HOK := hide hok
  obtain ⟨N, hN⟩ : ∃ N, N = s.T.length := ⟨_, rfl⟩
  have hN4 : N ≤ 400 := by rw [hN]; exact hok.few
  have HN := hide hN
  have hc0 := hR.cell0
  have hc1 := hR.cell1
  rw [← hN] at hc0 hc1
  have C0 := hide hc0
  have C1 := hide hc1
  clear hR hok hN hc0 hc1
  go_enter Try.func17, Try.ntmps17
  go_wp2_with fail
  generalize w.alloc (.cells #[] 25) = w0 at *
  go_loopw [3, 4] (fun v i wr => ∃ (k : Nat) (s' : Option Addr) (m cap' : Nat), k ≤ N ∧ v = .slice s' m cap' ∧ i = .int .i64 k ∧ Grow w wr ∧ OwnSV wr w.heap.size s' m cap' ((s.T.take k).filter fun x => decide (0 < s.f x))) (fun _ i _ => N - (intOf i).toNat)
  case atStart => exact ⟨0, _, 0, 0, Nat.zero_le _, rfl, rfl, V0.out, OwnSV.of U0.out rfl⟩
  case round =>
    obtain ⟨k, s', m, cap', hk, rfl, rfl, hg, hO⟩ := hrel
    have HG := hide hg
    have HO := hide hO
    have d0 := cell_later hg C0.out
    have d1 := cell_later hg C1.out
    have hml : m ≤ N := by
      have h1 := hO.1
      have h2 := List.length_filter_le (fun x => decide (0 < s.f x)) (s.T.take k)
      have h3 := HN.out
      rw [List.length_take] at h2
      omega
    have hzr : w.heap.size ≤ wr.heap.size := hg.size
    clear hg hO V0 U0
    by_cases hlt : k < N
    · have hkd : k < s.T.length := by rw [← HN.out]; exact hlt
      have hne : ¬ s.T = [] := fun h => by rw [h] at hkd; simp at hkd
      obtain ⟨b, o, rfl, hr1⟩ := HR.out.times.2.2.resolve_left hne
      obtain ⟨bn, on, rfl, hr2⟩ := HR.out.nums.row.resolve_left (fun h => hne (by simpa using h))
      obtain ⟨p0, p1, p2, p3, p4⟩ := (hr1.later HG.out).at k hkd
      have q0 := cell_later HG.out (hr2 k (by simpa using hkd))
      rw [List.getElem_map] at q0
      obtain ⟨x, hx⟩ : ∃ x, x = s.T[k] := ⟨_, rfl⟩
      have HE := hide (filter_take_succ (fun x => decide (0 < s.f x)) s.T k hkd)
      rw [← hx] at p0 p1 p2 p3 p4 q0 HE
      obtain ⟨cx, hcx⟩ : ∃ cx, s.f x = cx := ⟨_, rfl⟩
      rw [hcx] at q0 HE
      have hi1 : (0 : Int) ≤ (k : Int) := by omega
      have hi2 : (k : Int) < (N : Int) := by omega
      clear hne hr1 hr2 hx hcx
      by_cases hc0 : 0 < cx
      · go_wp2_with (at_builtin; refine wpList_apv_tm rfl _ _ rfl w.heap.size s' cap' ((s.T.take k).filter fun x => decide (0 < s.f x)) [x] m rfl (HO.out.later (Grow.alloc' _ _)) wr.heap.size 0 1 1 rfl rfl (by omega) (RowT_one wr x) ?hl ?hb ?_)
        case hl => rw [HO.out.1]; omega
        case hb => first | omega | (simp; omega)
        intro g' c' w4 O2 gb
        have G4 := hide (gb.grow (Grow.trans' HG.out (Grow.alloc' _ _)) (Nat.le_refl _))
        have HO4 := hide O2
        clear gb O2 p0 p1 p2 p3 p4 q0 d0 d1
        go_wp2_with fail
        go_roundw
        case rel =>
          refine ⟨k + 1, some ⟨g', 0, none⟩, m + 1, c', by omega, rfl, by go_num, G4.out, ?_⟩
          rw [HE.out, if_pos (by simpa using hc0)]
          refine OwnSV.of HO4.out ?_
          have := HO.out.1
          simp [this]
        case measure => simp [intOf]; omega
      · go_wp2_with fail
        go_roundw
        case rel =>
          refine ⟨k + 1, s', m, cap', by omega, rfl, by go_num, HG.out, ?_⟩
          rw [HE.out, if_neg (by simpa using hc0), List.append_nil]
          exact HO.out
        case measure => simp [intOf]; omega
    · have hi2 : ¬ (k : Int) < (N : Int) := by omega
      have hup : (s.T.take k).filter (fun x => decide (0 < s.f x)) = s.up := by rw [List.take_of_length_le (by rw [← HN.out]; omega)]; rfl
      have C2 := hide (refTimes_any s' m cap' s.up wr (by omega) (hup ▸ HO.out.is))
      clear hup HO
      go_wp2_with fail
      refine (C2.out).mono ?_
      rintro e w13 ⟨v, rfl, hb, sX, nX, cX, rfl, hI⟩
      have HG13 := hide (Grow.trans' HG.out hb)
      have HI := hide hI
      clear hb hI C2
      go_wp2_with fail
      go_ret
      exact ⟨_, rfl, HG13.out, sX, nX, cX, rfl, HI.out⟩

attribute [local go_sem ↓] eqTm
set_option maxHeartbeats 2000000 in
theorem rcount_any (y : Nat) (s : Cs) (sT sN : Option Addr) (cT cN : Nat) (t : Tm) {c : Int} (hc : s.f t = c) (w : World) (hok : s.ok) (hR : RepY w y s sT cT sN cN) :
    Calls Try.prog 19 #[.pointer (some ⟨y, 0, none⟩), .agg #[.int .i64 t.e, .int .i64 t.d, .int .i64 t.x, .int .i64 t.y, .int .i64 t.z]] w fun e w' => e = .returned (.int .i64 c) ∧ Grow w w' := by
  have G0 : Hid (Grow w (w.alloc (.cells #[.int .i64 t.e, .int .i64 t.d, .int .i64 t.x, .int .i64 t.y, .int .i64 t.z] 25))) := hide (Grow.alloc' _ _)
  have KX : Hid (Box (w.alloc (.cells #[.int .i64 t.e, .int .i64 t.d, .int .i64 t.x, .int .i64 t.y, .int .i64 t.z] 25)) w.heap.size t) := hide (Box.new _ _)
  have HR := hide (hR.later G0.out)
  have HC := hide hc
  have HOK := hide hok
  have hyl := hR.lt
  obtain ⟨N, hN⟩ : ∃ N, N = s.T.length := ⟨_, rfl⟩
  have hN4 : N ≤ 400 := by rw [hN]; exact hok.few
  have HN := hide hN
  have hc0 := hR.cell0
  have hc1 := hR.cell1
  rw [← hN] at hc0 hc1
  clear hR hc hok hN
  go_enter Try.func19, Try.ntmps19
  go_wp2_with fail
  have hc0' := HR.out.cell0
  have hc1' := HR.out.cell1
  rw [← HN.out] at hc0' hc1'
  clear hc0 hc1
  generalize w.alloc (.cells #[.int .i64 t.e, .int .i64 t.d, .int .i64 t.x, .int .i64 t.y, .int .i64 t.z] 25) = w0 at *
  go_loopw [5] (fun i wr => ∃ k : Nat, k ≤ N ∧ i = .int .i64 k ∧ Grow w0 wr ∧ ∀ j (a : j < s.T.length), j < k → s.T[j] ≠ t) (fun i _ => N - (intOf i).toNat)
  case atStart => exact ⟨0, Nat.zero_le _, rfl, Grow.rfl' _, fun j a h => by omega⟩
  case round =>
    obtain ⟨k, hk, rfl, hg, hall⟩ := hrel
    have HA := hide hall
    have HG := hide hg
    have d0 := cell_later hg hc0'
    have d1 := cell_later hg hc1'
    clear hall
    by_cases hlt : k < N
    · have hkd : k < s.T.length := by rw [← HN.out]; exact hlt
      have hne : ¬ s.T = [] := fun h => by rw [h] at hkd; simp at hkd
      obtain ⟨b, o, rfl, hr1⟩ := HR.out.times.2.2.resolve_left hne
      obtain ⟨bn, on, rfl, hr2⟩ := HR.out.nums.row.resolve_left (fun h => hne (by simpa using h))
      obtain ⟨p0, p1, p2, p3, p4⟩ := (hr1.later hg).at k hkd
      have q0 := cell_later hg (hr2 k (by simpa using hkd))
      rw [List.getElem_map] at q0
      obtain ⟨x0, x1, x2, x3, x4⟩ := KX.out.later hg
      obtain ⟨x, hx⟩ : ∃ x, x = s.T[k] := ⟨_, rfl⟩
      rw [← hx] at p0 p1 p2 p3 p4 q0
      have HX := hide hx
      have hi1 : (0 : Int) ≤ (k : Int) := by omega
      have hi2 : (k : Int) < (N : Int) := by omega
      obtain ⟨cx, hcx⟩ : ∃ cx, s.f x = cx := ⟨_, rfl⟩
      rw [hcx] at q0
      have HCX := hide hcx
      have sp0 := cell_regrown p0; have sp1 := cell_regrown p1; have sp2 := cell_regrown p2; have sp3 := cell_regrown p3; have sp4 := cell_regrown p4
      have sx0 := cell_regrown x0; have sx1 := cell_regrown x1; have sx2 := cell_regrown x2; have sx3 := cell_regrown x3; have sx4 := cell_regrown x4
      have sd0 := cell_regrown d0
      clear hne hr1 hr2 hx hcx hg
      cases es : eqB x t
      all_goals
        have HES := hide es
        go_wp2_with fail
        refine wp_region_quiet_below (by kernel_rfl) (by kernel_rfl) ?_
        repeat (go_big_quiet_step (fail))
        refine wpQuiet_nil ?_
        intro _ hw'
        obtain ⟨⟨dq, osq⟩, hw''⟩ := hw'
        subst hw''
        have GB := hide (Grow.trans' HG.out (below_regrown wr dq osq))
        have d1' := cell_regrown d1 dq osq
        have q0' := cell_regrown q0 dq osq
        clear sp0 sp1 sp2 sp3 sp4 sx0 sx1 sx2 sx3 sx4 sd0 p0 p1 p2 p3 p4 x0 x1 x2 x3 x4 d0 d1 q0
        generalize grow (redrawn wr dq) osq = wc at *
        go_wp2_with fail
      · go_roundw
        case rel =>
          refine ⟨k + 1, by omega, by go_num, GB.out, fun j a h => ?_⟩
          by_cases hj : j < k
          · exact HA.out j a hj
          · have : j = k := by omega
            subst this
            rw [← HX.out]
            intro e
            rw [(eqB_iff x t).2 e] at HES
            exact absurd HES.out (by simp)
        case measure => simp [intOf]; omega
      · go_ret
        have hxt := (eqB_iff x t).1 HES.out
        have : cx = c := by rw [← HCX.out, ← HC.out, hxt]
        exact ⟨by rw [← this]; rfl, Grow.trans' G0.out GB.out⟩
    · have hi2 : ¬ (k : Int) < (N : Int) := by omega
      clear hg
      go_wp2_with fail
      go_ret
      have : c = 0 := by
        rw [← HC.out]
        refine Classical.byContradiction fun h0 => ?_
        obtain ⟨j, hj, e⟩ := List.getElem_of_mem ((HOK.out.mem t).2 h0)
        exact HA.out j hj (by rw [← HN.out] at hj; omega) e
      rw [this]
      exact ⟨rfl, Grow.trans' G0.out HG.out⟩

end Go.Proofs.Ytpkhmhigoafklaa
