/-
  What the closures of valid.rules, and slices.ContainsFunc with each of them, do to the world: each tells whether one of a row is as the closure asks; what was there stays as it was.
-/
import Derived.Test.YtjebipagehhkjaaGreatVSm
import Derived.Test.YtjebipagehhkjaaGreatVNd
import Derived.Test.YtjebipagehhkjaaGreatVRw
namespace Go.Proofs.YtjebipagehhkjaaGreat
set_option maxRecDepth 100000
open Go.RowKit Go.Sort
set_option linter.unusedVariables false
set_option linter.unusedSimpArgs false
attribute [local go_sem ↓] eqLc

/-- Only an Exchange leads to a node that keeps records by keys. -/
def routeE (N : List Nd) (e : Ed) : Bool := !(decide ((nth N e.t.toNat).k = 6) || decide ((nth N e.t.toNat).k = 7)) || decide ((nth N e.f.toNat).k = 5)
set_option maxHeartbeats 1000000 in
theorem clo2 (x : Nd) (w : World) :
    Calls Tryz.prog 44 #[.agg #[.int .i64 x.k, .int .i64 x.a, .int .i64 x.b, .int .i64 x.d]] w fun e w' => e = .returned (.bool (!nodeB x)) ∧ Grow w w' := by
  obtain ⟨k, a, b, d⟩ := x
  dsimp only
  obtain ⟨p, hp⟩ : ∃ p, nodeB ⟨k, a, b, d⟩ = p := ⟨_, rfl⟩
  have C1 := hide (fun w => node_any k a b d hp w)
  rw [hp]
  clear hp
  go_enter Tryz.func44, Tryz.ntmps44
  go_wp2_with fail
  refine (C1.out _).mono ?_
  rintro _ w1 ⟨rfl, hb⟩
  have G1 := hide (Grow.trans' (Grow.alloc' _ _) hb)
  clear hb
  go_wp2_with fail
  go_ret
  exact ⟨rfl, G1.out⟩
set_option maxHeartbeats 1000000 in
theorem clo3 (gs : Option Addr) (gn gc : Nat) (gt : Option Addr) (gm gq : Nat) (N : List Nd) (E : List Ed) (bg : Nat) (x : Ed) (w : World) (hn : gn ≤ 20) (hG : BoxG w bg ⟨gs, gn, gc, gt, gm, gq, [], []⟩) (hg : IsNds w gs gn gc N) (he : IsEds w gt gm gq E) :
    Calls Tryz.prog 48 #[.agg #[.int .i64 x.f, .int .i64 x.t, .int .i64 x.p], .pointer (some ⟨bg, 0, none⟩)] w fun e w' => e = .returned (.bool (!edgeB N x)) ∧ Grow w w' := by
  have GG : Hid (Grow w (w.alloc (.cells #[.int .i64 x.f, .int .i64 x.t, .int .i64 x.p] 39))) := hide (Grow.alloc' _ _)
  obtain ⟨p, hp⟩ : ∃ p, edgeB N x = p := ⟨_, rfl⟩
  have C1 := hide (fun w' (h : Grow w w') => isEdge_raw gs gn gc gt gm gq N x hp w' hn (hg.later h))
  rw [hp]
  obtain ⟨g0, g1⟩ := hG.later GG.out
  dsimp only at g0 g1
  clear hp hG hg he
  go_enter Tryz.func48, Tryz.ntmps48
  go_wp2_with fail
  refine (C1.out _ GG.out).mono ?_
  rintro _ w1 ⟨rfl, hb⟩
  have G1 := hide (Grow.trans' GG.out hb)
  clear hb g0 g1
  go_wp2_with fail
  go_ret
  exact ⟨rfl, G1.out⟩
theorem depE_dep {N : List Nd} {x : Ed} (h : edgeB N x = true) : (depP N ⟨x.f, -1⟩ == depP N ⟨x.t, x.p⟩) = depE N x := by
  have h1 := edge_is h
  unfold edgeB at h
  simp only [Bool.and_eq_true, decide_eq_true_eq] at h
  unfold depP depE
  rw [if_pos h.1.1, if_pos h.1.2, if_pos rfl, if_neg h1.2.2]
  rfl
set_option maxHeartbeats 1000000 in
theorem clo4 (gs : Option Addr) (gn gc : Nat) (gt : Option Addr) (gm gq : Nat) (N : List Nd) (E : List Ed) (bg : Nat) (x : Ed) (hx : edgeB N x = true) (w : World) (hn : gn ≤ 20) (hG : BoxG w bg ⟨gs, gn, gc, gt, gm, gq, [], []⟩) (hg : IsNds w gs gn gc N) (he : IsEds w gt gm gq E) :
    Calls Tryz.prog 51 #[.agg #[.int .i64 x.f, .int .i64 x.t, .int .i64 x.p], .pointer (some ⟨bg, 0, none⟩)] w fun e w' => e = .returned (.bool (!depE N x)) ∧ Grow w w' := by
  have GG : Hid (Grow w (w.alloc (.cells #[.int .i64 x.f, .int .i64 x.t, .int .i64 x.p] 39))) := hide (Grow.alloc' _ _)
  have KE : Hid (BoxE (w.alloc (.cells #[.int .i64 x.f, .int .i64 x.t, .int .i64 x.p] 39)) w.heap.size x) := hide (BoxE.new w x)
  obtain ⟨p, hp⟩ : ∃ p, depP N ⟨x.f, -1⟩ = p := ⟨_, rfl⟩
  obtain ⟨q, hq⟩ : ∃ q, depP N ⟨x.t, x.p⟩ = q := ⟨_, rfl⟩
  have C1 := hide (fun w h => dep_raw gs gn gc gt gm gq N x.f (-1) w hn h)
  have C2 := hide (fun w h => dep_raw gs gn gc gt gm gq N x.t x.p w hn h)
  rw [hp] at C1
  rw [hq] at C2
  rw [← depE_dep hx, hp, hq]
  have HI := hide (hg.later GG.out)
  have KG := hide (hG.later GG.out)
  clear hp hq hG hg he hx
  obtain ⟨xf, xt, xp⟩ := x
  dsimp only at GG KE HI KG C1 C2 ⊢
  have D1 := hide (fun w => vbegin_any ⟨xf, xt, xp⟩ w)
  have D2 := hide (fun w => vend_any ⟨xf, xt, xp⟩ w)
  dsimp only at D1 D2
  go_enter Tryz.func51, Tryz.ntmps51
  go_wp2_with fail
  generalize w.alloc (.cells #[.int .i64 xf, .int .i64 xt, .int .i64 xp] 39) = w0 at *
  generalize w.heap.size = P at *
  obtain ⟨g0, g1⟩ := KG.out
  obtain ⟨k0, k1, k2⟩ := KE.out
  dsimp only at g0 g1 k0 k1 k2
  have sg0 := cell_regrown g0
  have sg1 := cell_regrown g1
  have s0 := cell_regrown k0
  have s1 := cell_regrown k1
  have s2 := cell_regrown k2
  have Q1 := hide (fun dd os => Calls.regrown_of (C1.out (grow (redrawn w0 dd) os) (HI.out.later (below_regrown w0 dd os))))
  have Q2 := hide (fun dd os => Calls.regrown_of (C2.out (grow (redrawn w0 dd) os) (HI.out.later (below_regrown w0 dd os))))
  have Q3 := hide (fun dd os => Calls.regrown_of (D1.out (grow (redrawn w0 dd) os)))
  have Q4 := hide (fun dd os => Calls.regrown_of (D2.out (grow (redrawn w0 dd) os)))
  refine wp_region_quiet_below (by kernel_rfl) (by kernel_rfl) ?_
  repeat (go_big_quiet_step (first | (go_at_call 52; first | with_reducible exact Q1.out _ _ | with_reducible exact Q2.out _ _) | (go_at_call 53; exact Q3.out _ _) | (go_at_call 54; exact Q4.out _ _)))
  refine wpQuiet_nil ?_
  intro _ hw'
  obtain ⟨⟨dq, osq⟩, hw''⟩ := hw'
  subst hw''
  have G2 := hide (Grow.trans' GG.out (below_regrown w0 dq osq))
  clear sg0 sg1 s0 s1 s2 g0 g1 k0 k1 k2
  go_wp2_with fail
  go_ret
  exact ⟨rfl, G2.out⟩
set_option maxHeartbeats 1000000 in
theorem clo5 (gs : Option Addr) (gn gc : Nat) (gt : Option Addr) (gm gq : Nat) (N : List Nd) (E : List Ed) (bg : Nat) (x : Lc) (w : World) (hm : gm ≤ 40) (hG : BoxG w bg ⟨gs, gn, gc, gt, gm, gq, [], []⟩) (hg : IsNds w gs gn gc N) (he : IsEds w gt gm gq E) :
    Calls Tryz.prog 58 #[.agg #[.int .i64 x.n, .int .i64 x.p], .pointer (some ⟨bg, 0, none⟩)] w fun e w' => e = .returned (.bool (!portOk E x)) ∧ Grow w w' := by
  have GG : Hid (Grow w (w.alloc (.cells #[.int .i64 x.n, .int .i64 x.p] 72))) := hide (Grow.alloc' _ _)
  have hm' : (prevP E x).length ≤ 40 := by have := prevP_len E x; rw [he.1] at this; omega
  unfold portOk
  obtain ⟨xn, xp⟩ := x
  dsimp only at GG hm' ⊢
  by_cases hp : xp = -1
  · subst hp
    clear hG hg he
    go_enter Tryz.func58, Tryz.ntmps58
    go_wp2_with fail
    go_ret
    exact ⟨ret_bool (by simp), GG.out⟩
  · have C1 := hide (fun w' (h : Grow w w') => prev_raw gs gn gc gt gm gq E xn xp w' hm (he.later h))
    obtain ⟨L, hL⟩ : ∃ L, L = prevP E ⟨xn, xp⟩ := ⟨_, rfl⟩
    rw [← hL] at C1 hm' ⊢
    obtain ⟨g0, g1⟩ := hG.later GG.out
    dsimp only at g0 g1
    clear hG hg he hL
    go_enter Tryz.func58, Tryz.ntmps58
    go_wp2_with fail
    refine (C1.out _ GG.out).mono ?_
    rintro _ w1 ⟨s, m, c, rfl, hb, hO⟩
    have G1 := hide (Grow.trans' GG.out hb)
    have HL : Hid (L.length = m) := hide hO.1
    clear hb hO g0 g1
    go_wp2_with fail
    go_ret
    exact ⟨ret_bool (by rw [HL.out]; simp [hp]; try omega), G1.out⟩
set_option maxHeartbeats 1000000 in
theorem clo6 (gs : Option Addr) (gn gc : Nat) (gt : Option Addr) (gm gq : Nat) (N : List Nd) (E : List Ed) (bg : Nat) (x : Ed) (hx : edgeB N x = true) (w : World) (hG : BoxG w bg ⟨gs, gn, gc, gt, gm, gq, [], []⟩) (hg : IsNds w gs gn gc N) (he : IsEds w gt gm gq E) :
    Calls Tryz.prog 61 #[.agg #[.int .i64 x.f, .int .i64 x.t, .int .i64 x.p], .pointer (some ⟨bg, 0, none⟩)] w fun e w' => e = .returned (.bool (!routeE N x)) ∧ Grow w w' := by
  have GG : Hid (Grow w (w.alloc (.cells #[.int .i64 x.f, .int .i64 x.t, .int .i64 x.p] 39))) := hide (Grow.alloc' _ _)
  obtain ⟨⟨f0, f1, _⟩, ⟨t0, t1, _⟩, _⟩ := edge_is hx
  unfold routeE
  obtain ⟨xf, xt, xp⟩ := x
  dsimp only at GG f0 f1 t0 t1 ⊢
  obtain ⟨i, rfl⟩ : ∃ i : Nat, xf = i := ⟨xf.toNat, by omega⟩
  obtain ⟨j, rfl⟩ : ∃ j : Nat, xt = j := ⟨xt.toNat, by omega⟩
  have hi : i < N.length := by omega
  have hj : j < N.length := by omega
  have hne : ¬ N = [] := fun h => by rw [h] at hi; simp at hi
  obtain ⟨b, o, rfl, hr1⟩ := hg.2.2.resolve_left hne
  obtain ⟨p0, p1, p2, p3⟩ := (hr1.later GG.out).at i hi
  obtain ⟨q0, q1, q2, q3⟩ := (hr1.later GG.out).at j hj
  rw [← nth_get N i hi] at p0 p1 p2 p3
  rw [← nth_get N j hj] at q0 q1 q2 q3
  have ei : (i : Int).toNat = i := by omega
  have ej : (j : Int).toNat = j := by omega
  rw [ei, ej]
  obtain ⟨x, hx⟩ : ∃ x, x = nth N i := ⟨_, rfl⟩
  obtain ⟨y, hy⟩ : ∃ y, y = nth N j := ⟨_, rfl⟩
  rw [← hx] at p0 p1 p2 p3 ⊢
  rw [← hy] at q0 q1 q2 q3 ⊢
  obtain ⟨xk, xa, xb, xd⟩ := x
  obtain ⟨yk, ya, yb, yd⟩ := y
  dsimp only at p0 p1 p2 p3 q0 q1 q2 q3 ⊢
  obtain ⟨p, hp⟩ : ∃ p, (decide (yk = 6) || decide (yk = 7)) = p := ⟨_, rfl⟩
  have C1 := hide (fun w => needs_at yk ya yb yd hp w)
  rw [hp]
  have hi1 : (0 : Int) ≤ (i : Int) := by omega
  have hi2 : (i : Int) < (gn : Int) := by rw [hg.1] at hi; omega
  have hj1 : (0 : Int) ≤ (j : Int) := by omega
  have hj2 : (j : Int) < (gn : Int) := by rw [hg.1] at hj; omega
  obtain ⟨g0, g1⟩ := hG.later GG.out
  dsimp only at g0 g1
  have P0 := hide (hr1.at i (by omega)).1
  rw [← nth_get N i hi, ← hx] at P0
  have KG := hide hG
  clear hx hy hp hG hg he hne hr1 f0 f1 t0 t1 hi hj ei ej p0 p1 p2 p3
  cases p
  all_goals
    go_enter Tryz.func61, Tryz.ntmps61
    go_wp2_with fail
    refine (C1.out _).mono ?_
    rintro _ w1 ⟨rfl, hb⟩
    have G1 := hide (Grow.trans' GG.out hb)
    obtain ⟨h0, h1⟩ := KG.out.later G1.out
    have p0 := cell_later G1.out P0.out
    have KE := (BoxE.new w ⟨(i : Int), (j : Int), xp⟩).later hb
    obtain ⟨k0, k1, k2⟩ := KE
    dsimp only at h0 h1 p0 k0 k1 k2
    clear hb g0 g1 q0 q1 q2 q3
    go_wp2_with fail
    go_ret
    exact ⟨ret_bool (by simp; try rfl), G1.out⟩

/-! ## slices.ContainsFunc -/
set_option maxHeartbeats 1000000 in
theorem con2_idx (s : Option Addr) (n cap : Nat) (d : List Nd) (q : Nd → Bool) (w : World) (hbig : n ≤ 1000000) (hd : IsNds w s n cap d)
    (HC : ∀ x ∈ d, ∀ w', Grow w w' → Calls Tryz.prog 44 #[.agg #[.int .i64 x.k, .int .i64 x.a, .int .i64 x.b, .int .i64 x.d]] w' fun e w'' => e = .returned (.bool (q x)) ∧ Grow w' w'') :
    Calls Tryz.prog 70 #[.slice s n cap, .func (.func 44) #[] #[]] w fun e w' => (∃ i : Int, e = .returned (.int .i64 i) ∧ decide (0 ≤ i) = d.any q) ∧ Grow w w' := by
  have HI := hide hd
  have HCC := hide HC
  clear hd HC
  go_enter Tryz.func70, Tryz.ntmps70
  go_wp2_with fail
  go_loopw [8] (fun i wr => ∃ k : Nat, k ≤ n ∧ i = .int .i64 (k : Int) ∧ Grow w wr ∧ ∀ j (h : j < d.length), j < k → q d[j] = false) (fun i _ => n - (intOf i).toNat)
  case atStart => exact ⟨0, Nat.zero_le _, rfl, Grow.rfl' _, fun j _ h => by omega⟩
  case round =>
    obtain ⟨k, hk, rfl, hg, hall⟩ := hrel
    have HA := hide hall
    have HG := hide hg
    clear hall
    by_cases hlt : k < n
    · have hkd : k < d.length := by rw [HI.out.1]; exact hlt
      have hne : ¬ d = [] := fun h => by rw [h] at hkd; simp at hkd
      obtain ⟨b, o, rfl, hr1⟩ := HI.out.2.2.resolve_left hne
      obtain ⟨p0, p1, p2, p3⟩ := (hr1.later hg).at k hkd
      obtain ⟨x, hx⟩ : ∃ x, x = d[k] := ⟨_, rfl⟩
      rw [← hx] at p0 p1 p2 p3
      obtain ⟨r, hr⟩ : ∃ r, q x = r := ⟨_, rfl⟩
      have C := hide (HCC.out x (by rw [hx]; exact List.getElem_mem _) wr hg)
      rw [hr] at C
      have HX : Hid (∀ h : k < d.length, q (d[k]'h) = r) := hide (fun h => by rw [← hr, hx])
      have HKD := hide hkd
      obtain ⟨x0, x1, x2, x3⟩ := x
      dsimp only at C p0 p1 p2 p3
      have hi1 : (0 : Int) ≤ (k : Int) := by omega
      have hi2 : (k : Int) < (n : Int) := by omega
      clear hne hr1 hx hr hkd hg
      go_wp2_with fail
      refine C.out.mono ?_
      rintro _ w1 ⟨rfl, hb⟩
      have HG1 := hide (Grow.trans' HG.out hb)
      clear hb p0 p1 p2 p3 C
      cases r
      · go_wp2_with fail
        go_roundw
        case rel =>
          refine ⟨k + 1, by omega, by go_num, HG1.out, fun j h hj => ?_⟩
          by_cases hjk : j < k
          · exact HA.out j h hjk
          · have : j = k := by omega
            subst this
            exact HX.out h
        case measure => simp [intOf]; omega
      · go_wp2_with fail
        go_ret
        refine ⟨⟨(k : Int), rfl, ?_⟩, HG1.out⟩
        have : d.any q = true := List.any_eq_true.2 ⟨d[k]'HKD.out, List.getElem_mem _, HX.out HKD.out⟩
        rw [this]
        simp
    · have hi2 : ¬ (k : Int) < (n : Int) := by omega
      clear hg
      go_wp2_with fail
      go_ret
      refine ⟨⟨-1, rfl, ?_⟩, HG.out⟩
      have : d.any q = false := by
        cases h : d.any q
        · rfl
        · obtain ⟨x, hx, h2⟩ := List.any_eq_true.1 h
          obtain ⟨j, hj, e⟩ := List.getElem_of_mem hx
          have := HA.out j hj (by rw [HI.out.1] at hj; omega)
          rw [e, h2] at this
          cases this
      rw [this]
      rfl
theorem con2_raw (s : Option Addr) (n cap : Nat) (d : List Nd) (q : Nd → Bool) (w : World) (hbig : n ≤ 1000000) (hd : IsNds w s n cap d)
    (HC : ∀ x ∈ d, ∀ w', Grow w w' → Calls Tryz.prog 44 #[.agg #[.int .i64 x.k, .int .i64 x.a, .int .i64 x.b, .int .i64 x.d]] w' fun e w'' => e = .returned (.bool (q x)) ∧ Grow w' w'') :
    Calls Tryz.prog 43 #[.slice s n cap, .func (.func 44) #[] #[]] w fun e w' => e = .returned (.bool (d.any q)) ∧ Grow w w' := by
  have C := hide (con2_idx s n cap d q w hbig hd HC)
  clear hd HC
  go_enter Tryz.func43, Tryz.ntmps43
  go_wp2_with fail
  refine C.out.mono ?_
  rintro _ w1 ⟨⟨i, rfl, hi⟩, hb⟩
  have HI := hide hi
  have HB := hide hb
  clear hi hb
  go_wp2_with fail
  go_ret
  exact ⟨ret_bool (by rw [HI.out]), HB.out⟩
set_option maxHeartbeats 1000000 in
theorem con3_idx (s : Option Addr) (n cap : Nat) (d : List Ed) (q : Ed → Bool) (bg : Nat) (w : World) (hbig : n ≤ 1000000) (hd : IsEds w s n cap d)
    (HC : ∀ x ∈ d, ∀ w', Grow w w' → Calls Tryz.prog 48 #[.agg #[.int .i64 x.f, .int .i64 x.t, .int .i64 x.p], .pointer (some ⟨bg, 0, none⟩)] w' fun e w'' => e = .returned (.bool (q x)) ∧ Grow w' w'') :
    Calls Tryz.prog 73 #[.slice s n cap, .func (.func 48) #[] #[.pointer (some ⟨bg, 0, none⟩)]] w fun e w' => (∃ i : Int, e = .returned (.int .i64 i) ∧ decide (0 ≤ i) = d.any q) ∧ Grow w w' := by
  have HI := hide hd
  have HCC := hide HC
  clear hd HC
  go_enter Tryz.func73, Tryz.ntmps73
  go_wp2_with fail
  go_loopw [8] (fun i wr => ∃ k : Nat, k ≤ n ∧ i = .int .i64 (k : Int) ∧ Grow w wr ∧ ∀ j (h : j < d.length), j < k → q d[j] = false) (fun i _ => n - (intOf i).toNat)
  case atStart => exact ⟨0, Nat.zero_le _, rfl, Grow.rfl' _, fun j _ h => by omega⟩
  case round =>
    obtain ⟨k, hk, rfl, hg, hall⟩ := hrel
    have HA := hide hall
    have HG := hide hg
    clear hall
    by_cases hlt : k < n
    · have hkd : k < d.length := by rw [HI.out.1]; exact hlt
      have hne : ¬ d = [] := fun h => by rw [h] at hkd; simp at hkd
      obtain ⟨b, o, rfl, hr1⟩ := HI.out.2.2.resolve_left hne
      obtain ⟨p0, p1, p2⟩ := (hr1.later hg).at k hkd
      obtain ⟨x, hx⟩ : ∃ x, x = d[k] := ⟨_, rfl⟩
      rw [← hx] at p0 p1 p2
      obtain ⟨r, hr⟩ : ∃ r, q x = r := ⟨_, rfl⟩
      have C := hide (HCC.out x (by rw [hx]; exact List.getElem_mem _) wr hg)
      rw [hr] at C
      have HX : Hid (∀ h : k < d.length, q (d[k]'h) = r) := hide (fun h => by rw [← hr, hx])
      have HKD := hide hkd
      obtain ⟨x0, x1, x2⟩ := x
      dsimp only at C p0 p1 p2
      have hi1 : (0 : Int) ≤ (k : Int) := by omega
      have hi2 : (k : Int) < (n : Int) := by omega
      clear hne hr1 hx hr hkd hg
      go_wp2_with fail
      refine C.out.mono ?_
      rintro _ w1 ⟨rfl, hb⟩
      have HG1 := hide (Grow.trans' HG.out hb)
      clear hb p0 p1 p2 C
      cases r
      · go_wp2_with fail
        go_roundw
        case rel =>
          refine ⟨k + 1, by omega, by go_num, HG1.out, fun j h hj => ?_⟩
          by_cases hjk : j < k
          · exact HA.out j h hjk
          · have : j = k := by omega
            subst this
            exact HX.out h
        case measure => simp [intOf]; omega
      · go_wp2_with fail
        go_ret
        refine ⟨⟨(k : Int), rfl, ?_⟩, HG1.out⟩
        have : d.any q = true := List.any_eq_true.2 ⟨d[k]'HKD.out, List.getElem_mem _, HX.out HKD.out⟩
        rw [this]
        simp
    · have hi2 : ¬ (k : Int) < (n : Int) := by omega
      clear hg
      go_wp2_with fail
      go_ret
      refine ⟨⟨-1, rfl, ?_⟩, HG.out⟩
      have : d.any q = false := by
        cases h : d.any q
        · rfl
        · obtain ⟨x, hx, h2⟩ := List.any_eq_true.1 h
          obtain ⟨j, hj, e⟩ := List.getElem_of_mem hx
          have := HA.out j hj (by rw [HI.out.1] at hj; omega)
          rw [e, h2] at this
          cases this
      rw [this]
      rfl
theorem con3_raw (s : Option Addr) (n cap : Nat) (d : List Ed) (q : Ed → Bool) (bg : Nat) (w : World) (hbig : n ≤ 1000000) (hd : IsEds w s n cap d)
    (HC : ∀ x ∈ d, ∀ w', Grow w w' → Calls Tryz.prog 48 #[.agg #[.int .i64 x.f, .int .i64 x.t, .int .i64 x.p], .pointer (some ⟨bg, 0, none⟩)] w' fun e w'' => e = .returned (.bool (q x)) ∧ Grow w' w'') :
    Calls Tryz.prog 47 #[.slice s n cap, .func (.func 48) #[] #[.pointer (some ⟨bg, 0, none⟩)]] w fun e w' => e = .returned (.bool (d.any q)) ∧ Grow w w' := by
  have C := hide (con3_idx s n cap d q bg w hbig hd HC)
  clear hd HC
  go_enter Tryz.func47, Tryz.ntmps47
  go_wp2_with fail
  refine C.out.mono ?_
  rintro _ w1 ⟨⟨i, rfl, hi⟩, hb⟩
  have HI := hide hi
  have HB := hide hb
  clear hi hb
  go_wp2_with fail
  go_ret
  exact ⟨ret_bool (by rw [HI.out]), HB.out⟩
set_option maxHeartbeats 1000000 in
theorem con4_idx (s : Option Addr) (n cap : Nat) (d : List Ed) (q : Ed → Bool) (bg : Nat) (w : World) (hbig : n ≤ 1000000) (hd : IsEds w s n cap d)
    (HC : ∀ x ∈ d, ∀ w', Grow w w' → Calls Tryz.prog 51 #[.agg #[.int .i64 x.f, .int .i64 x.t, .int .i64 x.p], .pointer (some ⟨bg, 0, none⟩)] w' fun e w'' => e = .returned (.bool (q x)) ∧ Grow w' w'') :
    Calls Tryz.prog 73 #[.slice s n cap, .func (.func 51) #[] #[.pointer (some ⟨bg, 0, none⟩)]] w fun e w' => (∃ i : Int, e = .returned (.int .i64 i) ∧ decide (0 ≤ i) = d.any q) ∧ Grow w w' := by
  have HI := hide hd
  have HCC := hide HC
  clear hd HC
  go_enter Tryz.func73, Tryz.ntmps73
  go_wp2_with fail
  go_loopw [8] (fun i wr => ∃ k : Nat, k ≤ n ∧ i = .int .i64 (k : Int) ∧ Grow w wr ∧ ∀ j (h : j < d.length), j < k → q d[j] = false) (fun i _ => n - (intOf i).toNat)
  case atStart => exact ⟨0, Nat.zero_le _, rfl, Grow.rfl' _, fun j _ h => by omega⟩
  case round =>
    obtain ⟨k, hk, rfl, hg, hall⟩ := hrel
    have HA := hide hall
    have HG := hide hg
    clear hall
    by_cases hlt : k < n
    · have hkd : k < d.length := by rw [HI.out.1]; exact hlt
      have hne : ¬ d = [] := fun h => by rw [h] at hkd; simp at hkd
      obtain ⟨b, o, rfl, hr1⟩ := HI.out.2.2.resolve_left hne
      obtain ⟨p0, p1, p2⟩ := (hr1.later hg).at k hkd
      obtain ⟨x, hx⟩ : ∃ x, x = d[k] := ⟨_, rfl⟩
      rw [← hx] at p0 p1 p2
      obtain ⟨r, hr⟩ : ∃ r, q x = r := ⟨_, rfl⟩
      have C := hide (HCC.out x (by rw [hx]; exact List.getElem_mem _) wr hg)
      rw [hr] at C
      have HX : Hid (∀ h : k < d.length, q (d[k]'h) = r) := hide (fun h => by rw [← hr, hx])
      have HKD := hide hkd
      obtain ⟨x0, x1, x2⟩ := x
      dsimp only at C p0 p1 p2
      have hi1 : (0 : Int) ≤ (k : Int) := by omega
      have hi2 : (k : Int) < (n : Int) := by omega
      clear hne hr1 hx hr hkd hg
      go_wp2_with fail
      refine C.out.mono ?_
      rintro _ w1 ⟨rfl, hb⟩
      have HG1 := hide (Grow.trans' HG.out hb)
      clear hb p0 p1 p2 C
      cases r
      · go_wp2_with fail
        go_roundw
        case rel =>
          refine ⟨k + 1, by omega, by go_num, HG1.out, fun j h hj => ?_⟩
          by_cases hjk : j < k
          · exact HA.out j h hjk
          · have : j = k := by omega
            subst this
            exact HX.out h
        case measure => simp [intOf]; omega
      · go_wp2_with fail
        go_ret
        refine ⟨⟨(k : Int), rfl, ?_⟩, HG1.out⟩
        have : d.any q = true := List.any_eq_true.2 ⟨d[k]'HKD.out, List.getElem_mem _, HX.out HKD.out⟩
        rw [this]
        simp
    · have hi2 : ¬ (k : Int) < (n : Int) := by omega
      clear hg
      go_wp2_with fail
      go_ret
      refine ⟨⟨-1, rfl, ?_⟩, HG.out⟩
      have : d.any q = false := by
        cases h : d.any q
        · rfl
        · obtain ⟨x, hx, h2⟩ := List.any_eq_true.1 h
          obtain ⟨j, hj, e⟩ := List.getElem_of_mem hx
          have := HA.out j hj (by rw [HI.out.1] at hj; omega)
          rw [e, h2] at this
          cases this
      rw [this]
      rfl
theorem con4_raw (s : Option Addr) (n cap : Nat) (d : List Ed) (q : Ed → Bool) (bg : Nat) (w : World) (hbig : n ≤ 1000000) (hd : IsEds w s n cap d)
    (HC : ∀ x ∈ d, ∀ w', Grow w w' → Calls Tryz.prog 51 #[.agg #[.int .i64 x.f, .int .i64 x.t, .int .i64 x.p], .pointer (some ⟨bg, 0, none⟩)] w' fun e w'' => e = .returned (.bool (q x)) ∧ Grow w' w'') :
    Calls Tryz.prog 47 #[.slice s n cap, .func (.func 51) #[] #[.pointer (some ⟨bg, 0, none⟩)]] w fun e w' => e = .returned (.bool (d.any q)) ∧ Grow w w' := by
  have C := hide (con4_idx s n cap d q bg w hbig hd HC)
  clear hd HC
  go_enter Tryz.func47, Tryz.ntmps47
  go_wp2_with fail
  refine C.out.mono ?_
  rintro _ w1 ⟨⟨i, rfl, hi⟩, hb⟩
  have HI := hide hi
  have HB := hide hb
  clear hi hb
  go_wp2_with fail
  go_ret
  exact ⟨ret_bool (by rw [HI.out]), HB.out⟩
set_option maxHeartbeats 1000000 in
theorem con5_idx (s : Option Addr) (n cap : Nat) (d : List Lc) (q : Lc → Bool) (bg : Nat) (w : World) (hbig : n ≤ 1000000) (hd : IsLcs w s n cap d)
    (HC : ∀ x ∈ d, ∀ w', Grow w w' → Calls Tryz.prog 58 #[.agg #[.int .i64 x.n, .int .i64 x.p], .pointer (some ⟨bg, 0, none⟩)] w' fun e w'' => e = .returned (.bool (q x)) ∧ Grow w' w'') :
    Calls Tryz.prog 76 #[.slice s n cap, .func (.func 58) #[] #[.pointer (some ⟨bg, 0, none⟩)]] w fun e w' => (∃ i : Int, e = .returned (.int .i64 i) ∧ decide (0 ≤ i) = d.any q) ∧ Grow w w' := by
  have HI := hide hd
  have HCC := hide HC
  clear hd HC
  go_enter Tryz.func76, Tryz.ntmps76
  go_wp2_with fail
  go_loopw [8] (fun i wr => ∃ k : Nat, k ≤ n ∧ i = .int .i64 (k : Int) ∧ Grow w wr ∧ ∀ j (h : j < d.length), j < k → q d[j] = false) (fun i _ => n - (intOf i).toNat)
  case atStart => exact ⟨0, Nat.zero_le _, rfl, Grow.rfl' _, fun j _ h => by omega⟩
  case round =>
    obtain ⟨k, hk, rfl, hg, hall⟩ := hrel
    have HA := hide hall
    have HG := hide hg
    clear hall
    by_cases hlt : k < n
    · have hkd : k < d.length := by rw [HI.out.1]; exact hlt
      have hne : ¬ d = [] := fun h => by rw [h] at hkd; simp at hkd
      obtain ⟨b, o, rfl, hr1⟩ := HI.out.2.2.resolve_left hne
      obtain ⟨p0, p1⟩ := (hr1.later hg).at k hkd
      obtain ⟨x, hx⟩ : ∃ x, x = d[k] := ⟨_, rfl⟩
      rw [← hx] at p0 p1
      obtain ⟨r, hr⟩ : ∃ r, q x = r := ⟨_, rfl⟩
      have C := hide (HCC.out x (by rw [hx]; exact List.getElem_mem _) wr hg)
      rw [hr] at C
      have HX : Hid (∀ h : k < d.length, q (d[k]'h) = r) := hide (fun h => by rw [← hr, hx])
      have HKD := hide hkd
      obtain ⟨x0, x1⟩ := x
      dsimp only at C p0 p1
      have hi1 : (0 : Int) ≤ (k : Int) := by omega
      have hi2 : (k : Int) < (n : Int) := by omega
      clear hne hr1 hx hr hkd hg
      go_wp2_with fail
      refine C.out.mono ?_
      rintro _ w1 ⟨rfl, hb⟩
      have HG1 := hide (Grow.trans' HG.out hb)
      clear hb p0 p1 C
      cases r
      · go_wp2_with fail
        go_roundw
        case rel =>
          refine ⟨k + 1, by omega, by go_num, HG1.out, fun j h hj => ?_⟩
          by_cases hjk : j < k
          · exact HA.out j h hjk
          · have : j = k := by omega
            subst this
            exact HX.out h
        case measure => simp [intOf]; omega
      · go_wp2_with fail
        go_ret
        refine ⟨⟨(k : Int), rfl, ?_⟩, HG1.out⟩
        have : d.any q = true := List.any_eq_true.2 ⟨d[k]'HKD.out, List.getElem_mem _, HX.out HKD.out⟩
        rw [this]
        simp
    · have hi2 : ¬ (k : Int) < (n : Int) := by omega
      clear hg
      go_wp2_with fail
      go_ret
      refine ⟨⟨-1, rfl, ?_⟩, HG.out⟩
      have : d.any q = false := by
        cases h : d.any q
        · rfl
        · obtain ⟨x, hx, h2⟩ := List.any_eq_true.1 h
          obtain ⟨j, hj, e⟩ := List.getElem_of_mem hx
          have := HA.out j hj (by rw [HI.out.1] at hj; omega)
          rw [e, h2] at this
          cases this
      rw [this]
      rfl
theorem con5_raw (s : Option Addr) (n cap : Nat) (d : List Lc) (q : Lc → Bool) (bg : Nat) (w : World) (hbig : n ≤ 1000000) (hd : IsLcs w s n cap d)
    (HC : ∀ x ∈ d, ∀ w', Grow w w' → Calls Tryz.prog 58 #[.agg #[.int .i64 x.n, .int .i64 x.p], .pointer (some ⟨bg, 0, none⟩)] w' fun e w'' => e = .returned (.bool (q x)) ∧ Grow w' w'') :
    Calls Tryz.prog 56 #[.slice s n cap, .func (.func 58) #[] #[.pointer (some ⟨bg, 0, none⟩)]] w fun e w' => e = .returned (.bool (d.any q)) ∧ Grow w w' := by
  have C := hide (con5_idx s n cap d q bg w hbig hd HC)
  clear hd HC
  go_enter Tryz.func56, Tryz.ntmps56
  go_wp2_with fail
  refine C.out.mono ?_
  rintro _ w1 ⟨⟨i, rfl, hi⟩, hb⟩
  have HI := hide hi
  have HB := hide hb
  clear hi hb
  go_wp2_with fail
  go_ret
  exact ⟨ret_bool (by rw [HI.out]), HB.out⟩
set_option maxHeartbeats 1000000 in
theorem con6_idx (s : Option Addr) (n cap : Nat) (d : List Ed) (q : Ed → Bool) (bg : Nat) (w : World) (hbig : n ≤ 1000000) (hd : IsEds w s n cap d)
    (HC : ∀ x ∈ d, ∀ w', Grow w w' → Calls Tryz.prog 61 #[.agg #[.int .i64 x.f, .int .i64 x.t, .int .i64 x.p], .pointer (some ⟨bg, 0, none⟩)] w' fun e w'' => e = .returned (.bool (q x)) ∧ Grow w' w'') :
    Calls Tryz.prog 73 #[.slice s n cap, .func (.func 61) #[] #[.pointer (some ⟨bg, 0, none⟩)]] w fun e w' => (∃ i : Int, e = .returned (.int .i64 i) ∧ decide (0 ≤ i) = d.any q) ∧ Grow w w' := by
  have HI := hide hd
  have HCC := hide HC
  clear hd HC
  go_enter Tryz.func73, Tryz.ntmps73
  go_wp2_with fail
  go_loopw [8] (fun i wr => ∃ k : Nat, k ≤ n ∧ i = .int .i64 (k : Int) ∧ Grow w wr ∧ ∀ j (h : j < d.length), j < k → q d[j] = false) (fun i _ => n - (intOf i).toNat)
  case atStart => exact ⟨0, Nat.zero_le _, rfl, Grow.rfl' _, fun j _ h => by omega⟩
  case round =>
    obtain ⟨k, hk, rfl, hg, hall⟩ := hrel
    have HA := hide hall
    have HG := hide hg
    clear hall
    by_cases hlt : k < n
    · have hkd : k < d.length := by rw [HI.out.1]; exact hlt
      have hne : ¬ d = [] := fun h => by rw [h] at hkd; simp at hkd
      obtain ⟨b, o, rfl, hr1⟩ := HI.out.2.2.resolve_left hne
      obtain ⟨p0, p1, p2⟩ := (hr1.later hg).at k hkd
      obtain ⟨x, hx⟩ : ∃ x, x = d[k] := ⟨_, rfl⟩
      rw [← hx] at p0 p1 p2
      obtain ⟨r, hr⟩ : ∃ r, q x = r := ⟨_, rfl⟩
      have C := hide (HCC.out x (by rw [hx]; exact List.getElem_mem _) wr hg)
      rw [hr] at C
      have HX : Hid (∀ h : k < d.length, q (d[k]'h) = r) := hide (fun h => by rw [← hr, hx])
      have HKD := hide hkd
      obtain ⟨x0, x1, x2⟩ := x
      dsimp only at C p0 p1 p2
      have hi1 : (0 : Int) ≤ (k : Int) := by omega
      have hi2 : (k : Int) < (n : Int) := by omega
      clear hne hr1 hx hr hkd hg
      go_wp2_with fail
      refine C.out.mono ?_
      rintro _ w1 ⟨rfl, hb⟩
      have HG1 := hide (Grow.trans' HG.out hb)
      clear hb p0 p1 p2 C
      cases r
      · go_wp2_with fail
        go_roundw
        case rel =>
          refine ⟨k + 1, by omega, by go_num, HG1.out, fun j h hj => ?_⟩
          by_cases hjk : j < k
          · exact HA.out j h hjk
          · have : j = k := by omega
            subst this
            exact HX.out h
        case measure => simp [intOf]; omega
      · go_wp2_with fail
        go_ret
        refine ⟨⟨(k : Int), rfl, ?_⟩, HG1.out⟩
        have : d.any q = true := List.any_eq_true.2 ⟨d[k]'HKD.out, List.getElem_mem _, HX.out HKD.out⟩
        rw [this]
        simp
    · have hi2 : ¬ (k : Int) < (n : Int) := by omega
      clear hg
      go_wp2_with fail
      go_ret
      refine ⟨⟨-1, rfl, ?_⟩, HG.out⟩
      have : d.any q = false := by
        cases h : d.any q
        · rfl
        · obtain ⟨x, hx, h2⟩ := List.any_eq_true.1 h
          obtain ⟨j, hj, e⟩ := List.getElem_of_mem hx
          have := HA.out j hj (by rw [HI.out.1] at hj; omega)
          rw [e, h2] at this
          cases this
      rw [this]
      rfl
theorem con6_raw (s : Option Addr) (n cap : Nat) (d : List Ed) (q : Ed → Bool) (bg : Nat) (w : World) (hbig : n ≤ 1000000) (hd : IsEds w s n cap d)
    (HC : ∀ x ∈ d, ∀ w', Grow w w' → Calls Tryz.prog 61 #[.agg #[.int .i64 x.f, .int .i64 x.t, .int .i64 x.p], .pointer (some ⟨bg, 0, none⟩)] w' fun e w'' => e = .returned (.bool (q x)) ∧ Grow w' w'') :
    Calls Tryz.prog 47 #[.slice s n cap, .func (.func 61) #[] #[.pointer (some ⟨bg, 0, none⟩)]] w fun e w' => e = .returned (.bool (d.any q)) ∧ Grow w w' := by
  have C := hide (con6_idx s n cap d q bg w hbig hd HC)
  clear hd HC
  go_enter Tryz.func47, Tryz.ntmps47
  go_wp2_with fail
  refine C.out.mono ?_
  rintro _ w1 ⟨⟨i, rfl, hi⟩, hb⟩
  have HI := hide hi
  have HB := hide hb
  clear hi hb
  go_wp2_with fail
  go_ret
  exact ⟨ret_bool (by rw [HI.out]), HB.out⟩

end Go.Proofs.YtjebipagehhkjaaGreat
