/-
  What the document's own Reduce does to the world: of every row one record of each key, the keys rising, in a row of its own; what was there stays as it was.
-/
import Derived.Test.YthkkjhjbojbbaaaFRed
import Derived.Test.YthkkjhjbojbbaaaFRef
import Derived.Test.YthkkjhjbojbbaaaFPl2
import Derived.Test.YthkkjhjbojbbaaaGRk
namespace Go.Proofs.Ythkkjhjbojbbaaa
set_option maxRecDepth 100000
open Go.RowKit Go.Sort
set_option linter.unusedVariables false
set_option linter.unusedSimpArgs false

/-- What the records so far have come to. -/
def XOf (a : Int) (g : List Rc) (x : Int) : Prop := (a = 2 → x = sumV g) ∧ (a = 3 → g ≠ [] → IsMax g x) ∧ (a = 4 → g ≠ [] → IsMin g x)
theorem xOf_nil (a : Int) : XOf a [] 0 := ⟨fun _ => rfl, fun _ h => absurd rfl h, fun _ h => absurd rfl h⟩
theorem key_step (D : List Rc) (c : Int) (k : Nat) (hk : k < D.length) : (D.take (k + 1)).filter (ofKey c) = (D.take k).filter (ofKey c) ++ (if (D[k]).k = c then [D[k]] else []) := by
  rw [← List.take_append_getElem hk, List.filter_append]
  by_cases h : (D[k]).k = c <;> simp [h, ofKey]
theorem key_len (D : List Rc) (c : Int) (k : Nat) : ((D.take k).filter (ofKey c)).length ≤ k := by
  have := List.length_filter_le (ofKey c) (D.take k)
  rw [List.length_take] at this
  omega
theorem xOf_2 {g : List Rc} {x : Int} (y : Rc) (h : XOf 2 g x) : XOf 2 (g ++ [y]) (x + y.v) := ⟨fun _ => by rw [sumV_app, sumV_one, ← h.1 rfl], fun e => by omega, fun e => by omega⟩
theorem xOf_1 (g : List Rc) (x : Int) : XOf 1 g x := ⟨fun e => by omega, fun e => by omega, fun e => by omega⟩
theorem xOf_30 (y : Rc) : XOf 3 ([] ++ [y]) y.v := ⟨fun e => by omega, fun _ _ => IsMax.one y, fun e => by omega⟩
theorem xOf_40 (y : Rc) : XOf 4 ([] ++ [y]) y.v := ⟨fun e => by omega, fun e => by omega, fun _ _ => IsMin.one y⟩
theorem xOf_3a {g : List Rc} {x : Int} (y : Rc) (hg : g ≠ []) (h : XOf 3 g x) (hx : x < y.v) : XOf 3 (g ++ [y]) y.v := ⟨fun e => by omega, fun _ _ => by have := (h.2.1 rfl hg).snoc y; rwa [if_pos hx] at this, fun e => by omega⟩
theorem xOf_3b {g : List Rc} {x : Int} (y : Rc) (hg : g ≠ []) (h : XOf 3 g x) (hx : ¬ x < y.v) : XOf 3 (g ++ [y]) x := ⟨fun e => by omega, fun _ _ => by have := (h.2.1 rfl hg).snoc y; rwa [if_neg hx] at this, fun e => by omega⟩
theorem xOf_4a {g : List Rc} {x : Int} (y : Rc) (hg : g ≠ []) (h : XOf 4 g x) (hx : y.v < x) : XOf 4 (g ++ [y]) y.v := ⟨fun e => by omega, fun e => by omega, fun _ _ => by have := (h.2.2 rfl hg).snoc y; rwa [if_pos hx] at this⟩
theorem xOf_4b {g : List Rc} {x : Int} (y : Rc) (hg : g ≠ []) (h : XOf 4 g x) (hx : ¬ y.v < x) : XOf 4 (g ++ [y]) x := ⟨fun e => by omega, fun e => by omega, fun _ _ => by have := (h.2.2 rfl hg).snoc y; rwa [if_neg hx] at this⟩
theorem held_agg (a : Int) (ha : mayRedB a = true) {g : List Rc} {x : Int} (hn : g ≠ []) (hl : g.length ≤ 1000000) (hv : ∀ r ∈ g, -1099511627776 ≤ r.v ∧ r.v ≤ 1099511627776) (h : XOf a g x) : heldI (if a = 1 then (g.length : Int) else x) = agg a g := by
  have hin := agg_in a hn hl hv
  have : a = 1 ∨ a = 2 ∨ a = 3 ∨ a = 4 := by simp [mayRedB] at ha; omega
  rcases this with rfl | rfl | rfl | rfl
  · rw [if_pos rfl]
    unfold agg at hin ⊢
    rw [if_pos rfl] at hin ⊢
    exact heldI_id hin
  · rw [if_neg (by decide), h.1 rfl]
    unfold agg
    rw [if_neg (by decide), if_pos rfl]
  · rw [if_neg (by decide), (h.2.1 rfl hn).unique (maxV_is hn), ← agg3]
    exact heldI_id hin
  · rw [if_neg (by decide), (h.2.2 rfl hn).unique (minV_is hn), ← agg4]
    exact heldI_id hin
theorem ne_of_len {g : List Rc} {n : Nat} (h : g.length = n) (hn : ¬ n = 0) : g ≠ [] := fun e => by rw [e] at h; simp at h; omega
theorem nil_of_len {g : List Rc} {n : Nat} (h : g.length = n) (hn : n = 0) : g = [] := List.eq_nil_of_length_eq_zero (by omega)

theorem refRed_no (a : Int) (s : Option Addr) (n cap : Nat) (ha : mayRedB a = false) (w : World) :
    Calls Try.prog 24 #[.int .i64 a, .slice s n cap] w fun e w' => ∃ g, e = .returned (.slice g 0 0) ∧ Grow w w' := by
  have C := hide (refMayRed_at a ha (w.alloc (.cells #[] 23)))
  clear ha
  go_enter Try.func24, Try.ntmps24
  go_wp2_with fail
  refine (C.out).mono ?_
  rintro e w1 ⟨rfl, rfl⟩
  go_wp2_with fail
  go_ret
  exact ⟨_, rfl, Grow.alloc' _ _⟩

def keyRec (a : Int) (d : List Rc) (k : Int) : Rc := ⟨k, agg a (d.filter (ofKey k))⟩
theorem gby_post {a b' c : World} {row : Option Nat} (h : a.grownBy b' row) (k : Grow b' c) : a.grownBy c row :=
  ⟨k.os.trans h.os, k.tape.trans h.tape, k.output.trans h.output, Nat.le_trans h.size k.size, fun i hi hne => (k.block i (Nat.lt_of_lt_of_le hi h.size)).trans (h.block i hi hne)⟩
theorem gby_but {a b' : World} {row : Option Nat} (h : Grow a b') : a.grownBy b' row := ⟨h.os, h.tape, h.output, h.size, fun k hk _ => h.block k hk⟩
theorem grow_trn {W a b' : World} {g : Nat} (h : Grow W a) (k : a.grownBy b' (some g)) (hg : W.heap.size ≤ g) : Grow W b' := Below.grown h k h.size (fun i e => by cases e; exact hg)
/-- The keys' row lies apart from block g. -/
def KeysIn (w : World) (sk : Option Addr) (g : Nat) (ks : List Int) : Prop := ∀ j (h : j < ks.length), ∃ bk ok, sk = some ⟨bk, ok, none⟩ ∧ w.cell? ⟨bk, ok + j, none⟩ = some (.int .i64 ks[j]) ∧ bk ≠ g
theorem KeysIn.later {w w' : World} {sk : Option Addr} {g : Nat} {ks : List Int} (hg : Grow w w') (h : KeysIn w sk g ks) : KeysIn w' sk g ks := fun j hj => by
  obtain ⟨bk, ok, h1, h2, h3⟩ := h j hj
  exact ⟨bk, ok, h1, cell_later hg h2, h3⟩
theorem KeysIn.turn {w w' : World} {sk : Option Addr} {g g2 : Nat} {ks : List Int} (h : KeysIn w sk g ks) (hg : w.grownBy w' (some g)) (hl : g2 = g ∨ w.heap.size ≤ g2) : KeysIn w' sk g2 ks := fun j hj => by
  obtain ⟨bk, ok, h1, h2, h3⟩ := h j hj
  refine ⟨bk, ok, h1, hg.cell h2 (fun e => h3 (Option.some.inj e)), ?_⟩
  have : bk < w.heap.size := World.block_lt_of_cell? _ _ h2
  rcases hl with e | e
  · rw [e]; exact h3
  · omega
theorem keysIn_new {w : World} {sk : Option Addr} {nk ck base g : Nat} {ks : List Int} (h : IsIns w sk nk ck ks) (ho : OwnR w base g 0 []) : KeysIn w sk g ks := fun j hj => by
  obtain ⟨bk, ok, h1, h2⟩ := h.row.resolve_left (fun e => by rw [e] at hj; simp at hj)
  refine ⟨bk, ok, h1, h2 j hj, fun e => ?_⟩
  subst e
  obtain ⟨cur, _, hg, _, _, hsz, _⟩ := ho.parts
  have := h2 j hj
  rw [cell_of_row w bk (ok + j) cur _ _ hg] at this
  have h0 : cur = #[] := by simpa using hsz
  rw [h0] at this
  simp at this
/-- A slice that append has made, of so many, and where it lies. -/
def AppG (ws : World) (base g n : Nat) (d : List Rc) (v : Value) (w : World) : Prop := ∃ s2 c2, v = .slice s2 n c2 ∧ OwnRV w base s2 n c2 d ∧ ∃ g2, s2 = some ⟨g2, 0, none⟩ ∧ (g2 = g ∨ ws.heap.size ≤ g2)
theorem AppG.later {ws : World} {base g n : Nat} {d : List Rc} {v : Value} {w w' : World} (hg : Grow w w') : AppG ws base g n d v w → AppG ws base g n d v w' := fun ⟨s2, c2, e, h, l⟩ => ⟨s2, c2, e, h.later hg, l⟩
theorem OwnRV.own {w : World} {base g n cap : Nat} {d : List Rc} (h : OwnRV w base (some ⟨g, 0, none⟩) n cap d) : OwnR w base g cap d := by
  obtain ⟨_, ⟨e, _⟩ | ⟨g', e, ho⟩⟩ := h
  · cases e
  · cases e; exact ho
theorem run_apG {ws w : World} {base g : Nat} (hg : ws.grownBy w (some g)) (rt : TypeId) (n cap : Nat) (d : List Rc) (t : Rc) (hown : OwnR w base g cap d) (hn : d.length = n) (b : Nat) (he : IsRcs w (some ⟨b, 0, none⟩) 1 1 [t]) (hlen : n + 1 ≤ 1000000) (hbase : base ≤ w.heap.size) :
    ∃ s2 c2 w2, (Builtin.append_ #[30, 30] rt #[.slice (some ⟨g, 0, none⟩) n cap, .slice (some ⟨b, 0, none⟩) 1 1]).run Try.prog w = .ok (.slice s2 (n + 1) c2) w2
      ∧ OwnRV w2 base s2 (n + 1) c2 (d ++ [t]) ∧ ws.grownBy w2 (some g) ∧ ∃ g2, s2 = some ⟨g2, 0, none⟩ ∧ (g2 = g ∨ ws.heap.size ≤ g2) := by
  subst hn
  obtain ⟨i, hi, hz, hsz, hby⟩ := info_rc
  obtain ⟨b', o', hs', hr⟩ := he.2.2.resolve_left (by simp)
  cases hs'
  obtain ⟨v', w', h0, h1, h2, h3, h4⟩ := run_append_own_at (P := Try.prog) w base 30 rt 23 i _ 2 16 Try.underlying30 hi hz hsz hby rfl (by omega) _ d.length (flatR d) hown ⟨b, 0, none⟩ 1 1 (flatR [t]) (by rw [flatR_len]; rfl) (fun j u hj => by rw [addr_add]; exact hr j u hj) (oneCell_flatR _) (by simp [maxLen]; omega) (by omega) hbase
  have hl : (d ++ [t]).length = d.length + 1 := by simp
  have h2' : w.grownBy w' (some g) := h2
  rcases h1.2 with ⟨h', h''⟩ | ⟨g', cap', cur, h', hb, hg', k1, k2, k3, k4⟩
  · have h5 : d.length + 1 = 0 := h''
    omega
  · subst h'
    refine ⟨some ⟨g', 0, none⟩, cap', w', h0, ⟨hl, .inr ⟨g', rfl, OwnR.mk' hb hg' (by rw [hl]; exact k1) k2 k3 (by rw [hl, flatR_append]; exact k4)⟩⟩, World.grownBy.trans hg h2', g', rfl, ?_⟩
    rcases h4 with h4 | h4 <;> simp [Value.ownBlock] at h4
    · exact .inl h4
    · right
      rw [h4]
      exact hg.size

/- WALKS -/
set_option maxHeartbeats 8000000 in
theorem refRed_1 (s : Option Addr) (n cap : Nat) (d : List Rc) (w : World) (hbig : n ≤ 1000) (hv : ∀ r ∈ d, -1099511627776 ≤ r.v ∧ r.v ≤ 1099511627776) (hd : IsRcs w s n cap d) :
    Calls Try.prog 24 #[.int .i64 1, .slice s n cap] w fun e w' => ∃ s2 n2 c2, e = .returned (.slice s2 n2 c2) ∧ Grow w w' ∧ IsRcs w' s2 n2 c2 (redR 1 d) := by
  have HV := hide hv
  have HDL := hide hd.1
  have G0 : Hid (Grow w (w.alloc (.cells #[] 23))) := hide (Grow.alloc' _ _)
  have O0 : Hid (OwnR (w.alloc (.cells #[] 23)) w.heap.size w.heap.size 0 []) := hide (OwnR.lit0 w _ (Nat.le_refl _))
  have C0 := hide (refMayRed_at 1 (p := true) rfl (w.alloc (.cells #[] 23)))
  have C1 := hide (refKeys_at s n cap d (w.alloc (.cells #[] 23)) (by omega) (hd.later G0.out))
  have D0 := hide hd
  clear hd hv
  go_enter Try.func24, Try.ntmps24
  go_wp2_with fail
  refine (C0.out).mono ?_
  rintro e w1 ⟨rfl, rfl⟩
  go_wp2_with fail
  refine (C1.out).mono ?_
  rintro e w2 ⟨sk, nk, ck, rfl, hb, hK⟩
  have G2 := hide (Grow.trans' G0.out hb)
  have O2 := hide (O0.out.later hb)
  have K2 := hide (keysIn_new hK O2.out)
  have HKL := hide hK.len
  have hnk : nk ≤ 1000 := by
    have h1 := keysR_len d
    rw [hK.len, HDL.out] at h1
    omega
  clear hb hK C1 C0 O0 G0
  go_wp2_with fail
  go_loopw [5, 8] (fun v i wr => ∃ (k g cl : Nat), k ≤ nk ∧ v = .slice (some ⟨g, 0, none⟩) k cl ∧ i = .int .i64 k ∧ Grow w wr ∧ KeysIn wr sk g (keysR d) ∧ OwnR wr w.heap.size g cl (((keysR d).take k).map (keyRec 1 d))) (fun _ i _ => nk - (intOf i).toNat)
  case atStart => exact ⟨0, _, 0, Nat.zero_le _, rfl, rfl, G2.out, K2.out, O2.out⟩
  case round =>
    obtain ⟨k, g, cl, hk, rfl, rfl, hg, hKI, hO⟩ := hrel
    have HG := hide hg
    have HO := hide hO
    have HKI := hide hKI
    have hwg : w.heap.size ≤ g := hO.le.1
    clear hO
    by_cases hlt : k < nk
    · have hkK : k < (keysR d).length := by rw [HKL.out]; exact hlt
      obtain ⟨bk, ok, hsk, hck, hbg⟩ := hKI k hkK
      subst hsk
      have HST0 := hide (List.take_append_getElem hkK)
      have hmem := List.getElem_mem hkK
      obtain ⟨c, hc⟩ : ∃ c, c = (keysR d)[k] := ⟨_, rfl⟩
      rw [← hc] at hck HST0 hmem
      have HNE := hide (filter_ne hmem)
      have CK := hide hck
      have hi1 : (0 : Int) ≤ (k : Int) := by omega
      have hi2 : (k : Int) < (nk : Int) := by omega
      clear hKI hck hc hmem hg
      rename World => wo
      go_wp2_with fail
      go_loopw [9, 10, 11] (fun u v i wr => ∃ (j nn : Nat) (X : Int), j ≤ n ∧ u = .int .i64 nn ∧ v = .int .i64 X ∧ i = .int .i64 j ∧ Grow wo wr ∧ ((d.take j).filter (ofKey c)).length = nn ∧ XOf 1 ((d.take j).filter (ofKey c)) X) (fun _ _ i _ => n - (intOf i).toNat)
      case atStart => exact ⟨0, 0, 0, Nat.zero_le _, rfl, rfl, rfl, Grow.rfl' _, rfl, xOf_nil _⟩
      case round =>
        obtain ⟨j, nn, X, hj, rfl, rfl, rfl, hq, hLN, hXO⟩ := hrel
        have HQ := hide hq
        have HLN := hide hLN
        have HXO := hide hXO
        have hnn : nn ≤ j := by rw [← hLN]; exact key_len d c j
        clear hLN hXO
        by_cases hlj : j < n
        · have hjD : j < d.length := by rw [HDL.out]; exact hlj
          have hne : ¬ d = [] := fun h => by rw [h] at hjD; simp at hjD
          obtain ⟨bd, od, hsd, hrd⟩ := D0.out.2.2.resolve_left hne
          subst hsd
          have HRD := hide (hrd.later HG.out)
          obtain ⟨p0, p1⟩ := (HRD.out.later hq).at j hjD
          have q0 := cell_later hq CK.out
          have HST := hide (key_step d c j hjD)
          have hvy := HV.out d[j] (List.getElem_mem _)
          obtain ⟨y, hy⟩ : ∃ y, y = d[j] := ⟨_, rfl⟩
          rw [← hy] at p0 p1 HST hvy
          have HY := hide hy
          have hj1 : (0 : Int) ≤ (j : Int) := by omega
          have hj2 : (j : Int) < (n : Int) := by omega
          clear hne hrd hy hq
          by_cases hyc : y.k = c
          · rw [if_pos hyc] at HST
            have he : (y.k != c) = false := by simpa using hyc
            clear hyc
            go_wp2
            go_quiet (fail)
            have HQ2 := hide (Grow.trans' HQ.out (below_drewN (Below.refl _ _) nq))
            clear p0 p1 q0 HQ he
            generalize wr.drewN nq = wz at *
            obtain ⟨p0, p1⟩ := (HRD.out.later HQ2.out).at j hjD
            rw [← HY.out] at p0 p1
            have hw2 : nn = 0 ∨ ¬ nn = 0 := by omega
            rcases hw2 with hn0 | hn0
            · have e0 : ((nn : Int) == 0) = true := by simp; omega
              have f0 : (nn == 0) = true := by simp; omega
              have HNX := hide (show XOf 1 ((d.take j).filter (ofKey c) ++ [y]) (y.v) from xOf_1 _ _)
              clear hn0
              go_wp2_with fail
              go_roundw
              case rel => exact ⟨j + 1, nn + 1, y.v, by omega, by go_num, rfl, by go_num, HQ2.out, by rw [HST.out, List.length_append, HLN.out]; rfl, by rw [HST.out]; exact HNX.out⟩
              case measure => simp [intOf]; omega
            · have e0 : ((nn : Int) == 0) = false := by simp; omega
              have f0 : (nn == 0) = false := by simp; omega
              have HNX := hide (show XOf 1 ((d.take j).filter (ofKey c) ++ [y]) (X) from xOf_1 _ _)
              clear hn0
              go_wp2_with fail
              go_roundw
              case rel => exact ⟨j + 1, nn + 1, X, by omega, by go_num, rfl, by go_num, HQ2.out, by rw [HST.out, List.length_append, HLN.out]; rfl, by rw [HST.out]; exact HNX.out⟩
              case measure => simp [intOf]; omega
          · rw [if_neg hyc, List.append_nil] at HST
            have he : (y.k != c) = true := by simpa using hyc
            clear hyc
            go_wp2
            go_quiet (fail)
            have HQ2 := hide (Grow.trans' HQ.out (below_drewN (Below.refl _ _) nq))
            clear p0 p1 q0 HQ he
            generalize wr.drewN nq = wz at *
            go_wp2_with fail
            go_roundw
            case rel => exact ⟨j + 1, nn, X, by omega, rfl, rfl, by go_num, HQ2.out, by rw [HST.out]; exact HLN.out, by rw [HST.out]; exact HXO.out⟩
            case measure => simp [intOf]; omega
        · have hjn : ¬ (j : Int) < (n : Int) := by omega
          have HT : Hid (d.take j = d) := hide (List.take_of_length_le (by rw [HDL.out]; omega))
          rw [HT.out] at HLN HXO
          have HAG := hide (held_agg 1 rfl HNE.out (by rw [HLN.out]; omega) (fun r hr => HV.out r (List.mem_filter.1 hr).1) HXO.out)
          rw [HLN.out] at HAG
          rename World => ws
          have GWS := hide (Grow.trans' HG.out hq)
          have KWS := hide (HKI.out.later hq)
          have OWS := hide (HO.out.later hq)
          have CKW := hide (cell_later hq CK.out)
          obtain ⟨T, hT⟩ : ∃ T, T = ((keysR d).take k).map (keyRec 1 d) := ⟨_, rfl⟩
          rw [← hT] at OWS
          have hTl : T.length = k := by rw [hT, List.length_map, List.length_take]; omega
          have HTL := hide hTl
          have HTT := hide hT
          have hbg' : (some bk : Option Nat) ≠ some g := fun e => hbg (Option.some.inj e)
          have HBG' := hide hbg'
          clear hq hTl hT hbg'
          go_wp2_with fail
          have HGG : ∀ wa wb, (Grow w wa ∧ ws.grownBy wa (some g)) → Grow wa wb → (Grow w wb ∧ ws.grownBy wb (some g)) := fun _ _ h q => ⟨Grow.trans' h.1 q, gby_post h.2 q⟩
          have HBG : ∀ wa wb, Grow wa wb → OwnR wa w.heap.size g cl T → OwnR wb w.heap.size g cl T := fun _ _ q h => h.later q
          have HG0 : ∀ w', Grow ws w' → w'.heap = ws.heap → (Grow w w' ∧ ws.grownBy w' (some g)) := fun _ h _ => ⟨Grow.trans' GWS.out h, gby_but h⟩
          have HB0 : ∀ w', Grow ws w' → w'.heap = ws.heap → OwnR w' w.heap.size g cl T := fun _ h _ => OWS.out.later h
          let FF : Nat → Value → World → Prop := fun i vF wF => match i with | 0 => vF = .slice (some ⟨g, 0, none⟩) k cl | 1 => vF = .slice (some ⟨bk, ok, none⟩) nk ck | 2 => vF = .int .i64 (k : Int) | 3 => vF = .pointer (some ⟨bk, ok + k, none⟩) | 4 => vF = .int .i64 c | 5 => vF = .int .i64 (nn : Int) | 6 => vF = .int .i64 (heldI (nn : Int)) | 7 => vF = .agg #[.int .i64 (⟨c, heldI (nn : Int)⟩ : Rc).k, .int .i64 (⟨c, heldI (nn : Int)⟩ : Rc).v] | 8 => OneR ⟨c, heldI (nn : Int)⟩ vF wF | 9 => AppG ws w.heap.size g (k + 1) (T ++ [⟨c, heldI (nn : Int)⟩]) vF wF | _ => True
          let GG : World → Prop := fun w' => Grow w w' ∧ ws.grownBy w' (some g)
          let BB : World → Prop := fun w' => OwnR w' w.heap.size g cl T
          have hstab : ∀ k v w1 w2, Grow w1 w2 → FF k v w1 → FF k v w2 := by
            intro k v w1 w2 hg h
            match k with
            | 0 => exact h
            | 1 => exact h
            | 2 => exact h
            | 3 => exact h
            | 4 => exact h
            | 5 => exact h
            | 6 => exact h
            | 7 => exact h
            | 8 => exact OneR.later hg h
            | 9 => exact AppG.later hg h
            | k + 10 => exact trivial
          have hGg : ∀ w1 w2, GG w1 → Grow w1 w2 → GG w2 := HGG
          have hBg : ∀ w1 w2, Grow w1 w2 → BB w1 → BB w2 := HBG
          refine wp_region_endG FF GG BB (fun i => match i with | 8 => some 9 | _ => none) 9 10 _ rfl rfl rfl (by kernel_rfl) (by kernel_rfl) HG0 HB0 ?_ ?_
          · refine ⟨?_, ?_, ?_, ?_, ?_, ?_, ?_, ?_, ?_, ?_, trivial⟩
            · refine stepG_run hGg hBg hstab rfl ?_
              intro a' w' hg hs hd hb
              have e5 : a'.eval (.tmp 5) = .slice (some ⟨g, 0, none⟩) k cl := hs.rest 5 rfl
              have ec : ∀ v, a'.eval (.const v) = v := fun _ => rfl
              have ef : ∀ g, a'.eval (.func g) = .func (.func g) #[] #[] := fun _ => rfl
              clear hd hs
              refine wpv (v := .slice (some ⟨g, 0, none⟩) k cl) ?_ ⟨_, rfl, Grow.rfl' _, rfl⟩
              (generalize a'.eval = ev at ec ef e5 ⊢; simp [execOp, go_sem, *])
            · refine stepG_run hGg hBg hstab rfl ?_
              intro a' w' hg hs hd hb
              have e7 : a'.eval (.tmp 7) = .slice (some ⟨bk, ok, none⟩) nk ck := hs.rest 7 rfl
              have ec : ∀ v, a'.eval (.const v) = v := fun _ => rfl
              have ef : ∀ g, a'.eval (.func g) = .func (.func g) #[] #[] := fun _ => rfl
              clear hd hs
              refine wpv (v := .slice (some ⟨bk, ok, none⟩) nk ck) ?_ ⟨_, rfl, Grow.rfl' _, rfl⟩
              (generalize a'.eval = ev at ec ef e7 ⊢; simp [execOp, go_sem, *])
            · refine stepG_run hGg hBg hstab rfl ?_
              intro a' w' hg hs hd hb
              have e8 : a'.eval (.tmp 8) = .int .i64 (k : Int) := hs.rest 8 rfl
              have ec : ∀ v, a'.eval (.const v) = v := fun _ => rfl
              have ef : ∀ g, a'.eval (.func g) = .func (.func g) #[] #[] := fun _ => rfl
              clear hd hs
              refine wpv (v := .int .i64 (k : Int)) ?_ ⟨_, rfl, Grow.rfl' _, rfl⟩
              (generalize a'.eval = ev at ec ef e8 ⊢; simp [execOp, go_sem, *])
            · refine stepG_run hGg hBg hstab rfl ?_
              intro a' w' hg hs hd hb
              have e80 : a'.eval (.tmp 80) = .slice (some ⟨bk, ok, none⟩) nk ck := hd ⟨1, Ground.data⟩ (by simp) rfl rfl
              have e81 : a'.eval (.tmp 81) = .int .i64 (k : Int) := hd ⟨2, Ground.data⟩ (by simp) rfl rfl
              have ec : ∀ v, a'.eval (.const v) = v := fun _ => rfl
              have ef : ∀ g, a'.eval (.func g) = .func (.func g) #[] #[] := fun _ => rfl
              clear hd hs
              refine wpv (v := .pointer (some ⟨bk, ok + k, none⟩)) ?_ ⟨_, rfl, Grow.rfl' _, rfl⟩
              (generalize a'.eval = ev at ec ef e80 e81 ⊢; simp [execOp, go_sem, *])
            · refine stepG_run hGg hBg hstab rfl ?_
              intro a' w' hg hs hd hb
              have e82 : a'.eval (.tmp 82) = .pointer (some ⟨bk, ok + k, none⟩) := hd ⟨3, Ground.data⟩ (by simp) rfl rfl
              have ec : ∀ v, a'.eval (.const v) = v := fun _ => rfl
              have ef : ∀ g, a'.eval (.func g) = .func (.func g) #[] #[] := fun _ => rfl
              have p0 := hg.2.cell CKW.out HBG'.out
              clear hd hs
              refine wpv (v := .int .i64 c) ?_ ⟨_, rfl, Grow.rfl' _, rfl⟩
              (generalize a'.eval = ev at ec ef e82 ⊢; simp [execOp, go_sem, *])
            · refine stepG_run hGg hBg hstab rfl ?_
              intro a' w' hg hs hd hb
              have e10 : a'.eval (.tmp 10) = .int .i64 (nn : Int) := hs.rest 10 rfl
              have ec : ∀ v, a'.eval (.const v) = v := fun _ => rfl
              have ef : ∀ g, a'.eval (.func g) = .func (.func g) #[] #[] := fun _ => rfl
              clear hd hs
              refine wpv (v := .int .i64 (nn : Int)) ?_ ⟨_, rfl, Grow.rfl' _, rfl⟩
              (generalize a'.eval = ev at ec ef e10 ⊢; simp [execOp, go_sem, *])
            · refine stepG_run hGg hBg hstab rfl ?_
              intro a' w' hg hs hd hb
              have e84 : a'.eval (.tmp 84) = .int .i64 (nn : Int) := hd ⟨5, Ground.data⟩ (by simp) rfl rfl
              have ec : ∀ v, a'.eval (.const v) = v := fun _ => rfl
              have ef : ∀ g, a'.eval (.func g) = .func (.func g) #[] #[] := fun _ => rfl
              clear hd hs
              refine wpc ?_ (Calls.mono (refHeld_g (nn : Int) _) fun e w2 ⟨he, hb⟩ => ⟨_, he, _, rfl, hb, rfl⟩)
              (generalize a'.eval = ev at ec ef e84 ⊢; simp [execOp, go_sem, *])
            · refine stepG_run hGg hBg hstab rfl ?_
              intro a' w' hg hs hd hb
              have e83 : a'.eval (.tmp 83) = .int .i64 c := hd ⟨4, Ground.data⟩ (by simp) rfl rfl
              have e85 : a'.eval (.tmp 85) = .int .i64 (heldI (nn : Int)) := hd ⟨6, Ground.data⟩ (by simp) rfl rfl
              have ec : ∀ v, a'.eval (.const v) = v := fun _ => rfl
              have ef : ∀ g, a'.eval (.func g) = .func (.func g) #[] #[] := fun _ => rfl
              clear hd hs
              refine wpv (v := .agg #[.int .i64 (⟨c, heldI (nn : Int)⟩ : Rc).k, .int .i64 (⟨c, heldI (nn : Int)⟩ : Rc).v]) ?_ ⟨_, rfl, Grow.rfl' _, rfl⟩
              (generalize a'.eval = ev at ec ef e83 e85 ⊢; simp [execOp, go_sem, *])
            · refine stepG_run hGg hBg hstab rfl ?_
              intro a' w' hg hs hd hb
              have e86 : a'.eval (.tmp 86) = .agg #[.int .i64 (⟨c, heldI (nn : Int)⟩ : Rc).k, .int .i64 (⟨c, heldI (nn : Int)⟩ : Rc).v] := hd ⟨7, Ground.data⟩ (by simp) rfl rfl
              have ec : ∀ v, a'.eval (.const v) = v := fun _ => rfl
              have ef : ∀ g, a'.eval (.func g) = .func (.func g) #[] #[] := fun _ => rfl
              clear hd hs
              refine wpv (v := .slice (some ⟨w'.heap.size, 0, none⟩) 1 1) (w' := w'.alloc (.cells #[.int .i64 c, .int .i64 (heldI (nn : Int))] 23)) ?_ ⟨_, rfl, Grow.alloc' _ _, oneR_new w' ⟨c, heldI (nn : Int)⟩⟩
              (generalize a'.eval = ev at ec ef e86 ⊢; simp [execOp, go_sem, *])
            · refine stepG_take rfl ?_
              intro a' w' hg hs hd hb
              have e79 : a'.eval (.tmp 79) = .slice (some ⟨g, 0, none⟩) k cl := hd ⟨0, Ground.data⟩ (by simp) rfl rfl
              obtain ⟨g87, e87, h87⟩ : OneR ⟨c, heldI (nn : Int)⟩ (a'.eval (.tmp 87)) w' := hd ⟨8, Ground.data⟩ (by simp) rfl rfl
              have ec : ∀ v, a'.eval (.const v) = v := fun _ => rfl
              have ef : ∀ g, a'.eval (.func g) = .func (.func g) #[] #[] := fun _ => rfl
              clear hd hs
              obtain ⟨s2, c2, w2, hrun, hown, hgr, hlie⟩ := run_apG hg.2 30 k cl T ⟨c, heldI (nn : Int)⟩ (hb rfl) HTL.out g87 h87 (by omega) (by have := hg.1.size; omega)
              refine wpv (v := .slice s2 _ c2) (w' := w2) ?_ ⟨_, rfl, ⟨grow_trn GWS.out hgr hwg, hgr⟩, ⟨s2, c2, rfl, hown, hlie⟩, ?_, fun h _ => absurd rfl h⟩
              rotate_left
              · intro j u hj h
                match j with
                | 0 => exact h
                | 1 => exact h
                | 2 => exact h
                | 3 => exact h
                | 4 => exact h
                | 5 => exact h
                | 6 => exact h
                | 7 => exact h
                | 8 => cases hj
                | 9 => cases hj
                | j + 10 => exact trivial
              · unfold execOp; simp only [resolve, invoke, builtin, Sem.run_bind, Sem.run_pure, Result.andThen_ok, List.map_toArray, List.map_cons, List.map_nil, e79, e87, hrun]
          · intro a' w' hg hs hd
            obtain ⟨sa88, ca88, e88, h88, t88⟩ : AppG ws w.heap.size g (k + 1) (T ++ [⟨c, heldI (nn : Int)⟩]) (a'.eval (.tmp 88)) w' := hd 9 (by omega) rfl
            have ec : ∀ v, a'.eval (.const v) = v := fun _ => rfl
            have ef : ∀ g, a'.eval (.func g) = .func (.func g) #[] #[] := fun _ => rfl
            obtain ⟨g2, hs2, hl2⟩ := t88
            subst hs2
            have HF := hide (h88.own)
            have HG3 := hide hg
            have KW3 := hide (KWS.out.turn hg.2 hl2)
            refine wpv (v := .slice (some ⟨g2, 0, none⟩) (k + 1) ca88) (w' := w') ?_ ?_
            · (generalize a'.eval = ev at ec ef e88 ⊢; simp [execOp, go_sem, *])
            clear h88 e88 ec ef hg HGG HBG HG0 HB0 hGg hBg hstab
            rw [frame_eq hs [false, false, false, false, false, true, false, false, false, false, false, false, false, false, false, false, false, false, false, false, false, false, false, false, false, false, false, false, false, false, false, false, false, false, false, false, false, false, false, false, false, false, false, false, false, false, false, false, false, false, false, false, false, false, false, false, false, false, false, false, false, false, false, false, false, false, false, false, false, false, false, false, false, false, false, false, false, false, false, true, true, true, true, true, true, true, true, true, true, false] (by kernel_rfl)]; simp only [mergeL]; clear hs hd; generalize a'.tmps = TT at *; try go_frame
            go_wp2_with fail
            go_roundw
            case rel => exact ⟨k + 1, g2, ca88, by omega, rfl, by go_num, HG3.out.1, KW3.out, by rw [← HST0.out, List.map_append, ← HTT.out]; simp only [List.map_cons, List.map_nil, keyRec]; rw [← HAG.out]; exact HF.out⟩
            case measure => simp [intOf]; omega
    · have hkn : k = nk := by omega
      have hi2 : ¬ (k : Int) < (nk : Int) := by omega
      have HF := hide (show ((keysR d).take k).map (keyRec 1 d) = redR 1 d by
        rw [List.take_of_length_le (by rw [HKL.out]; omega), redR_pos rfl]
        rfl)
      rw [HF.out] at HO
      have IW := hide ((OwnRV.of HO.out rfl).is)
      have hkl : (redR 1 d).length = k := by rw [redR_len rfl, HKL.out]; omega
      rw [hkl] at IW
      clear hg hKI hkn hkl
      go_wp2_with fail
      go_ret
      exact ⟨_, k, cl, rfl, HG.out, IW.out⟩
set_option maxHeartbeats 8000000 in
theorem refRed_2 (s : Option Addr) (n cap : Nat) (d : List Rc) (w : World) (hbig : n ≤ 1000) (hv : ∀ r ∈ d, -1099511627776 ≤ r.v ∧ r.v ≤ 1099511627776) (hd : IsRcs w s n cap d) :
    Calls Try.prog 24 #[.int .i64 2, .slice s n cap] w fun e w' => ∃ s2 n2 c2, e = .returned (.slice s2 n2 c2) ∧ Grow w w' ∧ IsRcs w' s2 n2 c2 (redR 2 d) := by
  have HV := hide hv
  have HDL := hide hd.1
  have G0 : Hid (Grow w (w.alloc (.cells #[] 23))) := hide (Grow.alloc' _ _)
  have O0 : Hid (OwnR (w.alloc (.cells #[] 23)) w.heap.size w.heap.size 0 []) := hide (OwnR.lit0 w _ (Nat.le_refl _))
  have C0 := hide (refMayRed_at 2 (p := true) rfl (w.alloc (.cells #[] 23)))
  have C1 := hide (refKeys_at s n cap d (w.alloc (.cells #[] 23)) (by omega) (hd.later G0.out))
  have D0 := hide hd
  clear hd hv
  go_enter Try.func24, Try.ntmps24
  go_wp2_with fail
  refine (C0.out).mono ?_
  rintro e w1 ⟨rfl, rfl⟩
  go_wp2_with fail
  refine (C1.out).mono ?_
  rintro e w2 ⟨sk, nk, ck, rfl, hb, hK⟩
  have G2 := hide (Grow.trans' G0.out hb)
  have O2 := hide (O0.out.later hb)
  have K2 := hide (keysIn_new hK O2.out)
  have HKL := hide hK.len
  have hnk : nk ≤ 1000 := by
    have h1 := keysR_len d
    rw [hK.len, HDL.out] at h1
    omega
  clear hb hK C1 C0 O0 G0
  go_wp2_with fail
  go_loopw [5, 8] (fun v i wr => ∃ (k g cl : Nat), k ≤ nk ∧ v = .slice (some ⟨g, 0, none⟩) k cl ∧ i = .int .i64 k ∧ Grow w wr ∧ KeysIn wr sk g (keysR d) ∧ OwnR wr w.heap.size g cl (((keysR d).take k).map (keyRec 2 d))) (fun _ i _ => nk - (intOf i).toNat)
  case atStart => exact ⟨0, _, 0, Nat.zero_le _, rfl, rfl, G2.out, K2.out, O2.out⟩
  case round =>
    obtain ⟨k, g, cl, hk, rfl, rfl, hg, hKI, hO⟩ := hrel
    have HG := hide hg
    have HO := hide hO
    have HKI := hide hKI
    have hwg : w.heap.size ≤ g := hO.le.1
    clear hO
    by_cases hlt : k < nk
    · have hkK : k < (keysR d).length := by rw [HKL.out]; exact hlt
      obtain ⟨bk, ok, hsk, hck, hbg⟩ := hKI k hkK
      subst hsk
      have HST0 := hide (List.take_append_getElem hkK)
      have hmem := List.getElem_mem hkK
      obtain ⟨c, hc⟩ : ∃ c, c = (keysR d)[k] := ⟨_, rfl⟩
      rw [← hc] at hck HST0 hmem
      have HNE := hide (filter_ne hmem)
      have CK := hide hck
      have hi1 : (0 : Int) ≤ (k : Int) := by omega
      have hi2 : (k : Int) < (nk : Int) := by omega
      clear hKI hck hc hmem hg
      rename World => wo
      go_wp2_with fail
      go_loopw [9, 10, 11] (fun u v i wr => ∃ (j nn : Nat) (X : Int), j ≤ n ∧ u = .int .i64 nn ∧ v = .int .i64 X ∧ i = .int .i64 j ∧ Grow wo wr ∧ ((d.take j).filter (ofKey c)).length = nn ∧ XOf 2 ((d.take j).filter (ofKey c)) X) (fun _ _ i _ => n - (intOf i).toNat)
      case atStart => exact ⟨0, 0, 0, Nat.zero_le _, rfl, rfl, rfl, Grow.rfl' _, rfl, xOf_nil _⟩
      case round =>
        obtain ⟨j, nn, X, hj, rfl, rfl, rfl, hq, hLN, hXO⟩ := hrel
        have HQ := hide hq
        have HLN := hide hLN
        have HXO := hide hXO
        have hnn : nn ≤ j := by rw [← hLN]; exact key_len d c j
        clear hLN hXO
        by_cases hlj : j < n
        · have hjD : j < d.length := by rw [HDL.out]; exact hlj
          have hne : ¬ d = [] := fun h => by rw [h] at hjD; simp at hjD
          obtain ⟨bd, od, hsd, hrd⟩ := D0.out.2.2.resolve_left hne
          subst hsd
          have HRD := hide (hrd.later HG.out)
          obtain ⟨p0, p1⟩ := (HRD.out.later hq).at j hjD
          have q0 := cell_later hq CK.out
          have HST := hide (key_step d c j hjD)
          have hvy := HV.out d[j] (List.getElem_mem _)
          obtain ⟨y, hy⟩ : ∃ y, y = d[j] := ⟨_, rfl⟩
          rw [← hy] at p0 p1 HST hvy
          have HY := hide hy
          have hj1 : (0 : Int) ≤ (j : Int) := by omega
          have hj2 : (j : Int) < (n : Int) := by omega
          clear hne hrd hy hq
          by_cases hyc : y.k = c
          · rw [if_pos hyc] at HST
            have he : (y.k != c) = false := by simpa using hyc
            clear hyc
            go_wp2
            go_quiet (fail)
            have HQ2 := hide (Grow.trans' HQ.out (below_drewN (Below.refl _ _) nq))
            clear p0 p1 q0 HQ he
            generalize wr.drewN nq = wz at *
            obtain ⟨p0, p1⟩ := (HRD.out.later HQ2.out).at j hjD
            rw [← HY.out] at p0 p1
            have hXs : X = sumV ((d.take j).filter (ofKey c)) := HXO.out.1 rfl
            have hXb := sumV_bound 1099511627776 ((d.take j).filter (ofKey c)) (fun r hr => HV.out r (List.mem_of_mem_take (List.mem_filter.1 hr).1))
            rw [HLN.out, ← hXs] at hXb
            clear hXs
            have hwr : IntKind.i64.wrap (X + y.v) = X + y.v := IntWalk.i64_in _ ⟨by omega, by omega⟩
            have HNX := hide (show XOf 2 ((d.take j).filter (ofKey c) ++ [y]) (X + y.v) from xOf_2 y HXO.out)
            go_wp2_with fail
            go_roundw
            case rel => exact ⟨j + 1, nn + 1, X + y.v, by omega, by go_num, rfl, by go_num, HQ2.out, by rw [HST.out, List.length_append, HLN.out]; rfl, by rw [HST.out]; exact HNX.out⟩
            case measure => simp [intOf]; omega
          · rw [if_neg hyc, List.append_nil] at HST
            have he : (y.k != c) = true := by simpa using hyc
            clear hyc
            go_wp2
            go_quiet (fail)
            have HQ2 := hide (Grow.trans' HQ.out (below_drewN (Below.refl _ _) nq))
            clear p0 p1 q0 HQ he
            generalize wr.drewN nq = wz at *
            go_wp2_with fail
            go_roundw
            case rel => exact ⟨j + 1, nn, X, by omega, rfl, rfl, by go_num, HQ2.out, by rw [HST.out]; exact HLN.out, by rw [HST.out]; exact HXO.out⟩
            case measure => simp [intOf]; omega
        · have hjn : ¬ (j : Int) < (n : Int) := by omega
          have HT : Hid (d.take j = d) := hide (List.take_of_length_le (by rw [HDL.out]; omega))
          rw [HT.out] at HLN HXO
          have HAG := hide (held_agg 2 rfl HNE.out (by rw [HLN.out]; omega) (fun r hr => HV.out r (List.mem_filter.1 hr).1) HXO.out)
          rw [HLN.out] at HAG
          rename World => ws
          have GWS := hide (Grow.trans' HG.out hq)
          have KWS := hide (HKI.out.later hq)
          have OWS := hide (HO.out.later hq)
          have CKW := hide (cell_later hq CK.out)
          obtain ⟨T, hT⟩ : ∃ T, T = ((keysR d).take k).map (keyRec 2 d) := ⟨_, rfl⟩
          rw [← hT] at OWS
          have hTl : T.length = k := by rw [hT, List.length_map, List.length_take]; omega
          have HTL := hide hTl
          have HTT := hide hT
          have hbg' : (some bk : Option Nat) ≠ some g := fun e => hbg (Option.some.inj e)
          have HBG' := hide hbg'
          clear hq hTl hT hbg'
          go_wp2_with fail
          have HGG : ∀ wa wb, (Grow w wa ∧ ws.grownBy wa (some g)) → Grow wa wb → (Grow w wb ∧ ws.grownBy wb (some g)) := fun _ _ h q => ⟨Grow.trans' h.1 q, gby_post h.2 q⟩
          have HBG : ∀ wa wb, Grow wa wb → OwnR wa w.heap.size g cl T → OwnR wb w.heap.size g cl T := fun _ _ q h => h.later q
          have HG0 : ∀ w', Grow ws w' → w'.heap = ws.heap → (Grow w w' ∧ ws.grownBy w' (some g)) := fun _ h _ => ⟨Grow.trans' GWS.out h, gby_but h⟩
          have HB0 : ∀ w', Grow ws w' → w'.heap = ws.heap → OwnR w' w.heap.size g cl T := fun _ h _ => OWS.out.later h
          let FF : Nat → Value → World → Prop := fun i vF wF => match i with | 0 => vF = .slice (some ⟨g, 0, none⟩) k cl | 1 => vF = .slice (some ⟨bk, ok, none⟩) nk ck | 2 => vF = .int .i64 (k : Int) | 3 => vF = .pointer (some ⟨bk, ok + k, none⟩) | 4 => vF = .int .i64 c | 5 => vF = .int .i64 X | 6 => vF = .int .i64 (heldI X) | 7 => vF = .agg #[.int .i64 (⟨c, heldI X⟩ : Rc).k, .int .i64 (⟨c, heldI X⟩ : Rc).v] | 8 => OneR ⟨c, heldI X⟩ vF wF | 9 => AppG ws w.heap.size g (k + 1) (T ++ [⟨c, heldI X⟩]) vF wF | _ => True
          let GG : World → Prop := fun w' => Grow w w' ∧ ws.grownBy w' (some g)
          let BB : World → Prop := fun w' => OwnR w' w.heap.size g cl T
          have hstab : ∀ k v w1 w2, Grow w1 w2 → FF k v w1 → FF k v w2 := by
            intro k v w1 w2 hg h
            match k with
            | 0 => exact h
            | 1 => exact h
            | 2 => exact h
            | 3 => exact h
            | 4 => exact h
            | 5 => exact h
            | 6 => exact h
            | 7 => exact h
            | 8 => exact OneR.later hg h
            | 9 => exact AppG.later hg h
            | k + 10 => exact trivial
          have hGg : ∀ w1 w2, GG w1 → Grow w1 w2 → GG w2 := HGG
          have hBg : ∀ w1 w2, Grow w1 w2 → BB w1 → BB w2 := HBG
          refine wp_region_endG FF GG BB (fun i => match i with | 8 => some 9 | _ => none) 9 10 _ rfl rfl rfl (by kernel_rfl) (by kernel_rfl) HG0 HB0 ?_ ?_
          · refine ⟨?_, ?_, ?_, ?_, ?_, ?_, ?_, ?_, ?_, ?_, trivial⟩
            · refine stepG_run hGg hBg hstab rfl ?_
              intro a' w' hg hs hd hb
              have e5 : a'.eval (.tmp 5) = .slice (some ⟨g, 0, none⟩) k cl := hs.rest 5 rfl
              have ec : ∀ v, a'.eval (.const v) = v := fun _ => rfl
              have ef : ∀ g, a'.eval (.func g) = .func (.func g) #[] #[] := fun _ => rfl
              clear hd hs
              refine wpv (v := .slice (some ⟨g, 0, none⟩) k cl) ?_ ⟨_, rfl, Grow.rfl' _, rfl⟩
              (generalize a'.eval = ev at ec ef e5 ⊢; simp [execOp, go_sem, *])
            · refine stepG_run hGg hBg hstab rfl ?_
              intro a' w' hg hs hd hb
              have e7 : a'.eval (.tmp 7) = .slice (some ⟨bk, ok, none⟩) nk ck := hs.rest 7 rfl
              have ec : ∀ v, a'.eval (.const v) = v := fun _ => rfl
              have ef : ∀ g, a'.eval (.func g) = .func (.func g) #[] #[] := fun _ => rfl
              clear hd hs
              refine wpv (v := .slice (some ⟨bk, ok, none⟩) nk ck) ?_ ⟨_, rfl, Grow.rfl' _, rfl⟩
              (generalize a'.eval = ev at ec ef e7 ⊢; simp [execOp, go_sem, *])
            · refine stepG_run hGg hBg hstab rfl ?_
              intro a' w' hg hs hd hb
              have e8 : a'.eval (.tmp 8) = .int .i64 (k : Int) := hs.rest 8 rfl
              have ec : ∀ v, a'.eval (.const v) = v := fun _ => rfl
              have ef : ∀ g, a'.eval (.func g) = .func (.func g) #[] #[] := fun _ => rfl
              clear hd hs
              refine wpv (v := .int .i64 (k : Int)) ?_ ⟨_, rfl, Grow.rfl' _, rfl⟩
              (generalize a'.eval = ev at ec ef e8 ⊢; simp [execOp, go_sem, *])
            · refine stepG_run hGg hBg hstab rfl ?_
              intro a' w' hg hs hd hb
              have e80 : a'.eval (.tmp 80) = .slice (some ⟨bk, ok, none⟩) nk ck := hd ⟨1, Ground.data⟩ (by simp) rfl rfl
              have e81 : a'.eval (.tmp 81) = .int .i64 (k : Int) := hd ⟨2, Ground.data⟩ (by simp) rfl rfl
              have ec : ∀ v, a'.eval (.const v) = v := fun _ => rfl
              have ef : ∀ g, a'.eval (.func g) = .func (.func g) #[] #[] := fun _ => rfl
              clear hd hs
              refine wpv (v := .pointer (some ⟨bk, ok + k, none⟩)) ?_ ⟨_, rfl, Grow.rfl' _, rfl⟩
              (generalize a'.eval = ev at ec ef e80 e81 ⊢; simp [execOp, go_sem, *])
            · refine stepG_run hGg hBg hstab rfl ?_
              intro a' w' hg hs hd hb
              have e82 : a'.eval (.tmp 82) = .pointer (some ⟨bk, ok + k, none⟩) := hd ⟨3, Ground.data⟩ (by simp) rfl rfl
              have ec : ∀ v, a'.eval (.const v) = v := fun _ => rfl
              have ef : ∀ g, a'.eval (.func g) = .func (.func g) #[] #[] := fun _ => rfl
              have p0 := hg.2.cell CKW.out HBG'.out
              clear hd hs
              refine wpv (v := .int .i64 c) ?_ ⟨_, rfl, Grow.rfl' _, rfl⟩
              (generalize a'.eval = ev at ec ef e82 ⊢; simp [execOp, go_sem, *])
            · refine stepG_run hGg hBg hstab rfl ?_
              intro a' w' hg hs hd hb
              have e10 : a'.eval (.tmp 10) = .int .i64 X := hs.rest 10 rfl
              have ec : ∀ v, a'.eval (.const v) = v := fun _ => rfl
              have ef : ∀ g, a'.eval (.func g) = .func (.func g) #[] #[] := fun _ => rfl
              clear hd hs
              refine wpv (v := .int .i64 X) ?_ ⟨_, rfl, Grow.rfl' _, rfl⟩
              (generalize a'.eval = ev at ec ef e10 ⊢; simp [execOp, go_sem, *])
            · refine stepG_run hGg hBg hstab rfl ?_
              intro a' w' hg hs hd hb
              have e84 : a'.eval (.tmp 84) = .int .i64 X := hd ⟨5, Ground.data⟩ (by simp) rfl rfl
              have ec : ∀ v, a'.eval (.const v) = v := fun _ => rfl
              have ef : ∀ g, a'.eval (.func g) = .func (.func g) #[] #[] := fun _ => rfl
              clear hd hs
              refine wpc ?_ (Calls.mono (refHeld_g X _) fun e w2 ⟨he, hb⟩ => ⟨_, he, _, rfl, hb, rfl⟩)
              (generalize a'.eval = ev at ec ef e84 ⊢; simp [execOp, go_sem, *])
            · refine stepG_run hGg hBg hstab rfl ?_
              intro a' w' hg hs hd hb
              have e83 : a'.eval (.tmp 83) = .int .i64 c := hd ⟨4, Ground.data⟩ (by simp) rfl rfl
              have e85 : a'.eval (.tmp 85) = .int .i64 (heldI X) := hd ⟨6, Ground.data⟩ (by simp) rfl rfl
              have ec : ∀ v, a'.eval (.const v) = v := fun _ => rfl
              have ef : ∀ g, a'.eval (.func g) = .func (.func g) #[] #[] := fun _ => rfl
              clear hd hs
              refine wpv (v := .agg #[.int .i64 (⟨c, heldI X⟩ : Rc).k, .int .i64 (⟨c, heldI X⟩ : Rc).v]) ?_ ⟨_, rfl, Grow.rfl' _, rfl⟩
              (generalize a'.eval = ev at ec ef e83 e85 ⊢; simp [execOp, go_sem, *])
            · refine stepG_run hGg hBg hstab rfl ?_
              intro a' w' hg hs hd hb
              have e86 : a'.eval (.tmp 86) = .agg #[.int .i64 (⟨c, heldI X⟩ : Rc).k, .int .i64 (⟨c, heldI X⟩ : Rc).v] := hd ⟨7, Ground.data⟩ (by simp) rfl rfl
              have ec : ∀ v, a'.eval (.const v) = v := fun _ => rfl
              have ef : ∀ g, a'.eval (.func g) = .func (.func g) #[] #[] := fun _ => rfl
              clear hd hs
              refine wpv (v := .slice (some ⟨w'.heap.size, 0, none⟩) 1 1) (w' := w'.alloc (.cells #[.int .i64 c, .int .i64 (heldI X)] 23)) ?_ ⟨_, rfl, Grow.alloc' _ _, oneR_new w' ⟨c, heldI X⟩⟩
              (generalize a'.eval = ev at ec ef e86 ⊢; simp [execOp, go_sem, *])
            · refine stepG_take rfl ?_
              intro a' w' hg hs hd hb
              have e79 : a'.eval (.tmp 79) = .slice (some ⟨g, 0, none⟩) k cl := hd ⟨0, Ground.data⟩ (by simp) rfl rfl
              obtain ⟨g87, e87, h87⟩ : OneR ⟨c, heldI X⟩ (a'.eval (.tmp 87)) w' := hd ⟨8, Ground.data⟩ (by simp) rfl rfl
              have ec : ∀ v, a'.eval (.const v) = v := fun _ => rfl
              have ef : ∀ g, a'.eval (.func g) = .func (.func g) #[] #[] := fun _ => rfl
              clear hd hs
              obtain ⟨s2, c2, w2, hrun, hown, hgr, hlie⟩ := run_apG hg.2 30 k cl T ⟨c, heldI X⟩ (hb rfl) HTL.out g87 h87 (by omega) (by have := hg.1.size; omega)
              refine wpv (v := .slice s2 _ c2) (w' := w2) ?_ ⟨_, rfl, ⟨grow_trn GWS.out hgr hwg, hgr⟩, ⟨s2, c2, rfl, hown, hlie⟩, ?_, fun h _ => absurd rfl h⟩
              rotate_left
              · intro j u hj h
                match j with
                | 0 => exact h
                | 1 => exact h
                | 2 => exact h
                | 3 => exact h
                | 4 => exact h
                | 5 => exact h
                | 6 => exact h
                | 7 => exact h
                | 8 => cases hj
                | 9 => cases hj
                | j + 10 => exact trivial
              · unfold execOp; simp only [resolve, invoke, builtin, Sem.run_bind, Sem.run_pure, Result.andThen_ok, List.map_toArray, List.map_cons, List.map_nil, e79, e87, hrun]
          · intro a' w' hg hs hd
            obtain ⟨sa88, ca88, e88, h88, t88⟩ : AppG ws w.heap.size g (k + 1) (T ++ [⟨c, heldI X⟩]) (a'.eval (.tmp 88)) w' := hd 9 (by omega) rfl
            have ec : ∀ v, a'.eval (.const v) = v := fun _ => rfl
            have ef : ∀ g, a'.eval (.func g) = .func (.func g) #[] #[] := fun _ => rfl
            obtain ⟨g2, hs2, hl2⟩ := t88
            subst hs2
            have HF := hide (h88.own)
            have HG3 := hide hg
            have KW3 := hide (KWS.out.turn hg.2 hl2)
            refine wpv (v := .slice (some ⟨g2, 0, none⟩) (k + 1) ca88) (w' := w') ?_ ?_
            · (generalize a'.eval = ev at ec ef e88 ⊢; simp [execOp, go_sem, *])
            clear h88 e88 ec ef hg HGG HBG HG0 HB0 hGg hBg hstab
            rw [frame_eq hs [false, false, false, false, false, true, false, false, false, false, false, false, false, false, false, false, false, false, false, false, false, false, false, false, false, false, false, false, false, false, false, false, false, false, false, false, false, false, false, false, false, false, false, false, false, false, false, false, false, false, false, false, false, false, false, false, false, false, false, false, false, false, false, false, false, false, false, false, false, false, false, false, false, false, false, false, false, false, false, true, true, true, true, true, true, true, true, true, true, false] (by kernel_rfl)]; simp only [mergeL]; clear hs hd; generalize a'.tmps = TT at *; try go_frame
            go_wp2_with fail
            go_roundw
            case rel => exact ⟨k + 1, g2, ca88, by omega, rfl, by go_num, HG3.out.1, KW3.out, by rw [← HST0.out, List.map_append, ← HTT.out]; simp only [List.map_cons, List.map_nil, keyRec]; rw [← HAG.out]; exact HF.out⟩
            case measure => simp [intOf]; omega
    · have hkn : k = nk := by omega
      have hi2 : ¬ (k : Int) < (nk : Int) := by omega
      have HF := hide (show ((keysR d).take k).map (keyRec 2 d) = redR 2 d by
        rw [List.take_of_length_le (by rw [HKL.out]; omega), redR_pos rfl]
        rfl)
      rw [HF.out] at HO
      have IW := hide ((OwnRV.of HO.out rfl).is)
      have hkl : (redR 2 d).length = k := by rw [redR_len rfl, HKL.out]; omega
      rw [hkl] at IW
      clear hg hKI hkn hkl
      go_wp2_with fail
      go_ret
      exact ⟨_, k, cl, rfl, HG.out, IW.out⟩
set_option maxHeartbeats 8000000 in
theorem refRed_3 (s : Option Addr) (n cap : Nat) (d : List Rc) (w : World) (hbig : n ≤ 1000) (hv : ∀ r ∈ d, -1099511627776 ≤ r.v ∧ r.v ≤ 1099511627776) (hd : IsRcs w s n cap d) :
    Calls Try.prog 24 #[.int .i64 3, .slice s n cap] w fun e w' => ∃ s2 n2 c2, e = .returned (.slice s2 n2 c2) ∧ Grow w w' ∧ IsRcs w' s2 n2 c2 (redR 3 d) := by
  have HV := hide hv
  have HDL := hide hd.1
  have G0 : Hid (Grow w (w.alloc (.cells #[] 23))) := hide (Grow.alloc' _ _)
  have O0 : Hid (OwnR (w.alloc (.cells #[] 23)) w.heap.size w.heap.size 0 []) := hide (OwnR.lit0 w _ (Nat.le_refl _))
  have C0 := hide (refMayRed_at 3 (p := true) rfl (w.alloc (.cells #[] 23)))
  have C1 := hide (refKeys_at s n cap d (w.alloc (.cells #[] 23)) (by omega) (hd.later G0.out))
  have D0 := hide hd
  clear hd hv
  go_enter Try.func24, Try.ntmps24
  go_wp2_with fail
  refine (C0.out).mono ?_
  rintro e w1 ⟨rfl, rfl⟩
  go_wp2_with fail
  refine (C1.out).mono ?_
  rintro e w2 ⟨sk, nk, ck, rfl, hb, hK⟩
  have G2 := hide (Grow.trans' G0.out hb)
  have O2 := hide (O0.out.later hb)
  have K2 := hide (keysIn_new hK O2.out)
  have HKL := hide hK.len
  have hnk : nk ≤ 1000 := by
    have h1 := keysR_len d
    rw [hK.len, HDL.out] at h1
    omega
  clear hb hK C1 C0 O0 G0
  go_wp2_with fail
  go_loopw [5, 8] (fun v i wr => ∃ (k g cl : Nat), k ≤ nk ∧ v = .slice (some ⟨g, 0, none⟩) k cl ∧ i = .int .i64 k ∧ Grow w wr ∧ KeysIn wr sk g (keysR d) ∧ OwnR wr w.heap.size g cl (((keysR d).take k).map (keyRec 3 d))) (fun _ i _ => nk - (intOf i).toNat)
  case atStart => exact ⟨0, _, 0, Nat.zero_le _, rfl, rfl, G2.out, K2.out, O2.out⟩
  case round =>
    obtain ⟨k, g, cl, hk, rfl, rfl, hg, hKI, hO⟩ := hrel
    have HG := hide hg
    have HO := hide hO
    have HKI := hide hKI
    have hwg : w.heap.size ≤ g := hO.le.1
    clear hO
    by_cases hlt : k < nk
    · have hkK : k < (keysR d).length := by rw [HKL.out]; exact hlt
      obtain ⟨bk, ok, hsk, hck, hbg⟩ := hKI k hkK
      subst hsk
      have HST0 := hide (List.take_append_getElem hkK)
      have hmem := List.getElem_mem hkK
      obtain ⟨c, hc⟩ : ∃ c, c = (keysR d)[k] := ⟨_, rfl⟩
      rw [← hc] at hck HST0 hmem
      have HNE := hide (filter_ne hmem)
      have CK := hide hck
      have hi1 : (0 : Int) ≤ (k : Int) := by omega
      have hi2 : (k : Int) < (nk : Int) := by omega
      clear hKI hck hc hmem hg
      rename World => wo
      go_wp2_with fail
      go_loopw [9, 10, 11] (fun u v i wr => ∃ (j nn : Nat) (X : Int), j ≤ n ∧ u = .int .i64 nn ∧ v = .int .i64 X ∧ i = .int .i64 j ∧ Grow wo wr ∧ ((d.take j).filter (ofKey c)).length = nn ∧ XOf 3 ((d.take j).filter (ofKey c)) X) (fun _ _ i _ => n - (intOf i).toNat)
      case atStart => exact ⟨0, 0, 0, Nat.zero_le _, rfl, rfl, rfl, Grow.rfl' _, rfl, xOf_nil _⟩
      case round =>
        obtain ⟨j, nn, X, hj, rfl, rfl, rfl, hq, hLN, hXO⟩ := hrel
        have HQ := hide hq
        have HLN := hide hLN
        have HXO := hide hXO
        have hnn : nn ≤ j := by rw [← hLN]; exact key_len d c j
        clear hLN hXO
        by_cases hlj : j < n
        · have hjD : j < d.length := by rw [HDL.out]; exact hlj
          have hne : ¬ d = [] := fun h => by rw [h] at hjD; simp at hjD
          obtain ⟨bd, od, hsd, hrd⟩ := D0.out.2.2.resolve_left hne
          subst hsd
          have HRD := hide (hrd.later HG.out)
          obtain ⟨p0, p1⟩ := (HRD.out.later hq).at j hjD
          have q0 := cell_later hq CK.out
          have HST := hide (key_step d c j hjD)
          have hvy := HV.out d[j] (List.getElem_mem _)
          obtain ⟨y, hy⟩ : ∃ y, y = d[j] := ⟨_, rfl⟩
          rw [← hy] at p0 p1 HST hvy
          have HY := hide hy
          have hj1 : (0 : Int) ≤ (j : Int) := by omega
          have hj2 : (j : Int) < (n : Int) := by omega
          clear hne hrd hy hq
          by_cases hyc : y.k = c
          · rw [if_pos hyc] at HST
            have he : (y.k != c) = false := by simpa using hyc
            clear hyc
            go_wp2
            go_quiet (fail)
            have HQ2 := hide (Grow.trans' HQ.out (below_drewN (Below.refl _ _) nq))
            clear p0 p1 q0 HQ he
            generalize wr.drewN nq = wz at *
            obtain ⟨p0, p1⟩ := (HRD.out.later HQ2.out).at j hjD
            rw [← HY.out] at p0 p1
            have hw2 : nn = 0 ∨ (¬ nn = 0 ∧ X < y.v) ∨ (¬ nn = 0 ∧ ¬ X < y.v) := by omega
            rcases hw2 with hn0 | hn0 | hn0
            · have e0 : ((nn : Int) == 0) = true := by simp; omega
              have f0 : (nn == 0) = true := by simp; omega
              have HNX := hide (show XOf 3 ((d.take j).filter (ofKey c) ++ [y]) (y.v) from (by rw [nil_of_len HLN.out hn0]; exact xOf_30 y))
              clear hn0
              go_wp2_with fail
              go_roundw
              case rel => exact ⟨j + 1, nn + 1, y.v, by omega, by go_num, rfl, by go_num, HQ2.out, by rw [HST.out, List.length_append, HLN.out]; rfl, by rw [HST.out]; exact HNX.out⟩
              case measure => simp [intOf]; omega
            · have e0 : ((nn : Int) == 0) = false := by simp; omega
              have f0 : (nn == 0) = false := by simp; omega
              have e1 : decide (X < y.v) = true := by simp; omega
              have e2 : X < y.v := hn0.2
              have HNX := hide (show XOf 3 ((d.take j).filter (ofKey c) ++ [y]) (y.v) from xOf_3a y (ne_of_len HLN.out hn0.1) HXO.out hn0.2)
              clear hn0
              go_wp2_with fail
              go_roundw
              case rel => exact ⟨j + 1, nn + 1, y.v, by omega, by go_num, rfl, by go_num, HQ2.out, by rw [HST.out, List.length_append, HLN.out]; rfl, by rw [HST.out]; exact HNX.out⟩
              case measure => simp [intOf]; omega
            · have e0 : ((nn : Int) == 0) = false := by simp; omega
              have f0 : (nn == 0) = false := by simp; omega
              have e1 : decide (X < y.v) = false := by simp; omega
              have e2 : ¬ X < y.v := hn0.2
              have HNX := hide (show XOf 3 ((d.take j).filter (ofKey c) ++ [y]) (X) from xOf_3b y (ne_of_len HLN.out hn0.1) HXO.out hn0.2)
              clear hn0
              go_wp2_with fail
              go_roundw
              case rel => exact ⟨j + 1, nn + 1, X, by omega, by go_num, rfl, by go_num, HQ2.out, by rw [HST.out, List.length_append, HLN.out]; rfl, by rw [HST.out]; exact HNX.out⟩
              case measure => simp [intOf]; omega
          · rw [if_neg hyc, List.append_nil] at HST
            have he : (y.k != c) = true := by simpa using hyc
            clear hyc
            go_wp2
            go_quiet (fail)
            have HQ2 := hide (Grow.trans' HQ.out (below_drewN (Below.refl _ _) nq))
            clear p0 p1 q0 HQ he
            generalize wr.drewN nq = wz at *
            go_wp2_with fail
            go_roundw
            case rel => exact ⟨j + 1, nn, X, by omega, rfl, rfl, by go_num, HQ2.out, by rw [HST.out]; exact HLN.out, by rw [HST.out]; exact HXO.out⟩
            case measure => simp [intOf]; omega
        · have hjn : ¬ (j : Int) < (n : Int) := by omega
          have HT : Hid (d.take j = d) := hide (List.take_of_length_le (by rw [HDL.out]; omega))
          rw [HT.out] at HLN HXO
          have HAG := hide (held_agg 3 rfl HNE.out (by rw [HLN.out]; omega) (fun r hr => HV.out r (List.mem_filter.1 hr).1) HXO.out)
          rw [HLN.out] at HAG
          rename World => ws
          have GWS := hide (Grow.trans' HG.out hq)
          have KWS := hide (HKI.out.later hq)
          have OWS := hide (HO.out.later hq)
          have CKW := hide (cell_later hq CK.out)
          obtain ⟨T, hT⟩ : ∃ T, T = ((keysR d).take k).map (keyRec 3 d) := ⟨_, rfl⟩
          rw [← hT] at OWS
          have hTl : T.length = k := by rw [hT, List.length_map, List.length_take]; omega
          have HTL := hide hTl
          have HTT := hide hT
          have hbg' : (some bk : Option Nat) ≠ some g := fun e => hbg (Option.some.inj e)
          have HBG' := hide hbg'
          clear hq hTl hT hbg'
          go_wp2_with fail
          have HGG : ∀ wa wb, (Grow w wa ∧ ws.grownBy wa (some g)) → Grow wa wb → (Grow w wb ∧ ws.grownBy wb (some g)) := fun _ _ h q => ⟨Grow.trans' h.1 q, gby_post h.2 q⟩
          have HBG : ∀ wa wb, Grow wa wb → OwnR wa w.heap.size g cl T → OwnR wb w.heap.size g cl T := fun _ _ q h => h.later q
          have HG0 : ∀ w', Grow ws w' → w'.heap = ws.heap → (Grow w w' ∧ ws.grownBy w' (some g)) := fun _ h _ => ⟨Grow.trans' GWS.out h, gby_but h⟩
          have HB0 : ∀ w', Grow ws w' → w'.heap = ws.heap → OwnR w' w.heap.size g cl T := fun _ h _ => OWS.out.later h
          let FF : Nat → Value → World → Prop := fun i vF wF => match i with | 0 => vF = .slice (some ⟨g, 0, none⟩) k cl | 1 => vF = .slice (some ⟨bk, ok, none⟩) nk ck | 2 => vF = .int .i64 (k : Int) | 3 => vF = .pointer (some ⟨bk, ok + k, none⟩) | 4 => vF = .int .i64 c | 5 => vF = .int .i64 X | 6 => vF = .int .i64 (heldI X) | 7 => vF = .agg #[.int .i64 (⟨c, heldI X⟩ : Rc).k, .int .i64 (⟨c, heldI X⟩ : Rc).v] | 8 => OneR ⟨c, heldI X⟩ vF wF | 9 => AppG ws w.heap.size g (k + 1) (T ++ [⟨c, heldI X⟩]) vF wF | _ => True
          let GG : World → Prop := fun w' => Grow w w' ∧ ws.grownBy w' (some g)
          let BB : World → Prop := fun w' => OwnR w' w.heap.size g cl T
          have hstab : ∀ k v w1 w2, Grow w1 w2 → FF k v w1 → FF k v w2 := by
            intro k v w1 w2 hg h
            match k with
            | 0 => exact h
            | 1 => exact h
            | 2 => exact h
            | 3 => exact h
            | 4 => exact h
            | 5 => exact h
            | 6 => exact h
            | 7 => exact h
            | 8 => exact OneR.later hg h
            | 9 => exact AppG.later hg h
            | k + 10 => exact trivial
          have hGg : ∀ w1 w2, GG w1 → Grow w1 w2 → GG w2 := HGG
          have hBg : ∀ w1 w2, Grow w1 w2 → BB w1 → BB w2 := HBG
          refine wp_region_endG FF GG BB (fun i => match i with | 8 => some 9 | _ => none) 9 10 _ rfl rfl rfl (by kernel_rfl) (by kernel_rfl) HG0 HB0 ?_ ?_
          · refine ⟨?_, ?_, ?_, ?_, ?_, ?_, ?_, ?_, ?_, ?_, trivial⟩
            · refine stepG_run hGg hBg hstab rfl ?_
              intro a' w' hg hs hd hb
              have e5 : a'.eval (.tmp 5) = .slice (some ⟨g, 0, none⟩) k cl := hs.rest 5 rfl
              have ec : ∀ v, a'.eval (.const v) = v := fun _ => rfl
              have ef : ∀ g, a'.eval (.func g) = .func (.func g) #[] #[] := fun _ => rfl
              clear hd hs
              refine wpv (v := .slice (some ⟨g, 0, none⟩) k cl) ?_ ⟨_, rfl, Grow.rfl' _, rfl⟩
              (generalize a'.eval = ev at ec ef e5 ⊢; simp [execOp, go_sem, *])
            · refine stepG_run hGg hBg hstab rfl ?_
              intro a' w' hg hs hd hb
              have e7 : a'.eval (.tmp 7) = .slice (some ⟨bk, ok, none⟩) nk ck := hs.rest 7 rfl
              have ec : ∀ v, a'.eval (.const v) = v := fun _ => rfl
              have ef : ∀ g, a'.eval (.func g) = .func (.func g) #[] #[] := fun _ => rfl
              clear hd hs
              refine wpv (v := .slice (some ⟨bk, ok, none⟩) nk ck) ?_ ⟨_, rfl, Grow.rfl' _, rfl⟩
              (generalize a'.eval = ev at ec ef e7 ⊢; simp [execOp, go_sem, *])
            · refine stepG_run hGg hBg hstab rfl ?_
              intro a' w' hg hs hd hb
              have e8 : a'.eval (.tmp 8) = .int .i64 (k : Int) := hs.rest 8 rfl
              have ec : ∀ v, a'.eval (.const v) = v := fun _ => rfl
              have ef : ∀ g, a'.eval (.func g) = .func (.func g) #[] #[] := fun _ => rfl
              clear hd hs
              refine wpv (v := .int .i64 (k : Int)) ?_ ⟨_, rfl, Grow.rfl' _, rfl⟩
              (generalize a'.eval = ev at ec ef e8 ⊢; simp [execOp, go_sem, *])
            · refine stepG_run hGg hBg hstab rfl ?_
              intro a' w' hg hs hd hb
              have e80 : a'.eval (.tmp 80) = .slice (some ⟨bk, ok, none⟩) nk ck := hd ⟨1, Ground.data⟩ (by simp) rfl rfl
              have e81 : a'.eval (.tmp 81) = .int .i64 (k : Int) := hd ⟨2, Ground.data⟩ (by simp) rfl rfl
              have ec : ∀ v, a'.eval (.const v) = v := fun _ => rfl
              have ef : ∀ g, a'.eval (.func g) = .func (.func g) #[] #[] := fun _ => rfl
              clear hd hs
              refine wpv (v := .pointer (some ⟨bk, ok + k, none⟩)) ?_ ⟨_, rfl, Grow.rfl' _, rfl⟩
              (generalize a'.eval = ev at ec ef e80 e81 ⊢; simp [execOp, go_sem, *])
            · refine stepG_run hGg hBg hstab rfl ?_
              intro a' w' hg hs hd hb
              have e82 : a'.eval (.tmp 82) = .pointer (some ⟨bk, ok + k, none⟩) := hd ⟨3, Ground.data⟩ (by simp) rfl rfl
              have ec : ∀ v, a'.eval (.const v) = v := fun _ => rfl
              have ef : ∀ g, a'.eval (.func g) = .func (.func g) #[] #[] := fun _ => rfl
              have p0 := hg.2.cell CKW.out HBG'.out
              clear hd hs
              refine wpv (v := .int .i64 c) ?_ ⟨_, rfl, Grow.rfl' _, rfl⟩
              (generalize a'.eval = ev at ec ef e82 ⊢; simp [execOp, go_sem, *])
            · refine stepG_run hGg hBg hstab rfl ?_
              intro a' w' hg hs hd hb
              have e10 : a'.eval (.tmp 10) = .int .i64 X := hs.rest 10 rfl
              have ec : ∀ v, a'.eval (.const v) = v := fun _ => rfl
              have ef : ∀ g, a'.eval (.func g) = .func (.func g) #[] #[] := fun _ => rfl
              clear hd hs
              refine wpv (v := .int .i64 X) ?_ ⟨_, rfl, Grow.rfl' _, rfl⟩
              (generalize a'.eval = ev at ec ef e10 ⊢; simp [execOp, go_sem, *])
            · refine stepG_run hGg hBg hstab rfl ?_
              intro a' w' hg hs hd hb
              have e84 : a'.eval (.tmp 84) = .int .i64 X := hd ⟨5, Ground.data⟩ (by simp) rfl rfl
              have ec : ∀ v, a'.eval (.const v) = v := fun _ => rfl
              have ef : ∀ g, a'.eval (.func g) = .func (.func g) #[] #[] := fun _ => rfl
              clear hd hs
              refine wpc ?_ (Calls.mono (refHeld_g X _) fun e w2 ⟨he, hb⟩ => ⟨_, he, _, rfl, hb, rfl⟩)
              (generalize a'.eval = ev at ec ef e84 ⊢; simp [execOp, go_sem, *])
            · refine stepG_run hGg hBg hstab rfl ?_
              intro a' w' hg hs hd hb
              have e83 : a'.eval (.tmp 83) = .int .i64 c := hd ⟨4, Ground.data⟩ (by simp) rfl rfl
              have e85 : a'.eval (.tmp 85) = .int .i64 (heldI X) := hd ⟨6, Ground.data⟩ (by simp) rfl rfl
              have ec : ∀ v, a'.eval (.const v) = v := fun _ => rfl
              have ef : ∀ g, a'.eval (.func g) = .func (.func g) #[] #[] := fun _ => rfl
              clear hd hs
              refine wpv (v := .agg #[.int .i64 (⟨c, heldI X⟩ : Rc).k, .int .i64 (⟨c, heldI X⟩ : Rc).v]) ?_ ⟨_, rfl, Grow.rfl' _, rfl⟩
              (generalize a'.eval = ev at ec ef e83 e85 ⊢; simp [execOp, go_sem, *])
            · refine stepG_run hGg hBg hstab rfl ?_
              intro a' w' hg hs hd hb
              have e86 : a'.eval (.tmp 86) = .agg #[.int .i64 (⟨c, heldI X⟩ : Rc).k, .int .i64 (⟨c, heldI X⟩ : Rc).v] := hd ⟨7, Ground.data⟩ (by simp) rfl rfl
              have ec : ∀ v, a'.eval (.const v) = v := fun _ => rfl
              have ef : ∀ g, a'.eval (.func g) = .func (.func g) #[] #[] := fun _ => rfl
              clear hd hs
              refine wpv (v := .slice (some ⟨w'.heap.size, 0, none⟩) 1 1) (w' := w'.alloc (.cells #[.int .i64 c, .int .i64 (heldI X)] 23)) ?_ ⟨_, rfl, Grow.alloc' _ _, oneR_new w' ⟨c, heldI X⟩⟩
              (generalize a'.eval = ev at ec ef e86 ⊢; simp [execOp, go_sem, *])
            · refine stepG_take rfl ?_
              intro a' w' hg hs hd hb
              have e79 : a'.eval (.tmp 79) = .slice (some ⟨g, 0, none⟩) k cl := hd ⟨0, Ground.data⟩ (by simp) rfl rfl
              obtain ⟨g87, e87, h87⟩ : OneR ⟨c, heldI X⟩ (a'.eval (.tmp 87)) w' := hd ⟨8, Ground.data⟩ (by simp) rfl rfl
              have ec : ∀ v, a'.eval (.const v) = v := fun _ => rfl
              have ef : ∀ g, a'.eval (.func g) = .func (.func g) #[] #[] := fun _ => rfl
              clear hd hs
              obtain ⟨s2, c2, w2, hrun, hown, hgr, hlie⟩ := run_apG hg.2 30 k cl T ⟨c, heldI X⟩ (hb rfl) HTL.out g87 h87 (by omega) (by have := hg.1.size; omega)
              refine wpv (v := .slice s2 _ c2) (w' := w2) ?_ ⟨_, rfl, ⟨grow_trn GWS.out hgr hwg, hgr⟩, ⟨s2, c2, rfl, hown, hlie⟩, ?_, fun h _ => absurd rfl h⟩
              rotate_left
              · intro j u hj h
                match j with
                | 0 => exact h
                | 1 => exact h
                | 2 => exact h
                | 3 => exact h
                | 4 => exact h
                | 5 => exact h
                | 6 => exact h
                | 7 => exact h
                | 8 => cases hj
                | 9 => cases hj
                | j + 10 => exact trivial
              · unfold execOp; simp only [resolve, invoke, builtin, Sem.run_bind, Sem.run_pure, Result.andThen_ok, List.map_toArray, List.map_cons, List.map_nil, e79, e87, hrun]
          · intro a' w' hg hs hd
            obtain ⟨sa88, ca88, e88, h88, t88⟩ : AppG ws w.heap.size g (k + 1) (T ++ [⟨c, heldI X⟩]) (a'.eval (.tmp 88)) w' := hd 9 (by omega) rfl
            have ec : ∀ v, a'.eval (.const v) = v := fun _ => rfl
            have ef : ∀ g, a'.eval (.func g) = .func (.func g) #[] #[] := fun _ => rfl
            obtain ⟨g2, hs2, hl2⟩ := t88
            subst hs2
            have HF := hide (h88.own)
            have HG3 := hide hg
            have KW3 := hide (KWS.out.turn hg.2 hl2)
            refine wpv (v := .slice (some ⟨g2, 0, none⟩) (k + 1) ca88) (w' := w') ?_ ?_
            · (generalize a'.eval = ev at ec ef e88 ⊢; simp [execOp, go_sem, *])
            clear h88 e88 ec ef hg HGG HBG HG0 HB0 hGg hBg hstab
            rw [frame_eq hs [false, false, false, false, false, true, false, false, false, false, false, false, false, false, false, false, false, false, false, false, false, false, false, false, false, false, false, false, false, false, false, false, false, false, false, false, false, false, false, false, false, false, false, false, false, false, false, false, false, false, false, false, false, false, false, false, false, false, false, false, false, false, false, false, false, false, false, false, false, false, false, false, false, false, false, false, false, false, false, true, true, true, true, true, true, true, true, true, true, false] (by kernel_rfl)]; simp only [mergeL]; clear hs hd; generalize a'.tmps = TT at *; try go_frame
            go_wp2_with fail
            go_roundw
            case rel => exact ⟨k + 1, g2, ca88, by omega, rfl, by go_num, HG3.out.1, KW3.out, by rw [← HST0.out, List.map_append, ← HTT.out]; simp only [List.map_cons, List.map_nil, keyRec]; rw [← HAG.out]; exact HF.out⟩
            case measure => simp [intOf]; omega
    · have hkn : k = nk := by omega
      have hi2 : ¬ (k : Int) < (nk : Int) := by omega
      have HF := hide (show ((keysR d).take k).map (keyRec 3 d) = redR 3 d by
        rw [List.take_of_length_le (by rw [HKL.out]; omega), redR_pos rfl]
        rfl)
      rw [HF.out] at HO
      have IW := hide ((OwnRV.of HO.out rfl).is)
      have hkl : (redR 3 d).length = k := by rw [redR_len rfl, HKL.out]; omega
      rw [hkl] at IW
      clear hg hKI hkn hkl
      go_wp2_with fail
      go_ret
      exact ⟨_, k, cl, rfl, HG.out, IW.out⟩
set_option maxHeartbeats 8000000 in
theorem refRed_4 (s : Option Addr) (n cap : Nat) (d : List Rc) (w : World) (hbig : n ≤ 1000) (hv : ∀ r ∈ d, -1099511627776 ≤ r.v ∧ r.v ≤ 1099511627776) (hd : IsRcs w s n cap d) :
    Calls Try.prog 24 #[.int .i64 4, .slice s n cap] w fun e w' => ∃ s2 n2 c2, e = .returned (.slice s2 n2 c2) ∧ Grow w w' ∧ IsRcs w' s2 n2 c2 (redR 4 d) := by
  have HV := hide hv
  have HDL := hide hd.1
  have G0 : Hid (Grow w (w.alloc (.cells #[] 23))) := hide (Grow.alloc' _ _)
  have O0 : Hid (OwnR (w.alloc (.cells #[] 23)) w.heap.size w.heap.size 0 []) := hide (OwnR.lit0 w _ (Nat.le_refl _))
  have C0 := hide (refMayRed_at 4 (p := true) rfl (w.alloc (.cells #[] 23)))
  have C1 := hide (refKeys_at s n cap d (w.alloc (.cells #[] 23)) (by omega) (hd.later G0.out))
  have D0 := hide hd
  clear hd hv
  go_enter Try.func24, Try.ntmps24
  go_wp2_with fail
  refine (C0.out).mono ?_
  rintro e w1 ⟨rfl, rfl⟩
  go_wp2_with fail
  refine (C1.out).mono ?_
  rintro e w2 ⟨sk, nk, ck, rfl, hb, hK⟩
  have G2 := hide (Grow.trans' G0.out hb)
  have O2 := hide (O0.out.later hb)
  have K2 := hide (keysIn_new hK O2.out)
  have HKL := hide hK.len
  have hnk : nk ≤ 1000 := by
    have h1 := keysR_len d
    rw [hK.len, HDL.out] at h1
    omega
  clear hb hK C1 C0 O0 G0
  go_wp2_with fail
  go_loopw [5, 8] (fun v i wr => ∃ (k g cl : Nat), k ≤ nk ∧ v = .slice (some ⟨g, 0, none⟩) k cl ∧ i = .int .i64 k ∧ Grow w wr ∧ KeysIn wr sk g (keysR d) ∧ OwnR wr w.heap.size g cl (((keysR d).take k).map (keyRec 4 d))) (fun _ i _ => nk - (intOf i).toNat)
  case atStart => exact ⟨0, _, 0, Nat.zero_le _, rfl, rfl, G2.out, K2.out, O2.out⟩
  case round =>
    obtain ⟨k, g, cl, hk, rfl, rfl, hg, hKI, hO⟩ := hrel
    have HG := hide hg
    have HO := hide hO
    have HKI := hide hKI
    have hwg : w.heap.size ≤ g := hO.le.1
    clear hO
    by_cases hlt : k < nk
    · have hkK : k < (keysR d).length := by rw [HKL.out]; exact hlt
      obtain ⟨bk, ok, hsk, hck, hbg⟩ := hKI k hkK
      subst hsk
      have HST0 := hide (List.take_append_getElem hkK)
      have hmem := List.getElem_mem hkK
      obtain ⟨c, hc⟩ : ∃ c, c = (keysR d)[k] := ⟨_, rfl⟩
      rw [← hc] at hck HST0 hmem
      have HNE := hide (filter_ne hmem)
      have CK := hide hck
      have hi1 : (0 : Int) ≤ (k : Int) := by omega
      have hi2 : (k : Int) < (nk : Int) := by omega
      clear hKI hck hc hmem hg
      rename World => wo
      go_wp2_with fail
      go_loopw [9, 10, 11] (fun u v i wr => ∃ (j nn : Nat) (X : Int), j ≤ n ∧ u = .int .i64 nn ∧ v = .int .i64 X ∧ i = .int .i64 j ∧ Grow wo wr ∧ ((d.take j).filter (ofKey c)).length = nn ∧ XOf 4 ((d.take j).filter (ofKey c)) X) (fun _ _ i _ => n - (intOf i).toNat)
      case atStart => exact ⟨0, 0, 0, Nat.zero_le _, rfl, rfl, rfl, Grow.rfl' _, rfl, xOf_nil _⟩
      case round =>
        obtain ⟨j, nn, X, hj, rfl, rfl, rfl, hq, hLN, hXO⟩ := hrel
        have HQ := hide hq
        have HLN := hide hLN
        have HXO := hide hXO
        have hnn : nn ≤ j := by rw [← hLN]; exact key_len d c j
        clear hLN hXO
        by_cases hlj : j < n
        · have hjD : j < d.length := by rw [HDL.out]; exact hlj
          have hne : ¬ d = [] := fun h => by rw [h] at hjD; simp at hjD
          obtain ⟨bd, od, hsd, hrd⟩ := D0.out.2.2.resolve_left hne
          subst hsd
          have HRD := hide (hrd.later HG.out)
          obtain ⟨p0, p1⟩ := (HRD.out.later hq).at j hjD
          have q0 := cell_later hq CK.out
          have HST := hide (key_step d c j hjD)
          have hvy := HV.out d[j] (List.getElem_mem _)
          obtain ⟨y, hy⟩ : ∃ y, y = d[j] := ⟨_, rfl⟩
          rw [← hy] at p0 p1 HST hvy
          have HY := hide hy
          have hj1 : (0 : Int) ≤ (j : Int) := by omega
          have hj2 : (j : Int) < (n : Int) := by omega
          clear hne hrd hy hq
          by_cases hyc : y.k = c
          · rw [if_pos hyc] at HST
            have he : (y.k != c) = false := by simpa using hyc
            clear hyc
            go_wp2
            go_quiet (fail)
            have HQ2 := hide (Grow.trans' HQ.out (below_drewN (Below.refl _ _) nq))
            clear p0 p1 q0 HQ he
            generalize wr.drewN nq = wz at *
            obtain ⟨p0, p1⟩ := (HRD.out.later HQ2.out).at j hjD
            rw [← HY.out] at p0 p1
            have hw2 : nn = 0 ∨ (¬ nn = 0 ∧ y.v < X) ∨ (¬ nn = 0 ∧ ¬ y.v < X) := by omega
            rcases hw2 with hn0 | hn0 | hn0
            · have e0 : ((nn : Int) == 0) = true := by simp; omega
              have f0 : (nn == 0) = true := by simp; omega
              have HNX := hide (show XOf 4 ((d.take j).filter (ofKey c) ++ [y]) (y.v) from (by rw [nil_of_len HLN.out hn0]; exact xOf_40 y))
              clear hn0
              go_wp2_with fail
              go_roundw
              case rel => exact ⟨j + 1, nn + 1, y.v, by omega, by go_num, rfl, by go_num, HQ2.out, by rw [HST.out, List.length_append, HLN.out]; rfl, by rw [HST.out]; exact HNX.out⟩
              case measure => simp [intOf]; omega
            · have e0 : ((nn : Int) == 0) = false := by simp; omega
              have f0 : (nn == 0) = false := by simp; omega
              have e1 : decide (y.v < X) = true := by simp; omega
              have e2 : y.v < X := hn0.2
              have HNX := hide (show XOf 4 ((d.take j).filter (ofKey c) ++ [y]) (y.v) from xOf_4a y (ne_of_len HLN.out hn0.1) HXO.out hn0.2)
              clear hn0
              go_wp2_with fail
              go_roundw
              case rel => exact ⟨j + 1, nn + 1, y.v, by omega, by go_num, rfl, by go_num, HQ2.out, by rw [HST.out, List.length_append, HLN.out]; rfl, by rw [HST.out]; exact HNX.out⟩
              case measure => simp [intOf]; omega
            · have e0 : ((nn : Int) == 0) = false := by simp; omega
              have f0 : (nn == 0) = false := by simp; omega
              have e1 : decide (y.v < X) = false := by simp; omega
              have e2 : ¬ y.v < X := hn0.2
              have HNX := hide (show XOf 4 ((d.take j).filter (ofKey c) ++ [y]) (X) from xOf_4b y (ne_of_len HLN.out hn0.1) HXO.out hn0.2)
              clear hn0
              go_wp2_with fail
              go_roundw
              case rel => exact ⟨j + 1, nn + 1, X, by omega, by go_num, rfl, by go_num, HQ2.out, by rw [HST.out, List.length_append, HLN.out]; rfl, by rw [HST.out]; exact HNX.out⟩
              case measure => simp [intOf]; omega
          · rw [if_neg hyc, List.append_nil] at HST
            have he : (y.k != c) = true := by simpa using hyc
            clear hyc
            go_wp2
            go_quiet (fail)
            have HQ2 := hide (Grow.trans' HQ.out (below_drewN (Below.refl _ _) nq))
            clear p0 p1 q0 HQ he
            generalize wr.drewN nq = wz at *
            go_wp2_with fail
            go_roundw
            case rel => exact ⟨j + 1, nn, X, by omega, rfl, rfl, by go_num, HQ2.out, by rw [HST.out]; exact HLN.out, by rw [HST.out]; exact HXO.out⟩
            case measure => simp [intOf]; omega
        · have hjn : ¬ (j : Int) < (n : Int) := by omega
          have HT : Hid (d.take j = d) := hide (List.take_of_length_le (by rw [HDL.out]; omega))
          rw [HT.out] at HLN HXO
          have HAG := hide (held_agg 4 rfl HNE.out (by rw [HLN.out]; omega) (fun r hr => HV.out r (List.mem_filter.1 hr).1) HXO.out)
          rw [HLN.out] at HAG
          rename World => ws
          have GWS := hide (Grow.trans' HG.out hq)
          have KWS := hide (HKI.out.later hq)
          have OWS := hide (HO.out.later hq)
          have CKW := hide (cell_later hq CK.out)
          obtain ⟨T, hT⟩ : ∃ T, T = ((keysR d).take k).map (keyRec 4 d) := ⟨_, rfl⟩
          rw [← hT] at OWS
          have hTl : T.length = k := by rw [hT, List.length_map, List.length_take]; omega
          have HTL := hide hTl
          have HTT := hide hT
          have hbg' : (some bk : Option Nat) ≠ some g := fun e => hbg (Option.some.inj e)
          have HBG' := hide hbg'
          clear hq hTl hT hbg'
          go_wp2_with fail
          have HGG : ∀ wa wb, (Grow w wa ∧ ws.grownBy wa (some g)) → Grow wa wb → (Grow w wb ∧ ws.grownBy wb (some g)) := fun _ _ h q => ⟨Grow.trans' h.1 q, gby_post h.2 q⟩
          have HBG : ∀ wa wb, Grow wa wb → OwnR wa w.heap.size g cl T → OwnR wb w.heap.size g cl T := fun _ _ q h => h.later q
          have HG0 : ∀ w', Grow ws w' → w'.heap = ws.heap → (Grow w w' ∧ ws.grownBy w' (some g)) := fun _ h _ => ⟨Grow.trans' GWS.out h, gby_but h⟩
          have HB0 : ∀ w', Grow ws w' → w'.heap = ws.heap → OwnR w' w.heap.size g cl T := fun _ h _ => OWS.out.later h
          let FF : Nat → Value → World → Prop := fun i vF wF => match i with | 0 => vF = .slice (some ⟨g, 0, none⟩) k cl | 1 => vF = .slice (some ⟨bk, ok, none⟩) nk ck | 2 => vF = .int .i64 (k : Int) | 3 => vF = .pointer (some ⟨bk, ok + k, none⟩) | 4 => vF = .int .i64 c | 5 => vF = .int .i64 X | 6 => vF = .int .i64 (heldI X) | 7 => vF = .agg #[.int .i64 (⟨c, heldI X⟩ : Rc).k, .int .i64 (⟨c, heldI X⟩ : Rc).v] | 8 => OneR ⟨c, heldI X⟩ vF wF | 9 => AppG ws w.heap.size g (k + 1) (T ++ [⟨c, heldI X⟩]) vF wF | _ => True
          let GG : World → Prop := fun w' => Grow w w' ∧ ws.grownBy w' (some g)
          let BB : World → Prop := fun w' => OwnR w' w.heap.size g cl T
          have hstab : ∀ k v w1 w2, Grow w1 w2 → FF k v w1 → FF k v w2 := by
            intro k v w1 w2 hg h
            match k with
            | 0 => exact h
            | 1 => exact h
            | 2 => exact h
            | 3 => exact h
            | 4 => exact h
            | 5 => exact h
            | 6 => exact h
            | 7 => exact h
            | 8 => exact OneR.later hg h
            | 9 => exact AppG.later hg h
            | k + 10 => exact trivial
          have hGg : ∀ w1 w2, GG w1 → Grow w1 w2 → GG w2 := HGG
          have hBg : ∀ w1 w2, Grow w1 w2 → BB w1 → BB w2 := HBG
          refine wp_region_endG FF GG BB (fun i => match i with | 8 => some 9 | _ => none) 9 10 _ rfl rfl rfl (by kernel_rfl) (by kernel_rfl) HG0 HB0 ?_ ?_
          · refine ⟨?_, ?_, ?_, ?_, ?_, ?_, ?_, ?_, ?_, ?_, trivial⟩
            · refine stepG_run hGg hBg hstab rfl ?_
              intro a' w' hg hs hd hb
              have e5 : a'.eval (.tmp 5) = .slice (some ⟨g, 0, none⟩) k cl := hs.rest 5 rfl
              have ec : ∀ v, a'.eval (.const v) = v := fun _ => rfl
              have ef : ∀ g, a'.eval (.func g) = .func (.func g) #[] #[] := fun _ => rfl
              clear hd hs
              refine wpv (v := .slice (some ⟨g, 0, none⟩) k cl) ?_ ⟨_, rfl, Grow.rfl' _, rfl⟩
              (generalize a'.eval = ev at ec ef e5 ⊢; simp [execOp, go_sem, *])
            · refine stepG_run hGg hBg hstab rfl ?_
              intro a' w' hg hs hd hb
              have e7 : a'.eval (.tmp 7) = .slice (some ⟨bk, ok, none⟩) nk ck := hs.rest 7 rfl
              have ec : ∀ v, a'.eval (.const v) = v := fun _ => rfl
              have ef : ∀ g, a'.eval (.func g) = .func (.func g) #[] #[] := fun _ => rfl
              clear hd hs
              refine wpv (v := .slice (some ⟨bk, ok, none⟩) nk ck) ?_ ⟨_, rfl, Grow.rfl' _, rfl⟩
              (generalize a'.eval = ev at ec ef e7 ⊢; simp [execOp, go_sem, *])
            · refine stepG_run hGg hBg hstab rfl ?_
              intro a' w' hg hs hd hb
              have e8 : a'.eval (.tmp 8) = .int .i64 (k : Int) := hs.rest 8 rfl
              have ec : ∀ v, a'.eval (.const v) = v := fun _ => rfl
              have ef : ∀ g, a'.eval (.func g) = .func (.func g) #[] #[] := fun _ => rfl
              clear hd hs
              refine wpv (v := .int .i64 (k : Int)) ?_ ⟨_, rfl, Grow.rfl' _, rfl⟩
              (generalize a'.eval = ev at ec ef e8 ⊢; simp [execOp, go_sem, *])
            · refine stepG_run hGg hBg hstab rfl ?_
              intro a' w' hg hs hd hb
              have e80 : a'.eval (.tmp 80) = .slice (some ⟨bk, ok, none⟩) nk ck := hd ⟨1, Ground.data⟩ (by simp) rfl rfl
              have e81 : a'.eval (.tmp 81) = .int .i64 (k : Int) := hd ⟨2, Ground.data⟩ (by simp) rfl rfl
              have ec : ∀ v, a'.eval (.const v) = v := fun _ => rfl
              have ef : ∀ g, a'.eval (.func g) = .func (.func g) #[] #[] := fun _ => rfl
              clear hd hs
              refine wpv (v := .pointer (some ⟨bk, ok + k, none⟩)) ?_ ⟨_, rfl, Grow.rfl' _, rfl⟩
              (generalize a'.eval = ev at ec ef e80 e81 ⊢; simp [execOp, go_sem, *])
            · refine stepG_run hGg hBg hstab rfl ?_
              intro a' w' hg hs hd hb
              have e82 : a'.eval (.tmp 82) = .pointer (some ⟨bk, ok + k, none⟩) := hd ⟨3, Ground.data⟩ (by simp) rfl rfl
              have ec : ∀ v, a'.eval (.const v) = v := fun _ => rfl
              have ef : ∀ g, a'.eval (.func g) = .func (.func g) #[] #[] := fun _ => rfl
              have p0 := hg.2.cell CKW.out HBG'.out
              clear hd hs
              refine wpv (v := .int .i64 c) ?_ ⟨_, rfl, Grow.rfl' _, rfl⟩
              (generalize a'.eval = ev at ec ef e82 ⊢; simp [execOp, go_sem, *])
            · refine stepG_run hGg hBg hstab rfl ?_
              intro a' w' hg hs hd hb
              have e10 : a'.eval (.tmp 10) = .int .i64 X := hs.rest 10 rfl
              have ec : ∀ v, a'.eval (.const v) = v := fun _ => rfl
              have ef : ∀ g, a'.eval (.func g) = .func (.func g) #[] #[] := fun _ => rfl
              clear hd hs
              refine wpv (v := .int .i64 X) ?_ ⟨_, rfl, Grow.rfl' _, rfl⟩
              (generalize a'.eval = ev at ec ef e10 ⊢; simp [execOp, go_sem, *])
            · refine stepG_run hGg hBg hstab rfl ?_
              intro a' w' hg hs hd hb
              have e84 : a'.eval (.tmp 84) = .int .i64 X := hd ⟨5, Ground.data⟩ (by simp) rfl rfl
              have ec : ∀ v, a'.eval (.const v) = v := fun _ => rfl
              have ef : ∀ g, a'.eval (.func g) = .func (.func g) #[] #[] := fun _ => rfl
              clear hd hs
              refine wpc ?_ (Calls.mono (refHeld_g X _) fun e w2 ⟨he, hb⟩ => ⟨_, he, _, rfl, hb, rfl⟩)
              (generalize a'.eval = ev at ec ef e84 ⊢; simp [execOp, go_sem, *])
            · refine stepG_run hGg hBg hstab rfl ?_
              intro a' w' hg hs hd hb
              have e83 : a'.eval (.tmp 83) = .int .i64 c := hd ⟨4, Ground.data⟩ (by simp) rfl rfl
              have e85 : a'.eval (.tmp 85) = .int .i64 (heldI X) := hd ⟨6, Ground.data⟩ (by simp) rfl rfl
              have ec : ∀ v, a'.eval (.const v) = v := fun _ => rfl
              have ef : ∀ g, a'.eval (.func g) = .func (.func g) #[] #[] := fun _ => rfl
              clear hd hs
              refine wpv (v := .agg #[.int .i64 (⟨c, heldI X⟩ : Rc).k, .int .i64 (⟨c, heldI X⟩ : Rc).v]) ?_ ⟨_, rfl, Grow.rfl' _, rfl⟩
              (generalize a'.eval = ev at ec ef e83 e85 ⊢; simp [execOp, go_sem, *])
            · refine stepG_run hGg hBg hstab rfl ?_
              intro a' w' hg hs hd hb
              have e86 : a'.eval (.tmp 86) = .agg #[.int .i64 (⟨c, heldI X⟩ : Rc).k, .int .i64 (⟨c, heldI X⟩ : Rc).v] := hd ⟨7, Ground.data⟩ (by simp) rfl rfl
              have ec : ∀ v, a'.eval (.const v) = v := fun _ => rfl
              have ef : ∀ g, a'.eval (.func g) = .func (.func g) #[] #[] := fun _ => rfl
              clear hd hs
              refine wpv (v := .slice (some ⟨w'.heap.size, 0, none⟩) 1 1) (w' := w'.alloc (.cells #[.int .i64 c, .int .i64 (heldI X)] 23)) ?_ ⟨_, rfl, Grow.alloc' _ _, oneR_new w' ⟨c, heldI X⟩⟩
              (generalize a'.eval = ev at ec ef e86 ⊢; simp [execOp, go_sem, *])
            · refine stepG_take rfl ?_
              intro a' w' hg hs hd hb
              have e79 : a'.eval (.tmp 79) = .slice (some ⟨g, 0, none⟩) k cl := hd ⟨0, Ground.data⟩ (by simp) rfl rfl
              obtain ⟨g87, e87, h87⟩ : OneR ⟨c, heldI X⟩ (a'.eval (.tmp 87)) w' := hd ⟨8, Ground.data⟩ (by simp) rfl rfl
              have ec : ∀ v, a'.eval (.const v) = v := fun _ => rfl
              have ef : ∀ g, a'.eval (.func g) = .func (.func g) #[] #[] := fun _ => rfl
              clear hd hs
              obtain ⟨s2, c2, w2, hrun, hown, hgr, hlie⟩ := run_apG hg.2 30 k cl T ⟨c, heldI X⟩ (hb rfl) HTL.out g87 h87 (by omega) (by have := hg.1.size; omega)
              refine wpv (v := .slice s2 _ c2) (w' := w2) ?_ ⟨_, rfl, ⟨grow_trn GWS.out hgr hwg, hgr⟩, ⟨s2, c2, rfl, hown, hlie⟩, ?_, fun h _ => absurd rfl h⟩
              rotate_left
              · intro j u hj h
                match j with
                | 0 => exact h
                | 1 => exact h
                | 2 => exact h
                | 3 => exact h
                | 4 => exact h
                | 5 => exact h
                | 6 => exact h
                | 7 => exact h
                | 8 => cases hj
                | 9 => cases hj
                | j + 10 => exact trivial
              · unfold execOp; simp only [resolve, invoke, builtin, Sem.run_bind, Sem.run_pure, Result.andThen_ok, List.map_toArray, List.map_cons, List.map_nil, e79, e87, hrun]
          · intro a' w' hg hs hd
            obtain ⟨sa88, ca88, e88, h88, t88⟩ : AppG ws w.heap.size g (k + 1) (T ++ [⟨c, heldI X⟩]) (a'.eval (.tmp 88)) w' := hd 9 (by omega) rfl
            have ec : ∀ v, a'.eval (.const v) = v := fun _ => rfl
            have ef : ∀ g, a'.eval (.func g) = .func (.func g) #[] #[] := fun _ => rfl
            obtain ⟨g2, hs2, hl2⟩ := t88
            subst hs2
            have HF := hide (h88.own)
            have HG3 := hide hg
            have KW3 := hide (KWS.out.turn hg.2 hl2)
            refine wpv (v := .slice (some ⟨g2, 0, none⟩) (k + 1) ca88) (w' := w') ?_ ?_
            · (generalize a'.eval = ev at ec ef e88 ⊢; simp [execOp, go_sem, *])
            clear h88 e88 ec ef hg HGG HBG HG0 HB0 hGg hBg hstab
            rw [frame_eq hs [false, false, false, false, false, true, false, false, false, false, false, false, false, false, false, false, false, false, false, false, false, false, false, false, false, false, false, false, false, false, false, false, false, false, false, false, false, false, false, false, false, false, false, false, false, false, false, false, false, false, false, false, false, false, false, false, false, false, false, false, false, false, false, false, false, false, false, false, false, false, false, false, false, false, false, false, false, false, false, true, true, true, true, true, true, true, true, true, true, false] (by kernel_rfl)]; simp only [mergeL]; clear hs hd; generalize a'.tmps = TT at *; try go_frame
            go_wp2_with fail
            go_roundw
            case rel => exact ⟨k + 1, g2, ca88, by omega, rfl, by go_num, HG3.out.1, KW3.out, by rw [← HST0.out, List.map_append, ← HTT.out]; simp only [List.map_cons, List.map_nil, keyRec]; rw [← HAG.out]; exact HF.out⟩
            case measure => simp [intOf]; omega
    · have hkn : k = nk := by omega
      have hi2 : ¬ (k : Int) < (nk : Int) := by omega
      have HF := hide (show ((keysR d).take k).map (keyRec 4 d) = redR 4 d by
        rw [List.take_of_length_le (by rw [HKL.out]; omega), redR_pos rfl]
        rfl)
      rw [HF.out] at HO
      have IW := hide ((OwnRV.of HO.out rfl).is)
      have hkl : (redR 4 d).length = k := by rw [redR_len rfl, HKL.out]; omega
      rw [hkl] at IW
      clear hg hKI hkn hkl
      go_wp2_with fail
      go_ret
      exact ⟨_, k, cl, rfl, HG.out, IW.out⟩
/-- The document's Reduce. -/
theorem refRed_at (a : Int) (s : Option Addr) (n cap : Nat) (d : List Rc) (w : World) (hbig : n ≤ 1000) (hv : ∀ r ∈ d, mayR r = true) (hd : IsRcs w s n cap d) :
    Calls Try.prog 24 #[.int .i64 a, .slice s n cap] w fun e w' => ∃ s2 n2 c2, e = .returned (.slice s2 n2 c2) ∧ Grow w w' ∧ IsRcs w' s2 n2 c2 (redR a d) := by
  have hv' : ∀ r ∈ d, -1099511627776 ≤ r.v ∧ r.v ≤ 1099511627776 := fun r hr => ((mayR_iff r).1 (hv r hr)).2
  cases ha : mayRedB a
  · refine (refRed_no a s n cap ha w).mono ?_
    rintro e w' ⟨g, rfl, hg⟩
    refine ⟨g, 0, 0, rfl, hg, ?_⟩
    unfold redR
    rw [ha, if_neg (by simp)]
    exact ⟨rfl, Nat.le_refl _, .inl rfl⟩
  · have : a = 1 ∨ a = 2 ∨ a = 3 ∨ a = 4 := by simp [mayRedB] at ha; omega
    rcases this with rfl | rfl | rfl | rfl
    · exact refRed_1 s n cap d w hbig hv' hd
    · exact refRed_2 s n cap d w hbig hv' hd
    · exact refRed_3 s n cap d w hbig hv' hd
    · exact refRed_4 s n cap d w hbig hv' hd

end Go.Proofs.Ythkkjhjbojbbaaa
