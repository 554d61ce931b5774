/-
  What the document's own ports does to the world: of every graph whose edges lead from outputs to inputs it tells what is wrong with its inputs; what was there stays as it was.
-/
import Derived.Test.YtehianjfpmbfpaaGreatVRe
import Derived.Test.YtehianjfpmbfpaaGreatHRf
import Derived.Test.YtehianjfpmbfpaaGreatVRw
namespace Go.Proofs.YtehianjfpmbfpaaGreat
set_option maxRecDepth 100000
open Go.RowKit Go.Sort
set_option linter.unusedVariables false
set_option linter.unusedSimpArgs false

/-- What is wrong with inputs. -/
def errPo (N : List Nd) (E : List Ed) : Int := if ¬ (locs N).all (portOk E) = true then 13 else if ¬ (locs N).all (routeOk N E) = true then 15 else 0
/-- A new block for a node, of the region's own. -/
def NewN (base : Nat) (v : Value) (w : World) : Prop := ∃ b, v = .pointer (some ⟨b, 0, none⟩) ∧ BlkN w b ∧ base ≤ b
theorem NewN.later {base : Nat} {v : Value} {w w' : World} (hg : Grow w w') : NewN base v w → NewN base v w' := fun ⟨b, e, h, k⟩ => ⟨b, e, h.later hg, k⟩
theorem wp_store_nd {o : Oper} {a : Act} {w : World} {K : Act → World → Prop} {Q : Exit → Act → World → Prop} (x y : Operand) (ho : o.op = .store 63 x y) {b : Nat} {t : Nd}
    (hx : a.eval x = .pointer (some ⟨b, 0, none⟩)) (hy : a.eval y = .agg #[.int .i64 t.k, .int .i64 t.a, .int .i64 t.b, .int .i64 t.d]) (hb : BlkN w b) (W : World) (hg : Grow W w) (hW : W.heap.size ≤ b)
    (h : ∀ w2, Grow W w2 → BoxN w2 b t → K (a.put o.dst undef) w2) : o.wp Tryz.prog a w K Q := by
  have hb' := hb
  obtain ⟨cs, hb, hs⟩ := hb
  exact wp_store_row 63 x y ho b _ hx hy _ _ hb (by kernel_rfl) (by rw [hs]; rfl) (by simp [Value.oneCell']) (h _ (below_setRow hg hW _) (hb'.box t))
theorem port_out {E : List Ed} {n : Int} : portOk E ⟨n, -1⟩ = true := by simp [portOk]
theorem port_in {E : List Ed} {l : Lc} (h : ¬ l.p = -1) : portOk E l = decide ((prevP E l).length = 1) := by simp [portOk, h]
theorem route_out {N : List Nd} {E : List Ed} {n : Int} : routeOk N E ⟨n, -1⟩ = true := by simp [routeOk]
theorem route_no {N : List Nd} {E : List Ed} {l : Lc} (h1 : ¬ (nth N l.n.toNat).k = 6) (h2 : ¬ (nth N l.n.toNat).k = 7) : routeOk N E l = true := by simp [routeOk, h1, h2]
theorem route_in {N : List Nd} {E : List Ed} {l : Lc} {j : Int} (h : ¬ l.p = -1) (hk : (nth N l.n.toNat).k = 6 ∨ (nth N l.n.toNat).k = 7) (hp : prevP E l = [j]) : routeOk N E l = decide ((nth N j.toNat).k = 5) := by
  unfold routeOk
  rw [hp]
  rcases hk with hk | hk <;> simp [h, hk]
set_option maxHeartbeats 16000000 in
theorem rports_raw (gs : Option Addr) (gn gc : Nat) (gt : Option Addr) (gm gq : Nat) (N : List Nd) (E : List Ed) (w : World) (hn : gn ≤ 20) (hm : gm ≤ 40) (hin : InN N E) (hg : IsNds w gs gn gc N) (he : IsEds w gt gm gq E) {r : Int} (hr : errPo N E = r) :
    Calls Tryz.prog 53 #[.agg #[.slice gs gn gc, .slice gt gm gq]] w fun e w' => e = .returned (.int .i64 r) ∧ Grow w w' := by
  have HR := hide hr
  have HIN := hide hin
  have hm3 := hm
  have hN : Hid (N.length = gn) := hide hg.1
  have GRT : Hid (Grow w (w.alloc (.cells #[.slice gs gn gc, .slice gt gm gq] 25))) := hide (Grow.alloc' _ _)
  have KG : Hid (BoxG (w.alloc (.cells #[.slice gs gn gc, .slice gt gm gq] 25)) w.heap.size ⟨gs, gn, gc, gt, gm, gq, [], []⟩) := hide (BoxG.new w ⟨gs, gn, gc, gt, gm, gq, [], []⟩)
  have HN := hide (hg.later GRT.out)
  have HE := hide (he.later GRT.out)
  have C0 := hide (fun w' (h : Grow (w.alloc (.cells #[.slice gs gn gc, .slice gt gm gq] 25)) w') => rlocs_raw gs gn gc gt gm gq N w' hn (HN.out.later h))
  have hl : (locs N).length ≤ 60 := by
    have h2 : (locs N).length ≤ 3 * N.length := locsTo_len N N.length
    rw [hg.1] at h2
    omega
  clear hg he hr hin hm hn
  go_enter Tryz.func53, Tryz.ntmps53
  go_wp2_with fail
  generalize (w.alloc (.cells #[.slice gs gn gc, .slice gt gm gq] 25)) = w0 at *
  generalize w.heap.size = P at *
  refine (C0.out _ (Grow.rfl' _)).mono ?_
  rintro _ w1 ⟨s, m, c, rfl, hb, hO⟩
  have G1 := hide hb
  have HD := hide hO.is
  have hmm : m ≤ 60 := by rw [← hO.1]; exact hl
  have HIS : Hid (∀ j (h : j < (locs N).length), isP N (locs N)[j] = true) := hide (locs_is N)
  obtain ⟨D, hD⟩ : ∃ D, D = locs N := ⟨_, rfl⟩
  have HDD := hide hD
  rw [← hD] at HD HIS
  clear hb hO C0 hl hD
  go_wp2_with fail
  go_loopw [4] (fun i wr => ∃ j : Nat, j ≤ m ∧ i = .int .i64 (j : Int) ∧ Grow w1 wr ∧ ∀ q (h : q < D.length), q < j → portOk E D[q] = true) (fun i _ => m - (intOf i).toNat)
  case atStart => exact ⟨0, Nat.zero_le _, rfl, Grow.rfl' _, fun q _ h => by omega⟩
  case round =>
    obtain ⟨j, hj, rfl, hg, hall⟩ := hrel
    generalize wr = wi at *
    have HG2 := hide hg
    have HA := hide hall
    clear hall
    by_cases hjt : j < m
    · have hkd : j < D.length := by rw [HD.out.1]; exact hjt
      have hne : ¬ D = [] := fun h => by rw [h] at hkd; simp at hkd
      obtain ⟨b, o, rfl, hr1⟩ := HD.out.2.2.resolve_left hne
      obtain ⟨p0, p1⟩ := (hr1.later hg).at j hkd
      obtain ⟨x, hx⟩ : ∃ x, x = D[j] := ⟨_, rfl⟩
      rw [← hx] at p0 p1
      have HX : Hid (∀ h : j < D.length, D[j]'h = x) := hide (fun h => hx.symm)
      have HKD := hide hkd
      obtain ⟨xn, xp⟩ := x
      dsimp only at p0 p1
      have hj1 : (0 : Int) ≤ (j : Int) := by omega
      have hj2 : (j : Int) < (m : Int) := by omega
      have GA := hide (Grow.trans' G1.out hg)
      by_cases hp : xp = -1
      · subst hp
        have HY : Hid (∀ h : j < D.length, portOk E (D[j]'h) = true) := hide (fun h => by rw [HX.out]; exact port_out)
        clear hne hr1 hkd hx hg
        go_wp2_with fail
        go_quiet (fail)
        have HQ2 := hide (Grow.trans' HG2.out (below_drewN (Below.refl _ _) nq))
        clear p0 p1 HG2
        generalize wi.drewN nq = wz at *
        go_wp2_with fail
        go_roundw
        case rel =>
          refine ⟨j + 1, by omega, by go_num, HQ2.out, fun q h hq => ?_⟩
          by_cases hqj : q < j
          · exact HA.out q h hqj
          · have : q = j := by omega
            subst this
            exact HY.out h
        case measure => simp [intOf]; omega
      · have hpx : (xp == -1) = false := by simpa using hp
        obtain ⟨L, hL⟩ : ∃ L, L = prevP E ⟨xn, xp⟩ := ⟨_, rfl⟩
        have HL := hide hL
        have P0 := hide p0
        have P1 := hide p1
        have HP := hide hp
        obtain ⟨q, hqI⟩ : ∃ q, (((L.length : Nat) : Int) != 1) = q := ⟨_, rfl⟩
        have HQ : Hid ((q = true → ¬ L.length = 1) ∧ (q = false → L.length = 1)) := hide (by rw [← hqI]; simp; omega)
        clear hne hr1 hkd hx hg hL p0 p1
        go_wp2_with fail
        let FF : Nat → Value → World → Prop := fun i vF wF => match i with | 0 => vF = .slice (some ⟨b, o, none⟩) m c | 1 => vF = .int .i64 (j : Int) | 2 => vF = .pointer (some ⟨b, o + j * 2, none⟩) | 3 => vF = .pointer (some ⟨b, o + j * 2 + 1, none⟩) | 4 => vF = .int .i64 xp | 5 => vF = .bool true | 6 => vF = .bool true | 7 => vF = .agg #[.slice gs gn gc, .slice gt gm gq] | 8 => vF = .slice (some ⟨b, o, none⟩) m c | 9 => vF = .int .i64 (j : Int) | 10 => vF = .pointer (some ⟨b, o + j * 2, none⟩) | 11 => vF = .agg #[.int .i64 xn, .int .i64 xp] | 12 => IsRowI L vF wF | 13 => vF = .int .i64 (L.length : Int) | 14 => vF = .bool q | 15 => vF = .bool q | _ => True
        have hstab : ∀ k v w1 w2, Grow w1 w2 → FF k v w1 → FF k v w2 := by
          intro k v w1 w2 hg h
          match k with
          | 0 => exact h
          | 1 => exact h
          | 2 => exact h
          | 3 => exact h
          | 4 => exact h
          | 5 => exact h
          | 6 => exact h
          | 7 => exact h
          | 8 => exact h
          | 9 => exact h
          | 10 => exact h
          | 11 => exact h
          | 12 => exact IsRowI.later hg h
          | 13 => exact h
          | 14 => exact h
          | 15 => exact h
          | k + 16 => exact trivial
        refine wp_region_invK FF (fun _ => none) (by kernel_rfl) (by kernel_rfl) ?_ ?_
        · refine ⟨?_, ?_, ?_, ?_, ?_, ?_, ?_, ?_, ?_, ?_, ?_, ?_, ?_, ?_, ?_, ?_, trivial⟩
          · refine stepK_run hstab trivial (by intro j b h; cases h) ?_
            intro a' w' hg hs hd
            have e3 : a'.eval (.tmp 3) = .slice (some ⟨b, o, none⟩) m c := hs.rest 3 rfl
            have ec : ∀ v, a'.eval (.const v) = v := fun _ => rfl
            have ef : ∀ g, a'.eval (.func g) = .func (.func g) #[] #[] := fun _ => rfl
            clear hd hs
            refine wpv (v := .slice (some ⟨b, o, none⟩) m c) ?_ ⟨_, rfl, Grow.rfl' _, rfl⟩
            (generalize a'.eval = ev at ec ef e3 ⊢; simp [execOp, go_sem, *])
          · refine stepK_run hstab trivial (by intro j b h; cases h) ?_
            intro a' w' hg hs hd
            have e4 : a'.eval (.tmp 4) = .int .i64 (j : Int) := hs.rest 4 rfl
            have ec : ∀ v, a'.eval (.const v) = v := fun _ => rfl
            have ef : ∀ g, a'.eval (.func g) = .func (.func g) #[] #[] := fun _ => rfl
            clear hd hs
            refine wpv (v := .int .i64 (j : Int)) ?_ ⟨_, rfl, Grow.rfl' _, rfl⟩
            (generalize a'.eval = ev at ec ef e4 ⊢; simp [execOp, go_sem, *])
          · refine stepK_run hstab trivial (by intro j b h; cases h) ?_
            intro a' w' hg hs hd
            have e16 : a'.eval (.tmp 16) = .slice (some ⟨b, o, none⟩) m c := hd ⟨0, Ground.data⟩ (by simp) rfl rfl
            have e17 : a'.eval (.tmp 17) = .int .i64 (j : Int) := hd ⟨1, Ground.data⟩ (by simp) rfl rfl
            have ec : ∀ v, a'.eval (.const v) = v := fun _ => rfl
            have ef : ∀ g, a'.eval (.func g) = .func (.func g) #[] #[] := fun _ => rfl
            clear hd hs
            refine wpv (v := .pointer (some ⟨b, o + j * 2, none⟩)) ?_ ⟨_, rfl, Grow.rfl' _, rfl⟩
            (generalize a'.eval = ev at ec ef e16 e17 ⊢; simp [execOp, go_sem, *])
          · refine stepK_run hstab trivial (by intro j b h; cases h) ?_
            intro a' w' hg hs hd
            have e18 : a'.eval (.tmp 18) = .pointer (some ⟨b, o + j * 2, none⟩) := hd ⟨2, Ground.data⟩ (by simp) rfl rfl
            have ec : ∀ v, a'.eval (.const v) = v := fun _ => rfl
            have ef : ∀ g, a'.eval (.func g) = .func (.func g) #[] #[] := fun _ => rfl
            clear hd hs
            refine wpv (v := .pointer (some ⟨b, o + j * 2 + 1, none⟩)) ?_ ⟨_, rfl, Grow.rfl' _, rfl⟩
            (generalize a'.eval = ev at ec ef e18 ⊢; simp [execOp, go_sem, *])
          · refine stepK_run hstab trivial (by intro j b h; cases h) ?_
            intro a' w' hg hs hd
            have e19 : a'.eval (.tmp 19) = .pointer (some ⟨b, o + j * 2 + 1, none⟩) := hd ⟨3, Ground.data⟩ (by simp) rfl rfl
            have ec : ∀ v, a'.eval (.const v) = v := fun _ => rfl
            have ef : ∀ g, a'.eval (.func g) = .func (.func g) #[] #[] := fun _ => rfl
            clear hd hs
            have p1 := cell_later hg P1.out
            refine wpv (v := .int .i64 xp) ?_ ⟨_, rfl, Grow.rfl' _, rfl⟩
            (generalize a'.eval = ev at ec ef e19 ⊢; simp [execOp, go_sem, *])
          · refine stepK_run hstab trivial (by intro j b h; cases h) ?_
            intro a' w' hg hs hd
            have e20 : a'.eval (.tmp 20) = .int .i64 xp := hd ⟨4, Ground.data⟩ (by simp) rfl rfl
            have ec : ∀ v, a'.eval (.const v) = v := fun _ => rfl
            have ef : ∀ g, a'.eval (.func g) = .func (.func g) #[] #[] := fun _ => rfl
            clear hd hs
            refine wpv (v := .bool true) ?_ ⟨_, rfl, Grow.rfl' _, rfl⟩
            (generalize a'.eval = ev at ec ef e20 ⊢; simp [execOp, go_sem, *])
          · refine stepK_run hstab trivial (by intro j b h; cases h) ?_
            intro a' w' hg hs hd
            have e21 : a'.eval (.tmp 21) = .bool true := hd ⟨5, Ground.data⟩ (by simp) rfl rfl
            have ec : ∀ v, a'.eval (.const v) = v := fun _ => rfl
            have ef : ∀ g, a'.eval (.func g) = .func (.func g) #[] #[] := fun _ => rfl
            clear hd hs
            refine wpv (v := .bool true) ?_ ⟨_, rfl, Grow.rfl' _, rfl⟩
            (generalize a'.eval = ev at ec ef e21 ⊢; simp [execOp, go_sem, *])
          · refine stepK_run hstab ⟨⟨⟨6, Ground.guard⟩, by simp, rfl, rfl⟩, fun _ _ h => h⟩ (by intro j b h; cases h; rfl) ?_
            intro a' w' hg hs hd
            have e1 : a'.eval (.tmp 1) = .pointer (some ⟨P, 0, none⟩) := hs.rest 1 rfl
            have ec : ∀ v, a'.eval (.const v) = v := fun _ => rfl
            have ef : ∀ g, a'.eval (.func g) = .func (.func g) #[] #[] := fun _ => rfl
            clear hd hs
            obtain ⟨k0, k1⟩ := KG.out.later (Grow.trans' GA.out hg); dsimp only at k0 k1
            refine wpv (v := .agg #[.slice gs gn gc, .slice gt gm gq]) ?_ ⟨_, rfl, Grow.rfl' _, rfl⟩
            (generalize a'.eval = ev at ec ef e1 ⊢; simp [execOp, go_sem, *])
          · refine stepK_run hstab ⟨⟨⟨6, Ground.guard⟩, by simp, rfl, rfl⟩, fun _ _ h => h⟩ (by intro j b h; cases h; rfl) ?_
            intro a' w' hg hs hd
            have e3 : a'.eval (.tmp 3) = .slice (some ⟨b, o, none⟩) m c := hs.rest 3 rfl
            have ec : ∀ v, a'.eval (.const v) = v := fun _ => rfl
            have ef : ∀ g, a'.eval (.func g) = .func (.func g) #[] #[] := fun _ => rfl
            clear hd hs
            refine wpv (v := .slice (some ⟨b, o, none⟩) m c) ?_ ⟨_, rfl, Grow.rfl' _, rfl⟩
            (generalize a'.eval = ev at ec ef e3 ⊢; simp [execOp, go_sem, *])
          · refine stepK_run hstab ⟨⟨⟨6, Ground.guard⟩, by simp, rfl, rfl⟩, fun _ _ h => h⟩ (by intro j b h; cases h; rfl) ?_
            intro a' w' hg hs hd
            have e4 : a'.eval (.tmp 4) = .int .i64 (j : Int) := hs.rest 4 rfl
            have ec : ∀ v, a'.eval (.const v) = v := fun _ => rfl
            have ef : ∀ g, a'.eval (.func g) = .func (.func g) #[] #[] := fun _ => rfl
            clear hd hs
            refine wpv (v := .int .i64 (j : Int)) ?_ ⟨_, rfl, Grow.rfl' _, rfl⟩
            (generalize a'.eval = ev at ec ef e4 ⊢; simp [execOp, go_sem, *])
          · refine stepK_run hstab ⟨⟨⟨6, Ground.guard⟩, by simp, rfl, rfl⟩, fun _ _ h => h⟩ (by intro j b h; cases h; rfl) ?_
            intro a' w' hg hs hd
            have e24 : a'.eval (.tmp 24) = .slice (some ⟨b, o, none⟩) m c := hd ⟨8, Ground.data⟩ (by simp) rfl rfl
            have e25 : a'.eval (.tmp 25) = .int .i64 (j : Int) := hd ⟨9, Ground.data⟩ (by simp) rfl rfl
            have ec : ∀ v, a'.eval (.const v) = v := fun _ => rfl
            have ef : ∀ g, a'.eval (.func g) = .func (.func g) #[] #[] := fun _ => rfl
            clear hd hs
            refine wpv (v := .pointer (some ⟨b, o + j * 2, none⟩)) ?_ ⟨_, rfl, Grow.rfl' _, rfl⟩
            (generalize a'.eval = ev at ec ef e24 e25 ⊢; simp [execOp, go_sem, *])
          · refine stepK_run hstab ⟨⟨⟨6, Ground.guard⟩, by simp, rfl, rfl⟩, fun _ _ h => h⟩ (by intro j b h; cases h; rfl) ?_
            intro a' w' hg hs hd
            have e26 : a'.eval (.tmp 26) = .pointer (some ⟨b, o + j * 2, none⟩) := hd ⟨10, Ground.data⟩ (by simp) rfl rfl
            have ec : ∀ v, a'.eval (.const v) = v := fun _ => rfl
            have ef : ∀ g, a'.eval (.func g) = .func (.func g) #[] #[] := fun _ => rfl
            clear hd hs
            have p1 := cell_later hg P1.out; have p0 := cell_later hg P0.out
            refine wpv (v := .agg #[.int .i64 xn, .int .i64 xp]) ?_ ⟨_, rfl, Grow.rfl' _, rfl⟩
            (generalize a'.eval = ev at ec ef e26 ⊢; simp [execOp, go_sem, *])
          · refine stepK_run hstab ⟨⟨⟨6, Ground.chain⟩, by simp, rfl, rfl⟩, fun _ _ h => h⟩ (by intro j b h; cases h; rfl) ?_
            intro a' w' hg hs hd
            have e23 : a'.eval (.tmp 23) = .agg #[.slice gs gn gc, .slice gt gm gq] := hd ⟨7, Ground.data⟩ (by simp) rfl rfl
            have e27 : a'.eval (.tmp 27) = .agg #[.int .i64 xn, .int .i64 xp] := hd ⟨11, Ground.data⟩ (by simp) rfl rfl
            have ec : ∀ v, a'.eval (.const v) = v := fun _ => rfl
            have ef : ∀ g, a'.eval (.func g) = .func (.func g) #[] #[] := fun _ => rfl
            clear hd hs
            refine wpc ?_ (Calls.mono (rowI_of (args := [_, _]) (by rw [HL.out]; exact rprev_raw gs gn gc gt gm gq E xn xp w' hm3 (HE.out.later (Grow.trans' GA.out hg)))) fun e w2 ⟨v, he, hb, hv⟩ => ⟨v, he, _, rfl, hb, hv⟩)
            (generalize a'.eval = ev at ec ef e23 e27 ⊢; simp [execOp, go_sem, *])
          · refine stepK_run hstab ⟨⟨⟨6, Ground.guard⟩, by simp, rfl, rfl⟩, fun _ _ h => h⟩ (by intro j b h; cases h; rfl) ?_
            intro a' w' hg hs hd
            obtain ⟨sl28, nl28, cl28, e28, h28⟩ : IsRowI L (a'.eval (.tmp 28)) w' := hd ⟨12, Ground.data⟩ (by simp) rfl rfl
            have ec : ∀ v, a'.eval (.const v) = v := fun _ => rfl
            have ef : ∀ g, a'.eval (.func g) = .func (.func g) #[] #[] := fun _ => rfl
            clear hd hs
            have hL' : (nl28 : Int) = (L.length : Int) := by rw [h28.1]
            refine wpv (v := .int .i64 (L.length : Int)) ?_ ⟨_, rfl, Grow.rfl' _, rfl⟩
            (generalize a'.eval = ev at ec ef e28 ⊢; simp [go_sem, *])
          · refine stepK_run hstab ⟨⟨⟨6, Ground.guard⟩, by simp, rfl, rfl⟩, fun _ _ h => h⟩ (by intro j b h; cases h; rfl) ?_
            intro a' w' hg hs hd
            have e29 : a'.eval (.tmp 29) = .int .i64 (L.length : Int) := hd ⟨13, Ground.data⟩ (by simp) rfl rfl
            have ec : ∀ v, a'.eval (.const v) = v := fun _ => rfl
            have ef : ∀ g, a'.eval (.func g) = .func (.func g) #[] #[] := fun _ => rfl
            clear hd hs
            refine wpv (v := .bool q) ?_ ⟨_, rfl, Grow.rfl' _, rfl⟩
            (generalize a'.eval = ev at ec ef e29 ⊢; simp [execOp, go_sem, *])
          · refine stepK_run hstab trivial (by intro j b h; cases h) ?_
            intro a' w' hg hs hd
            have e22 : a'.eval (.tmp 22) = .bool true := hd ⟨6, Ground.data⟩ (by simp) rfl rfl
            have e30 : a'.eval (.tmp 30) = .bool q := hd ⟨14, Ground.data⟩ (by simp) rfl rfl
            have ec : ∀ v, a'.eval (.const v) = v := fun _ => rfl
            have ef : ∀ g, a'.eval (.func g) = .func (.func g) #[] #[] := fun _ => rfl
            clear hd hs
            refine wpv (v := .bool q) ?_ ⟨_, rfl, Grow.rfl' _, rfl⟩
            (generalize a'.eval = ev at ec ef e22 e30 ⊢; simp [execOp, go_sem, *])
        · intro a' w' hg hs hd
          have G4 := hide (Grow.trans' HG2.out hg)
          clear P0 P1 hg HG2 GA
          have fz16 : a'.tmps.getD 16 undef = .slice (some ⟨b, o, none⟩) m c := hd 0 (by simp) (by intro k h; cases h); have fz17 : a'.tmps.getD 17 undef = .int .i64 (j : Int) := hd 1 (by simp) (by intro k h; cases h); have fz18 : a'.tmps.getD 18 undef = .pointer (some ⟨b, o + j * 2, none⟩) := hd 2 (by simp) (by intro k h; cases h); have fz19 : a'.tmps.getD 19 undef = .pointer (some ⟨b, o + j * 2 + 1, none⟩) := hd 3 (by simp) (by intro k h; cases h); have fz20 : a'.tmps.getD 20 undef = .int .i64 xp := hd 4 (by simp) (by intro k h; cases h); have fz21 : a'.tmps.getD 21 undef = .bool true := hd 5 (by simp) (by intro k h; cases h); have fz22 : a'.tmps.getD 22 undef = .bool true := hd 6 (by simp) (by intro k h; cases h); have fz23 : a'.tmps.getD 23 undef = .agg #[.slice gs gn gc, .slice gt gm gq] := hd 7 (by simp) (by intro k h; cases h); have fz24 : a'.tmps.getD 24 undef = .slice (some ⟨b, o, none⟩) m c := hd 8 (by simp) (by intro k h; cases h); have fz25 : a'.tmps.getD 25 undef = .int .i64 (j : Int) := hd 9 (by simp) (by intro k h; cases h); have fz26 : a'.tmps.getD 26 undef = .pointer (some ⟨b, o + j * 2, none⟩) := hd 10 (by simp) (by intro k h; cases h); have fz27 : a'.tmps.getD 27 undef = .agg #[.int .i64 xn, .int .i64 xp] := hd 11 (by simp) (by intro k h; cases h); have fz29 : a'.tmps.getD 29 undef = .int .i64 (L.length : Int) := hd 13 (by simp) (by intro k h; cases h); have fz30 : a'.tmps.getD 30 undef = .bool q := hd 14 (by simp) (by intro k h; cases h); have fz31 : a'.tmps.getD 31 undef = .bool q := hd 15 (by simp) (by intro k h; cases h); rw [frame_eq hs [false, false, false, false, false, false, false, false, false, false, false, false, false, false, false, false, true, true, true, true, true, true, true, true, true, true, true, true, true, true, true, true, false, false, false, false, false, false, false, false, false, false, false, false, false, false, false, false, false, false, false, false, false, false, false, false, false, false, false, false, false, false, false, false, false, false, false, false, false, false, false, false, false, false, false, false, false, false] (by kernel_rfl)]; simp only [mergeL, fz16, fz17, fz18, fz19, fz20, fz21, fz22, fz23, fz24, fz25, fz26, fz27, fz29, fz30, fz31]; clear hs hd hstab fz16 fz17 fz18 fz19 fz20 fz21 fz22 fz23 fz24 fz25 fz26 fz27 fz29 fz30 fz31; generalize a'.tmps = TT at *
          generalize w' = w4 at *
          clear hqI hpx hp
          cases q
          · have HY : Hid (∀ h : j < D.length, portOk E (D[j]'h) = true) := hide (fun h => by rw [HX.out, port_in HP.out, ← HL.out]; exact decide_eq_true (HQ.out.2 rfl))
            go_wp2_with fail
            go_roundw
            case rel =>
              refine ⟨j + 1, by omega, by go_num, G4.out, fun q h hq => ?_⟩
              by_cases hqj : q < j
              · exact HA.out q h hqj
              · have : q = j := by omega
                subst this
                exact HY.out h
            case measure => simp [intOf]; omega
          · have HT : Hid (r = 13) := hide (by
              rw [← HR.out]
              unfold errPo
              rw [if_pos (by
                rw [← HDD.out]
                exact not_all HKD.out (by rw [HX.out, port_in HP.out, ← HL.out]; exact decide_eq_false (HQ.out.1 rfl)))])
            go_wp2_with fail
            go_ret
            exact ⟨ret_int HT.out.symm, Grow.trans' GRT.out (Grow.trans' G1.out G4.out)⟩
    · have hj2 : ¬ (j : Int) < (m : Int) := by omega
      have HALL : Hid (D.all (portOk E) = true) := hide (all_upto fun q hq => HA.out q hq (by rw [HD.out.1] at hq; omega))
      have HDi := hide (HD.out.later hg)
      have GGi := hide (Grow.trans' G1.out hg)
      clear hg HA HG2 HD G1
      go_wp2_with fail
      go_loopw [5] (fun i wr => ∃ j : Nat, j ≤ m ∧ i = .int .i64 (j : Int) ∧ Grow wi wr ∧ ∀ q (h : q < D.length), q < j → routeOk N E D[q] = true) (fun i _ => m - (intOf i).toNat)
      case atStart => exact ⟨0, Nat.zero_le _, rfl, Grow.rfl' _, fun q _ h => by omega⟩
      case round =>
        obtain ⟨k, hk, rfl, hg, hall⟩ := hrel
        generalize wr = wk at *
        have HG2 := hide hg
        have HA := hide hall
        clear hall
        by_cases hjt : k < m
        · have hkd : k < D.length := by rw [HDi.out.1]; exact hjt
          have hne : ¬ D = [] := fun h => by rw [h] at hkd; simp at hkd
          obtain ⟨b, o, rfl, hr1⟩ := HDi.out.2.2.resolve_left hne
          obtain ⟨p0, p1⟩ := (hr1.later hg).at k hkd
          have hpl : 0 ≤ D[k].n ∧ D[k].n < N.length := isP_node (n := D[k].n) (p := D[k].p) (HIS.out k hkd)
          have hpo := List.all_eq_true.1 HALL.out D[k] (List.getElem_mem hkd)
          obtain ⟨x, hx⟩ : ∃ x, x = D[k] := ⟨_, rfl⟩
          rw [← hx] at p0 p1 hpl hpo
          have HX : Hid (∀ h : k < D.length, D[k]'h = x) := hide (fun h => hx.symm)
          have HKD := hide hkd
          obtain ⟨xn, xp⟩ := x
          dsimp only at p0 p1 hpl
          obtain ⟨ni, rfl⟩ : ∃ ni : Nat, xn = ni := ⟨xn.toNat, by omega⟩
          have hiN : ni < N.length := by omega
          have hneN : ¬ N = [] := fun h => by rw [h] at hiN; simp at hiN
          obtain ⟨bN, oN, rfl, hr2⟩ := HN.out.2.2.resolve_left hneN
          have GA := hide (Grow.trans' GGi.out hg)
          obtain ⟨q0, q1, q2, q3⟩ := (hr2.later GA.out).at ni hiN
          rw [← nth_get N ni hiN] at q0 q1 q2 q3
          have hki : (nth N ((ni : Nat) : Int).toNat).k = (nth N ni).k := rfl
          obtain ⟨y, hy⟩ : ∃ y, y = nth N ni := ⟨_, rfl⟩
          rw [← hy] at q0 q1 q2 q3 hki
          obtain ⟨yk, ya, yb, yd⟩ := y
          dsimp only at q0 q1 q2 q3 hki
          have HKI := hide hki
          have HPO := hide hpo
          have HR2 := hide hr2
          have hj1 : (0 : Int) ≤ (k : Int) := by omega
          have hj3 : (k : Int) < (m : Int) := by omega
          have hnn := hN.out
          have hi3 : (0 : Int) ≤ (ni : Int) := by omega
          have hi4 : (ni : Int) < (gn : Int) := by omega
          have P0 := hide p0
          have P1 := hide p1
          have Q0 := hide q0
          have Q1 := hide q1
          have Q2 := hide q2
          have Q3 := hide q3
          clear hne hr1 hkd hx hg hpl hpo hiN hneN hr2 hki hy hnn p0 p1 q0 q1 q2 q3
          go_wp2_with fail
          have HGG : ∀ wa wb, Grow wk wa → Grow wa wb → Grow wk wb := fun _ _ h q => Grow.trans' h q
          have HBG : ∀ wa wb, Grow wa wb → True → True := fun _ _ _ h => h
          have HG0 : ∀ w', Grow wk w' → w'.heap = wk.heap → Grow wk w' := fun _ h _ => h
          have HB0 : ∀ w', Grow wk w' → w'.heap = wk.heap → True := fun _ _ _ => trivial
          let FF : Nat → Value → World → Prop := fun i vF wF => match i with | 0 => vF = .pointer (some ⟨P, 0, none⟩) | 1 => vF = .slice (some ⟨bN, oN, none⟩) gn gc | 2 => vF = .slice (some ⟨b, o, none⟩) m c | 3 => vF = .int .i64 (k : Int) | 4 => vF = .pointer (some ⟨b, o + k * 2, none⟩) | 5 => vF = .pointer (some ⟨b, o + k * 2, none⟩) | 6 => vF = .int .i64 (ni : Int) | 7 => vF = .pointer (some ⟨bN, oN + ni * 4, none⟩) | 8 => vF = .agg #[.int .i64 yk, .int .i64 ya, .int .i64 yb, .int .i64 yd] | 9 => NewN wk.heap.size vF wF | _ => True
          let GG : World → Prop := fun w' => Grow wk w'
          let BB : World → Prop := fun w' => True
          have hstab : ∀ k v w1 w2, Grow w1 w2 → FF k v w1 → FF k v w2 := by
            intro k v w1 w2 hg h
            match k with
            | 0 => exact h
            | 1 => exact h
            | 2 => exact h
            | 3 => exact h
            | 4 => exact h
            | 5 => exact h
            | 6 => exact h
            | 7 => exact h
            | 8 => exact h
            | 9 => exact NewN.later hg h
            | k + 10 => exact trivial
          have hGg : ∀ w1 w2, GG w1 → Grow w1 w2 → GG w2 := HGG
          have hBg : ∀ w1 w2, Grow w1 w2 → BB w1 → BB w2 := HBG
          refine wp_region_endG FF GG BB (fun _ => none) 999 10 _ rfl rfl rfl (by kernel_rfl) (by kernel_rfl) HG0 HB0 ?_ ?_
          · refine ⟨?_, ?_, ?_, ?_, ?_, ?_, ?_, ?_, ?_, ?_, trivial⟩
            · refine stepG_run hGg hBg hstab rfl ?_
              intro a' w' hg hs hd hb
              have e1 : a'.eval (.tmp 1) = .pointer (some ⟨P, 0, none⟩) := hs.rest 1 rfl
              have ec : ∀ v, a'.eval (.const v) = v := fun _ => rfl
              have ef : ∀ g, a'.eval (.func g) = .func (.func g) #[] #[] := fun _ => rfl
              clear hd hs
              refine wpv (v := .pointer (some ⟨P, 0, none⟩)) ?_ ⟨_, rfl, Grow.rfl' _, rfl⟩
              (generalize a'.eval = ev at ec ef e1 ⊢; simp [execOp, go_sem, *])
            · refine stepG_run hGg hBg hstab rfl ?_
              intro a' w' hg hs hd hb
              have e38 : a'.eval (.tmp 38) = .pointer (some ⟨P, 0, none⟩) := hd ⟨0, Ground.data⟩ (by simp) rfl rfl
              have ec : ∀ v, a'.eval (.const v) = v := fun _ => rfl
              have ef : ∀ g, a'.eval (.func g) = .func (.func g) #[] #[] := fun _ => rfl
              obtain ⟨k0, k1⟩ := KG.out.later (Grow.trans' GA.out hg); dsimp only at k0 k1
              clear hd hs
              refine wpv (v := .slice (some ⟨bN, oN, none⟩) gn gc) ?_ ⟨_, rfl, Grow.rfl' _, rfl⟩
              (generalize a'.eval = ev at ec ef e38 ⊢; simp [execOp, go_sem, *])
            · refine stepG_run hGg hBg hstab rfl ?_
              intro a' w' hg hs hd hb
              have e3 : a'.eval (.tmp 3) = .slice (some ⟨b, o, none⟩) m c := hs.rest 3 rfl
              have ec : ∀ v, a'.eval (.const v) = v := fun _ => rfl
              have ef : ∀ g, a'.eval (.func g) = .func (.func g) #[] #[] := fun _ => rfl
              clear hd hs
              refine wpv (v := .slice (some ⟨b, o, none⟩) m c) ?_ ⟨_, rfl, Grow.rfl' _, rfl⟩
              (generalize a'.eval = ev at ec ef e3 ⊢; simp [execOp, go_sem, *])
            · refine stepG_run hGg hBg hstab rfl ?_
              intro a' w' hg hs hd hb
              have e5 : a'.eval (.tmp 5) = .int .i64 (k : Int) := hs.rest 5 rfl
              have ec : ∀ v, a'.eval (.const v) = v := fun _ => rfl
              have ef : ∀ g, a'.eval (.func g) = .func (.func g) #[] #[] := fun _ => rfl
              clear hd hs
              refine wpv (v := .int .i64 (k : Int)) ?_ ⟨_, rfl, Grow.rfl' _, rfl⟩
              (generalize a'.eval = ev at ec ef e5 ⊢; simp [execOp, go_sem, *])
            · refine stepG_run hGg hBg hstab rfl ?_
              intro a' w' hg hs hd hb
              have e40 : a'.eval (.tmp 40) = .slice (some ⟨b, o, none⟩) m c := hd ⟨2, Ground.data⟩ (by simp) rfl rfl
              have e41 : a'.eval (.tmp 41) = .int .i64 (k : Int) := hd ⟨3, Ground.data⟩ (by simp) rfl rfl
              have ec : ∀ v, a'.eval (.const v) = v := fun _ => rfl
              have ef : ∀ g, a'.eval (.func g) = .func (.func g) #[] #[] := fun _ => rfl
              clear hd hs
              refine wpv (v := .pointer (some ⟨b, o + k * 2, none⟩)) ?_ ⟨_, rfl, Grow.rfl' _, rfl⟩
              (generalize a'.eval = ev at ec ef e40 e41 ⊢; simp [execOp, go_sem, *])
            · refine stepG_run hGg hBg hstab rfl ?_
              intro a' w' hg hs hd hb
              have e42 : a'.eval (.tmp 42) = .pointer (some ⟨b, o + k * 2, none⟩) := hd ⟨4, Ground.data⟩ (by simp) rfl rfl
              have ec : ∀ v, a'.eval (.const v) = v := fun _ => rfl
              have ef : ∀ g, a'.eval (.func g) = .func (.func g) #[] #[] := fun _ => rfl
              clear hd hs
              refine wpv (v := .pointer (some ⟨b, o + k * 2, none⟩)) ?_ ⟨_, rfl, Grow.rfl' _, rfl⟩
              (generalize a'.eval = ev at ec ef e42 ⊢; simp [execOp, go_sem, *])
            · refine stepG_run hGg hBg hstab rfl ?_
              intro a' w' hg hs hd hb
              have e43 : a'.eval (.tmp 43) = .pointer (some ⟨b, o + k * 2, none⟩) := hd ⟨5, Ground.data⟩ (by simp) rfl rfl
              have ec : ∀ v, a'.eval (.const v) = v := fun _ => rfl
              have ef : ∀ g, a'.eval (.func g) = .func (.func g) #[] #[] := fun _ => rfl
              have p0 := cell_later hg P0.out
              clear hd hs
              refine wpv (v := .int .i64 (ni : Int)) ?_ ⟨_, rfl, Grow.rfl' _, rfl⟩
              (generalize a'.eval = ev at ec ef e43 ⊢; simp [execOp, go_sem, *])
            · refine stepG_run hGg hBg hstab rfl ?_
              intro a' w' hg hs hd hb
              have e39 : a'.eval (.tmp 39) = .slice (some ⟨bN, oN, none⟩) gn gc := hd ⟨1, Ground.data⟩ (by simp) rfl rfl
              have e44 : a'.eval (.tmp 44) = .int .i64 (ni : Int) := hd ⟨6, Ground.data⟩ (by simp) rfl rfl
              have ec : ∀ v, a'.eval (.const v) = v := fun _ => rfl
              have ef : ∀ g, a'.eval (.func g) = .func (.func g) #[] #[] := fun _ => rfl
              clear hd hs
              refine wpv (v := .pointer (some ⟨bN, oN + ni * 4, none⟩)) ?_ ⟨_, rfl, Grow.rfl' _, rfl⟩
              (generalize a'.eval = ev at ec ef e39 e44 ⊢; simp [execOp, go_sem, *])
            · refine stepG_run hGg hBg hstab rfl ?_
              intro a' w' hg hs hd hb
              have e45 : a'.eval (.tmp 45) = .pointer (some ⟨bN, oN + ni * 4, none⟩) := hd ⟨7, Ground.data⟩ (by simp) rfl rfl
              have ec : ∀ v, a'.eval (.const v) = v := fun _ => rfl
              have ef : ∀ g, a'.eval (.func g) = .func (.func g) #[] #[] := fun _ => rfl
              have q0 := cell_later hg Q0.out; have q1 := cell_later hg Q1.out; have q2 := cell_later hg Q2.out; have q3 := cell_later hg Q3.out
              clear hd hs
              refine wpv (v := .agg #[.int .i64 yk, .int .i64 ya, .int .i64 yb, .int .i64 yd]) ?_ ⟨_, rfl, Grow.rfl' _, rfl⟩
              (generalize a'.eval = ev at ec ef e45 ⊢; simp [execOp, go_sem, *])
            · refine stepG_run hGg hBg hstab rfl ?_
              intro a' w' hg hs hd hb
              have ec : ∀ v, a'.eval (.const v) = v := fun _ => rfl
              have ef : ∀ g, a'.eval (.func g) = .func (.func g) #[] #[] := fun _ => rfl
              clear hd hs
              refine wpv (v := .pointer (some ⟨w'.heap.size, 0, none⟩)) (w' := w'.alloc (.cells #[.int .i64 0, .int .i64 0, .int .i64 0, .int .i64 0] 63)) ?_ ⟨_, rfl, Grow.alloc' _ _, ⟨w'.heap.size, rfl, BlkN.new w', (show Grow wk w' from hg).size⟩⟩
              (generalize a'.eval = ev at ec ef ⊢; simp [execOp, go_sem, *])
          · intro a' w' hg hs hd
            obtain ⟨nb6, e6, hk6, hb6⟩ : NewN wk.heap.size (a'.eval (.tmp 6)) w' := hd 9 (by omega) rfl
            have e46 : a'.eval (.tmp 46) = .agg #[.int .i64 yk, .int .i64 ya, .int .i64 yb, .int .i64 yd] := hd 8 (by omega) rfl
            have ec : ∀ v, a'.eval (.const v) = v := fun _ => rfl
            have ef : ∀ g, a'.eval (.func g) = .func (.func g) #[] #[] := fun _ => rfl
            refine wp_store_nd _ _ rfl (t := ⟨yk, ya, yb, yd⟩) e6 e46 hk6 wk hg hb6 ?_
            intro w4 hg4 hb4
            have z6 : a'.tmps.getD 6 undef = .pointer (some ⟨nb6, 0, none⟩) := e6
            have p1 := cell_later hg4 P1.out
            have p0 := cell_later hg4 P0.out
            have G4 := hide (Grow.trans' HG2.out hg4)
            have GA4 := hide (Grow.trans' GA.out hg4)
            have KN4 := hide hb4
            clear e6 e46 hk6 hb6 ec ef hg HGG HBG HG0 HB0 hGg hBg hstab hg4 hb4 Q0 Q1 Q2 Q3
            rw [frame_eq hs [false, false, false, false, false, false, true, false, false, false, false, false, false, false, false, false, false, false, false, false, false, false, false, false, false, false, false, false, false, false, false, false, false, false, false, false, false, false, true, true, true, true, true, true, true, true, true, false, false, false, false, false, false, false, false, false, false, false, false, false, false, false, false, false, false, false, false, false, false, false, false, false, false, false, false, false, false, false] (by kernel_rfl)]; simp only [mergeL, z6]; clear hs hd z6; generalize a'.tmps = TT at *; try go_frame
            obtain ⟨n0, n1, n2, n3⟩ := KN4.out
            dsimp only at n0 n1 n2 n3
            by_cases hp : xp = -1
            · subst hp
              have HY : Hid (∀ h : k < D.length, routeOk N E (D[k]'h) = true) := hide (fun h => by rw [HX.out]; exact route_out)
              go_wp2_with fail
              go_roundw
              case rel =>
                refine ⟨k + 1, by omega, by go_num, G4.out, fun q h hq => ?_⟩
                by_cases hqj : q < k
                · exact HA.out q h hqj
                · have : q = k := by omega
                  subst this
                  exact HY.out h
              case measure => simp [intOf]; omega
            · have hpx : (xp == -1) = false := by simpa using hp
              have HP := hide hp
              by_cases hk6 : yk = 6 ∨ yk = 7
              · have hpo := HPO.out
                rw [port_in HP.out] at hpo
                have hlen := of_decide_eq_true hpo
                obtain ⟨jj, hjj⟩ := List.length_eq_one_iff.1 hlen
                have hjE : ∃ e ∈ E, e.f = jj := by
                  have : jj ∈ prevP E ⟨(ni : Int), xp⟩ := by rw [hjj]; simp
                  obtain ⟨e, he, hej⟩ := List.mem_map.1 this
                  exact ⟨e, (List.mem_filter.1 he).1, hej⟩
                obtain ⟨e, he, hej⟩ := hjE
                have hin := HIN.out e he
                obtain ⟨nj, rfl⟩ : ∃ nj : Nat, jj = nj := ⟨jj.toNat, by omega⟩
                have hjN : nj < N.length := by omega
                obtain ⟨m0, m1, m2, m3⟩ := (HR2.out.later GA4.out).at nj hjN
                rw [← nth_get N nj hjN] at m0 m1 m2 m3
                have hro : ∀ hk : (nth N ((ni : Nat) : Int).toNat).k = 6 ∨ (nth N ((ni : Nat) : Int).toNat).k = 7, routeOk N E ⟨(ni : Int), xp⟩ = decide ((nth N nj).k = 5) := fun hk => by
                  have := route_in (N := N) (E := E) (l := ⟨(ni : Int), xp⟩) (j := (nj : Int)) HP.out hk hjj
                  rw [this]
                  rfl
                obtain ⟨jk, hjk⟩ : ∃ jk, jk = (nth N nj).k := ⟨_, rfl⟩
                rw [← hjk] at m0 hro
                have HRO := hide hro
                have M0 := hide m0
                have P1' := hide p1
                have P0' := hide p0
                have HJJ := hide hjj
                have hnn := hN.out
                have hj5 : (0 : Int) ≤ (nj : Int) := by omega
                have hj6 : (nj : Int) < (gn : Int) := by omega
                clear hpo hlen he hej hin hjN hjk hro m0 m1 m2 m3 hjj hnn
                rcases hk6 with rfl | rfl
                · go_wp2_with fail
                  clear n0 n1 n2 n3 p0 p1 hpx hp
                  let FF : Nat → Value → World → Prop := fun i vF wF => match i with | 0 => vF = .agg #[.slice (some ⟨bN, oN, none⟩) gn gc, .slice gt gm gq] | 1 => vF = .slice (some ⟨b, o, none⟩) m c | 2 => vF = .int .i64 (k : Int) | 3 => vF = .pointer (some ⟨b, o + k * 2, none⟩) | 4 => vF = .agg #[.int .i64 (ni : Int), .int .i64 xp] | 5 => IsRowI [(nj : Int)] vF wF | 6 => IsRowI [(nj : Int)] vF wF | _ => True
                  have hstab : ∀ k v w1 w2, Grow w1 w2 → FF k v w1 → FF k v w2 := by
                    intro k v w1 w2 hg h
                    match k with
                    | 0 => exact h
                    | 1 => exact h
                    | 2 => exact h
                    | 3 => exact h
                    | 4 => exact h
                    | 5 => exact IsRowI.later hg h
                    | 6 => exact IsRowI.later hg h
                    | k + 7 => exact trivial
                  refine wp_region_invK FF (fun _ => none) (by kernel_rfl) (by kernel_rfl) ?_ ?_
                  · refine ⟨?_, ?_, ?_, ?_, ?_, ?_, ?_, trivial⟩
                    · refine stepK_run hstab trivial (by intro j b h; cases h) ?_
                      intro a' w' hg hs hd
                      have e1 : a'.eval (.tmp 1) = .pointer (some ⟨P, 0, none⟩) := hs.rest 1 rfl
                      have ec : ∀ v, a'.eval (.const v) = v := fun _ => rfl
                      have ef : ∀ g, a'.eval (.func g) = .func (.func g) #[] #[] := fun _ => rfl
                      clear hd hs
                      obtain ⟨k0, k1⟩ := KG.out.later (Grow.trans' GA4.out hg); dsimp only at k0 k1
                      refine wpv (v := .agg #[.slice (some ⟨bN, oN, none⟩) gn gc, .slice gt gm gq]) ?_ ⟨_, rfl, Grow.rfl' _, rfl⟩
                      (generalize a'.eval = ev at ec ef e1 ⊢; simp [execOp, go_sem, *])
                    · refine stepK_run hstab trivial (by intro j b h; cases h) ?_
                      intro a' w' hg hs hd
                      have e3 : a'.eval (.tmp 3) = .slice (some ⟨b, o, none⟩) m c := hs.rest 3 rfl
                      have ec : ∀ v, a'.eval (.const v) = v := fun _ => rfl
                      have ef : ∀ g, a'.eval (.func g) = .func (.func g) #[] #[] := fun _ => rfl
                      clear hd hs
                      refine wpv (v := .slice (some ⟨b, o, none⟩) m c) ?_ ⟨_, rfl, Grow.rfl' _, rfl⟩
                      (generalize a'.eval = ev at ec ef e3 ⊢; simp [execOp, go_sem, *])
                    · refine stepK_run hstab trivial (by intro j b h; cases h) ?_
                      intro a' w' hg hs hd
                      have e5 : a'.eval (.tmp 5) = .int .i64 (k : Int) := hs.rest 5 rfl
                      have ec : ∀ v, a'.eval (.const v) = v := fun _ => rfl
                      have ef : ∀ g, a'.eval (.func g) = .func (.func g) #[] #[] := fun _ => rfl
                      clear hd hs
                      refine wpv (v := .int .i64 (k : Int)) ?_ ⟨_, rfl, Grow.rfl' _, rfl⟩
                      (generalize a'.eval = ev at ec ef e5 ⊢; simp [execOp, go_sem, *])
                    · refine stepK_run hstab trivial (by intro j b h; cases h) ?_
                      intro a' w' hg hs hd
                      have e64 : a'.eval (.tmp 64) = .slice (some ⟨b, o, none⟩) m c := hd ⟨1, Ground.data⟩ (by simp) rfl rfl
                      have e65 : a'.eval (.tmp 65) = .int .i64 (k : Int) := hd ⟨2, Ground.data⟩ (by simp) rfl rfl
                      have ec : ∀ v, a'.eval (.const v) = v := fun _ => rfl
                      have ef : ∀ g, a'.eval (.func g) = .func (.func g) #[] #[] := fun _ => rfl
                      clear hd hs
                      refine wpv (v := .pointer (some ⟨b, o + k * 2, none⟩)) ?_ ⟨_, rfl, Grow.rfl' _, rfl⟩
                      (generalize a'.eval = ev at ec ef e64 e65 ⊢; simp [execOp, go_sem, *])
                    · refine stepK_run hstab trivial (by intro j b h; cases h) ?_
                      intro a' w' hg hs hd
                      have e66 : a'.eval (.tmp 66) = .pointer (some ⟨b, o + k * 2, none⟩) := hd ⟨3, Ground.data⟩ (by simp) rfl rfl
                      have ec : ∀ v, a'.eval (.const v) = v := fun _ => rfl
                      have ef : ∀ g, a'.eval (.func g) = .func (.func g) #[] #[] := fun _ => rfl
                      clear hd hs
                      have p1 := cell_later hg P1'.out; have p0 := cell_later hg P0'.out
                      refine wpv (v := .agg #[.int .i64 (ni : Int), .int .i64 xp]) ?_ ⟨_, rfl, Grow.rfl' _, rfl⟩
                      (generalize a'.eval = ev at ec ef e66 ⊢; simp [execOp, go_sem, *])
                    · refine stepK_run hstab trivial (by intro j b h; cases h) ?_
                      intro a' w' hg hs hd
                      have e63 : a'.eval (.tmp 63) = .agg #[.slice (some ⟨bN, oN, none⟩) gn gc, .slice gt gm gq] := hd ⟨0, Ground.data⟩ (by simp) rfl rfl
                      have e67 : a'.eval (.tmp 67) = .agg #[.int .i64 (ni : Int), .int .i64 xp] := hd ⟨4, Ground.data⟩ (by simp) rfl rfl
                      have ec : ∀ v, a'.eval (.const v) = v := fun _ => rfl
                      have ef : ∀ g, a'.eval (.func g) = .func (.func g) #[] #[] := fun _ => rfl
                      clear hd hs
                      refine wpc ?_ (Calls.mono (rowI_of (args := [_, _]) (by rw [← HJJ.out]; exact rprev_raw (some ⟨bN, oN, none⟩) gn gc gt gm gq E (ni : Int) xp w' hm3 (HE.out.later (Grow.trans' GA4.out hg)))) fun e w2 ⟨v, he, hb, hv⟩ => ⟨v, he, _, rfl, hb, hv⟩)
                      (generalize a'.eval = ev at ec ef e63 e67 ⊢; simp [execOp, go_sem, *])
                    · refine stepK_run hstab trivial (by intro j b h; cases h) ?_
                      intro a' w' hg hs hd
                      have hq : IsRowI [(nj : Int)] (a'.eval (.tmp 68)) w' := hd ⟨5, Ground.data⟩ (by simp) rfl rfl
                      have ec : ∀ v, a'.eval (.const v) = v := fun _ => rfl
                      have ef : ∀ g, a'.eval (.func g) = .func (.func g) #[] #[] := fun _ => rfl
                      clear hd hs
                      refine wpv (v := a'.eval (.tmp 68)) ?_ ⟨_, rfl, Grow.rfl' _, hq⟩
                      simp [execOp, go_sem]
                  · intro a' w' hg hs hd
                    have G5 := hide (Grow.trans' G4.out hg)
                    have GA5 := hide (Grow.trans' GA4.out hg)
                    have m0 := cell_later hg M0.out
                    obtain ⟨k0, k1⟩ := KG.out.later GA5.out
                    dsimp only at k0 k1
                    obtain ⟨sl, nl, cl, e7, h7⟩ : IsRowI [(nj : Int)] (a'.tmps.getD 7 undef) w' := hd 6 (by simp) (by intro k h; cases h)
                    obtain ⟨bL, oL, rfl, hrL⟩ := h7.2.2.resolve_left (by simp)
                    have c0 := hrL.at 0 (by simp)
                    have hnl : nl = 1 := h7.1.symm
                    subst hnl
                    simp only [List.getElem_cons_zero, Nat.add_zero] at c0
                    clear G4 GA4 P0' P1' hg h7 hrL
                    have fz63 : a'.tmps.getD 63 undef = .agg #[.slice (some ⟨bN, oN, none⟩) gn gc, .slice gt gm gq] := hd 0 (by simp) (by intro k h; cases h); have fz64 : a'.tmps.getD 64 undef = .slice (some ⟨b, o, none⟩) m c := hd 1 (by simp) (by intro k h; cases h); have fz65 : a'.tmps.getD 65 undef = .int .i64 (k : Int) := hd 2 (by simp) (by intro k h; cases h); have fz66 : a'.tmps.getD 66 undef = .pointer (some ⟨b, o + k * 2, none⟩) := hd 3 (by simp) (by intro k h; cases h); have fz67 : a'.tmps.getD 67 undef = .agg #[.int .i64 (ni : Int), .int .i64 xp] := hd 4 (by simp) (by intro k h; cases h); rw [frame_eq hs [false, false, false, false, false, false, false, true, false, false, false, false, false, false, false, false, false, false, false, false, false, false, false, false, false, false, false, false, false, false, false, false, false, false, false, false, false, false, false, false, false, false, false, false, false, false, false, false, false, false, false, false, false, false, false, false, false, false, false, false, false, false, false, true, true, true, true, true, true, false, false, false, false, false, false, false, false, false] (by kernel_rfl)]; simp only [mergeL, e7, fz63, fz64, fz65, fz66, fz67]; clear hs hd hstab fz63 fz64 fz65 fz66 fz67; generalize a'.tmps = TT at *
                    clear e7
                    generalize w' = w5 at *
                    go_wp2_with fail
                    go_quiet (fail)
                    have G6 := hide (Grow.trans' G5.out (below_drewN (Below.refl _ _) nq))
                    clear c0 m0 k0 k1 G5 GA5
                    generalize w5.drewN nq = w6 at *
                    cases hq : (jk == 5)
                    · have HT : Hid (r = 15) := hide (by
                        rw [← HR.out]
                        unfold errPo
                        rw [← HDD.out, if_neg (fun h => h HALL.out), if_pos (not_all HKD.out (by rw [HX.out, HRO.out (by rw [HKI.out]; simp)]; exact hq))])
                      go_wp2_with fail
                      go_ret
                      exact ⟨ret_int HT.out.symm, Grow.trans' GRT.out (Grow.trans' GGi.out G6.out)⟩
                    · have HY : Hid (∀ h : k < D.length, routeOk N E (D[k]'h) = true) := hide (fun h => by rw [HX.out, HRO.out (by rw [HKI.out]; simp)]; exact hq)
                      go_wp2_with fail
                      go_roundw
                      case rel =>
                        refine ⟨k + 1, by omega, by go_num, G6.out, fun q h hq => ?_⟩
                        by_cases hqj : q < k
                        · exact HA.out q h hqj
                        · have : q = k := by omega
                          subst this
                          exact HY.out h
                      case measure => simp [intOf]; omega
                · go_wp2_with fail
                  clear n0 n1 n2 n3 p0 p1 hpx hp
                  let FF : Nat → Value → World → Prop := fun i vF wF => match i with | 0 => vF = .agg #[.slice (some ⟨bN, oN, none⟩) gn gc, .slice gt gm gq] | 1 => vF = .slice (some ⟨b, o, none⟩) m c | 2 => vF = .int .i64 (k : Int) | 3 => vF = .pointer (some ⟨b, o + k * 2, none⟩) | 4 => vF = .agg #[.int .i64 (ni : Int), .int .i64 xp] | 5 => IsRowI [(nj : Int)] vF wF | 6 => IsRowI [(nj : Int)] vF wF | _ => True
                  have hstab : ∀ k v w1 w2, Grow w1 w2 → FF k v w1 → FF k v w2 := by
                    intro k v w1 w2 hg h
                    match k with
                    | 0 => exact h
                    | 1 => exact h
                    | 2 => exact h
                    | 3 => exact h
                    | 4 => exact h
                    | 5 => exact IsRowI.later hg h
                    | 6 => exact IsRowI.later hg h
                    | k + 7 => exact trivial
                  refine wp_region_invK FF (fun _ => none) (by kernel_rfl) (by kernel_rfl) ?_ ?_
                  · refine ⟨?_, ?_, ?_, ?_, ?_, ?_, ?_, trivial⟩
                    · refine stepK_run hstab trivial (by intro j b h; cases h) ?_
                      intro a' w' hg hs hd
                      have e1 : a'.eval (.tmp 1) = .pointer (some ⟨P, 0, none⟩) := hs.rest 1 rfl
                      have ec : ∀ v, a'.eval (.const v) = v := fun _ => rfl
                      have ef : ∀ g, a'.eval (.func g) = .func (.func g) #[] #[] := fun _ => rfl
                      clear hd hs
                      obtain ⟨k0, k1⟩ := KG.out.later (Grow.trans' GA4.out hg); dsimp only at k0 k1
                      refine wpv (v := .agg #[.slice (some ⟨bN, oN, none⟩) gn gc, .slice gt gm gq]) ?_ ⟨_, rfl, Grow.rfl' _, rfl⟩
                      (generalize a'.eval = ev at ec ef e1 ⊢; simp [execOp, go_sem, *])
                    · refine stepK_run hstab trivial (by intro j b h; cases h) ?_
                      intro a' w' hg hs hd
                      have e3 : a'.eval (.tmp 3) = .slice (some ⟨b, o, none⟩) m c := hs.rest 3 rfl
                      have ec : ∀ v, a'.eval (.const v) = v := fun _ => rfl
                      have ef : ∀ g, a'.eval (.func g) = .func (.func g) #[] #[] := fun _ => rfl
                      clear hd hs
                      refine wpv (v := .slice (some ⟨b, o, none⟩) m c) ?_ ⟨_, rfl, Grow.rfl' _, rfl⟩
                      (generalize a'.eval = ev at ec ef e3 ⊢; simp [execOp, go_sem, *])
                    · refine stepK_run hstab trivial (by intro j b h; cases h) ?_
                      intro a' w' hg hs hd
                      have e5 : a'.eval (.tmp 5) = .int .i64 (k : Int) := hs.rest 5 rfl
                      have ec : ∀ v, a'.eval (.const v) = v := fun _ => rfl
                      have ef : ∀ g, a'.eval (.func g) = .func (.func g) #[] #[] := fun _ => rfl
                      clear hd hs
                      refine wpv (v := .int .i64 (k : Int)) ?_ ⟨_, rfl, Grow.rfl' _, rfl⟩
                      (generalize a'.eval = ev at ec ef e5 ⊢; simp [execOp, go_sem, *])
                    · refine stepK_run hstab trivial (by intro j b h; cases h) ?_
                      intro a' w' hg hs hd
                      have e64 : a'.eval (.tmp 64) = .slice (some ⟨b, o, none⟩) m c := hd ⟨1, Ground.data⟩ (by simp) rfl rfl
                      have e65 : a'.eval (.tmp 65) = .int .i64 (k : Int) := hd ⟨2, Ground.data⟩ (by simp) rfl rfl
                      have ec : ∀ v, a'.eval (.const v) = v := fun _ => rfl
                      have ef : ∀ g, a'.eval (.func g) = .func (.func g) #[] #[] := fun _ => rfl
                      clear hd hs
                      refine wpv (v := .pointer (some ⟨b, o + k * 2, none⟩)) ?_ ⟨_, rfl, Grow.rfl' _, rfl⟩
                      (generalize a'.eval = ev at ec ef e64 e65 ⊢; simp [execOp, go_sem, *])
                    · refine stepK_run hstab trivial (by intro j b h; cases h) ?_
                      intro a' w' hg hs hd
                      have e66 : a'.eval (.tmp 66) = .pointer (some ⟨b, o + k * 2, none⟩) := hd ⟨3, Ground.data⟩ (by simp) rfl rfl
                      have ec : ∀ v, a'.eval (.const v) = v := fun _ => rfl
                      have ef : ∀ g, a'.eval (.func g) = .func (.func g) #[] #[] := fun _ => rfl
                      clear hd hs
                      have p1 := cell_later hg P1'.out; have p0 := cell_later hg P0'.out
                      refine wpv (v := .agg #[.int .i64 (ni : Int), .int .i64 xp]) ?_ ⟨_, rfl, Grow.rfl' _, rfl⟩
                      (generalize a'.eval = ev at ec ef e66 ⊢; simp [execOp, go_sem, *])
                    · refine stepK_run hstab trivial (by intro j b h; cases h) ?_
                      intro a' w' hg hs hd
                      have e63 : a'.eval (.tmp 63) = .agg #[.slice (some ⟨bN, oN, none⟩) gn gc, .slice gt gm gq] := hd ⟨0, Ground.data⟩ (by simp) rfl rfl
                      have e67 : a'.eval (.tmp 67) = .agg #[.int .i64 (ni : Int), .int .i64 xp] := hd ⟨4, Ground.data⟩ (by simp) rfl rfl
                      have ec : ∀ v, a'.eval (.const v) = v := fun _ => rfl
                      have ef : ∀ g, a'.eval (.func g) = .func (.func g) #[] #[] := fun _ => rfl
                      clear hd hs
                      refine wpc ?_ (Calls.mono (rowI_of (args := [_, _]) (by rw [← HJJ.out]; exact rprev_raw (some ⟨bN, oN, none⟩) gn gc gt gm gq E (ni : Int) xp w' hm3 (HE.out.later (Grow.trans' GA4.out hg)))) fun e w2 ⟨v, he, hb, hv⟩ => ⟨v, he, _, rfl, hb, hv⟩)
                      (generalize a'.eval = ev at ec ef e63 e67 ⊢; simp [execOp, go_sem, *])
                    · refine stepK_run hstab trivial (by intro j b h; cases h) ?_
                      intro a' w' hg hs hd
                      have hq : IsRowI [(nj : Int)] (a'.eval (.tmp 68)) w' := hd ⟨5, Ground.data⟩ (by simp) rfl rfl
                      have ec : ∀ v, a'.eval (.const v) = v := fun _ => rfl
                      have ef : ∀ g, a'.eval (.func g) = .func (.func g) #[] #[] := fun _ => rfl
                      clear hd hs
                      refine wpv (v := a'.eval (.tmp 68)) ?_ ⟨_, rfl, Grow.rfl' _, hq⟩
                      simp [execOp, go_sem]
                  · intro a' w' hg hs hd
                    have G5 := hide (Grow.trans' G4.out hg)
                    have GA5 := hide (Grow.trans' GA4.out hg)
                    have m0 := cell_later hg M0.out
                    obtain ⟨k0, k1⟩ := KG.out.later GA5.out
                    dsimp only at k0 k1
                    obtain ⟨sl, nl, cl, e7, h7⟩ : IsRowI [(nj : Int)] (a'.tmps.getD 7 undef) w' := hd 6 (by simp) (by intro k h; cases h)
                    obtain ⟨bL, oL, rfl, hrL⟩ := h7.2.2.resolve_left (by simp)
                    have c0 := hrL.at 0 (by simp)
                    have hnl : nl = 1 := h7.1.symm
                    subst hnl
                    simp only [List.getElem_cons_zero, Nat.add_zero] at c0
                    clear G4 GA4 P0' P1' hg h7 hrL
                    have fz63 : a'.tmps.getD 63 undef = .agg #[.slice (some ⟨bN, oN, none⟩) gn gc, .slice gt gm gq] := hd 0 (by simp) (by intro k h; cases h); have fz64 : a'.tmps.getD 64 undef = .slice (some ⟨b, o, none⟩) m c := hd 1 (by simp) (by intro k h; cases h); have fz65 : a'.tmps.getD 65 undef = .int .i64 (k : Int) := hd 2 (by simp) (by intro k h; cases h); have fz66 : a'.tmps.getD 66 undef = .pointer (some ⟨b, o + k * 2, none⟩) := hd 3 (by simp) (by intro k h; cases h); have fz67 : a'.tmps.getD 67 undef = .agg #[.int .i64 (ni : Int), .int .i64 xp] := hd 4 (by simp) (by intro k h; cases h); rw [frame_eq hs [false, false, false, false, false, false, false, true, false, false, false, false, false, false, false, false, false, false, false, false, false, false, false, false, false, false, false, false, false, false, false, false, false, false, false, false, false, false, false, false, false, false, false, false, false, false, false, false, false, false, false, false, false, false, false, false, false, false, false, false, false, false, false, true, true, true, true, true, true, false, false, false, false, false, false, false, false, false] (by kernel_rfl)]; simp only [mergeL, e7, fz63, fz64, fz65, fz66, fz67]; clear hs hd hstab fz63 fz64 fz65 fz66 fz67; generalize a'.tmps = TT at *
                    clear e7
                    generalize w' = w5 at *
                    go_wp2_with fail
                    go_quiet (fail)
                    have G6 := hide (Grow.trans' G5.out (below_drewN (Below.refl _ _) nq))
                    clear c0 m0 k0 k1 G5 GA5
                    generalize w5.drewN nq = w6 at *
                    cases hq : (jk == 5)
                    · have HT : Hid (r = 15) := hide (by
                        rw [← HR.out]
                        unfold errPo
                        rw [← HDD.out, if_neg (fun h => h HALL.out), if_pos (not_all HKD.out (by rw [HX.out, HRO.out (by rw [HKI.out]; simp)]; exact hq))])
                      go_wp2_with fail
                      go_ret
                      exact ⟨ret_int HT.out.symm, Grow.trans' GRT.out (Grow.trans' GGi.out G6.out)⟩
                    · have HY : Hid (∀ h : k < D.length, routeOk N E (D[k]'h) = true) := hide (fun h => by rw [HX.out, HRO.out (by rw [HKI.out]; simp)]; exact hq)
                      go_wp2_with fail
                      go_roundw
                      case rel =>
                        refine ⟨k + 1, by omega, by go_num, G6.out, fun q h hq => ?_⟩
                        by_cases hqj : q < k
                        · exact HA.out q h hqj
                        · have : q = k := by omega
                          subst this
                          exact HY.out h
                      case measure => simp [intOf]; omega
              · have HY : Hid (∀ h : k < D.length, routeOk N E (D[k]'h) = true) := hide (fun h => by
                  rw [HX.out]
                  exact route_no (by rw [HKI.out]; omega) (by rw [HKI.out]; omega))
                have hk6' : ¬ yk = 6 := by omega
                have hk7' : ¬ yk = 7 := by omega
                have hb6 : (yk != 6) = true := by simpa using hk6'
                have hb7 : (yk != 7) = true := by simpa using hk7'
                clear hk6
                go_wp2_with fail
                go_roundw
                case rel =>
                  refine ⟨k + 1, by omega, by go_num, G4.out, fun q h hq => ?_⟩
                  by_cases hqj : q < k
                  · exact HA.out q h hqj
                  · have : q = k := by omega
                    subst this
                    exact HY.out h
                case measure => simp [intOf]; omega
        · have hj3 : ¬ (k : Int) < (m : Int) := by omega
          have HT : Hid (r = 0) := hide (by
            rw [← HR.out]
            unfold errPo
            rw [← HDD.out, if_neg (fun h => h HALL.out), if_neg (fun h => h (all_upto fun q hq => HA.out q hq (by rw [HDi.out.1] at hq; omega)))])
          clear hg
          go_wp2_with fail
          go_ret
          exact ⟨ret_int HT.out.symm, Grow.trans' GRT.out (Grow.trans' GGi.out HG2.out)⟩

end Go.Proofs.YtehianjfpmbfpaaGreat
