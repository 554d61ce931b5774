/-
  What the document's own Minus does to the world: of every two rows what is left of the first, in order, in a new row; what was there stays as it was.
-/
import Derived.Test.YtkmgbhehhdjmlaaGPut
import Derived.Test.YtkmgbhehhdjmlaaEndG
namespace Go.Proofs.Ytkmgbhehhdjmlaa
set_option maxRecDepth 100000
open Go.RowKit Go.Sort
attribute [local go_sem ↓] eqRc
set_option linter.unusedVariables false
set_option linter.unusedSimpArgs false

theorem erase_at : ∀ (L : List Rc) (y : Rc) (k : Nat) (hk : k < L.length), L[k] = y → (∀ j (hj : j < L.length), j < k → L[j] ≠ y) → L.erase y = L.take k ++ L.drop (k + 1)
  | [], _, _, hk, _, _ => by simp at hk
  | x :: L, y, 0, _, h, _ => by simp at h; subst h; simp
  | x :: L, y, k + 1, hk, h, hn => by
    have hx : x ≠ y := hn 0 (by simp) (by omega)
    rw [List.erase_cons_tail (by simpa using hx)]
    rw [erase_at L y k (by simpa using hk) (by simpa using h) (fun j hj hjk => by have := hn (j + 1) (by simpa using hj) (by omega); simpa using this)]
    simp
theorem erase_none (L : List Rc) (y : Rc) (h : ∀ j (hj : j < L.length), L[j] ≠ y) : L.erase y = L :=
  List.erase_of_not_mem fun hm => by
    obtain ⟨j, hj, e⟩ := List.mem_iff_getElem.1 hm
    exact h j hj e
def ers (L e : List Rc) (i : Nat) : List Rc := (e.take i).foldl (fun l x => l.erase x) L
theorem ers_succ (L e : List Rc) (i : Nat) (h : i < e.length) : ers L e (i + 1) = (ers L e i).erase e[i] := by
  unfold ers
  rw [← List.take_append_getElem h, List.foldl_append]
  rfl
theorem ers_len (L e : List Rc) (i : Nat) : (ers L e i).length ≤ L.length := (mns_sub' (e.take i) L).length_le

def AppN (base n : Nat) (d : List Rc) (v : Value) (w : World) : Prop := ∃ s2 c2, v = .slice s2 n c2 ∧ OwnRV w base s2 n c2 d ∧ True
theorem AppN.later {base n : Nat} {d : List Rc} {v : Value} {w w' : World} (hg : Grow w w') : AppN base n d v w → AppN base n d v w' := fun ⟨s2, c2, e, h, l⟩ => ⟨s2, c2, e, h.later hg, l⟩
theorem run_apN {ws w : World} (hg : Grow ws w) (rt : TypeId) (s : Option Addr) (n cap : Nat) (d e : List Rc) (hown : OwnRV w ws.heap.size s n cap d) (s' : Option Addr) (m c : Nat) (he : IsRcs w s' m c e) (hlen : n + m ≤ 1000000) :
    ∃ s2 c2 w2, (Builtin.append_ #[22, 22] rt #[.slice s n cap, .slice s' m c]).run Try.prog w = .ok (.slice s2 (n + m) c2) w2
      ∧ OwnRV w2 ws.heap.size s2 (n + m) c2 (d ++ e) ∧ Grow ws w2 ∧ True := by
  obtain ⟨s2, c2, w2, h1, h2, h3⟩ := run_apv_rc w rt ws.heap.size s n cap d e hown s' m c he hlen hg.size
  exact ⟨s2, c2, w2, h1, h2, h3.grow hg (Nat.le_refl _), trivial⟩
set_option maxHeartbeats 4000000 in
theorem refMinus_at (s s' : Option Addr) (n m cap cap' : Nat) (d e : List Rc) (w : World) (hbig : n ≤ 9000) (hbig' : m ≤ 9000) (hd : IsRcs w s n cap d) (he : IsRcs w s' m cap' e) :
    Calls Try.prog 20 #[.slice s n cap, .slice s' m cap'] w fun r w' => ∃ s2 n2 c2, r = .returned (.slice s2 n2 c2) ∧ Grow w w' ∧ IsRcs w' s2 n2 c2 (mns d e) := by
  have HE := hide he
  have C1 := hide (refSort_is s n cap d w hbig hd)
  have HN := hide hd.1
  clear hd he
  go_enter Try.func20, Try.ntmps20
  go_wp2_with fail
  refine (C1.out).mono ?_
  rintro r1 w1 ⟨s1, c1, rfl, hb, hI⟩
  have G1 := hide hb
  have E1 := hide (HE.out.later hb)
  obtain ⟨S, hS⟩ : ∃ S, S = srt d := ⟨_, rfl⟩
  rw [← hS] at hI
  have HS := hide hS
  have I1 := hide hI
  have hSn : S.length = n := hI.1
  clear hb hI C1 HE hS
  go_wp2_with fail
  go_loopw [5, 6] (fun v i wr => ∃ (k : Nat) (sl : Option Addr) (ml cl : Nat), k ≤ m ∧ v = .slice sl ml cl ∧ i = .int .i64 k ∧ Grow w1 wr ∧ IsRcs wr sl ml cl (ers S e k)) (fun _ i _ => m - (intOf i).toNat)
  case atStart => exact ⟨0, s1, n, c1, Nat.zero_le _, rfl, rfl, Grow.rfl' _, I1.out⟩
  case round =>
    obtain ⟨i, sl, ml, cl, hi, rfl, rfl, hg, hL⟩ := hrel
    have HG := hide hg
    have hml : ml ≤ n := by rw [← hL.1, ← hSn]; exact ers_len S e i
    have hmc : ml ≤ cl := hL.2.1
    by_cases hlt : i < m
    · have hie : i < e.length := by rw [E1.out.1]; exact hlt
      have hne : ¬ e = [] := fun h => by rw [h] at hie; simp at hie
      obtain ⟨b, o, rfl, hr1⟩ := E1.out.2.2.resolve_left hne
      have HRE := hide (hr1.later hg)
      obtain ⟨y, hy⟩ : ∃ y, y = e[i] := ⟨_, rfl⟩
      have HY := hide hy
      have HSU := hide (ers_succ S e i hie)
      rw [← hy] at HSU
      obtain ⟨L, hLL⟩ : ∃ L, L = ers S e i := ⟨_, rfl⟩
      rw [← hLL] at hL HSU
      have HL := hide hL
      have hii : (0 : Int) ≤ (i : Int) := by omega
      have hii2 : (i : Int) < (m : Int) := by omega
      clear hne hr1 hy hg hL hLL
      rename World => wo
      go_wp2_with fail
      go_loopw [5, 7] (fun v j wq => ∃ k : Nat, k ≤ ml ∧ v = .slice sl ml cl ∧ j = .int .i64 k ∧ Grow wo wq ∧ ∀ q (hq : q < L.length), q < k → L[q] ≠ y) (fun _ j _ => ml - (intOf j).toNat)
      case atStart => exact ⟨0, Nat.zero_le _, rfl, rfl, Grow.rfl' _, fun q hq h => by omega⟩
      case round =>
        obtain ⟨k, hk, rfl, rfl, hq, hall⟩ := hrel
        have HQ := hide hq
        have HA := hide hall
        clear hall
        by_cases hlk : k < ml
        · have hkL : k < L.length := by rw [HL.out.1]; exact hlk
          have hnL : ¬ L = [] := fun h => by rw [h] at hkL; simp at hkL
          obtain ⟨bl, ol, rfl, hrl⟩ := HL.out.2.2.resolve_left hnL
          obtain ⟨p0, p1⟩ := (hrl.later hq).at k hkL
          obtain ⟨x, hx⟩ : ∃ x, x = L[k] := ⟨_, rfl⟩
          rw [← hx] at p0 p1
          obtain ⟨q0, q1⟩ := (HRE.out.later hq).at i hie
          rw [← HY.out] at q0 q1
          have HX := hide hx
          have hk1 : (0 : Int) ≤ (k : Int) := by omega
          have hk2 : (k : Int) < (ml : Int) := by omega
          clear hnL hrl hx hq
          cases es : eqR x y
          · have hxy : x ≠ y := fun h => by rw [(eqR_iff x y).2 h] at es; cases es
            have HXY := hide hxy
            clear hxy
            go_wp2
            go_quiet (fail)
            have HQ2 := hide (Grow.trans' HQ.out (below_drewN (Below.refl _ _) nq))
            clear p0 p1 q0 q1 HQ
            generalize wr.drewN nq = wz at *
            go_wp2
            go_roundw
            case rel =>
              refine ⟨k + 1, by omega, rfl, by go_num, HQ2.out, fun q hq h => ?_⟩
              by_cases e : q < k
              · exact HA.out q hq e
              · have : q = k := by omega
                subst this
                rw [← HX.out]; exact HXY.out
            case measure => simp [intOf]; omega
          · have hxy := (eqR_iff x y).1 es
            have HER := hide (erase_at L y k hkL (by rw [← HX.out]; exact hxy) HA.out)
            clear hxy
            go_wp2
            go_quiet (fail)
            have HQ2 := hide (Grow.trans' HQ.out (below_drewN (Below.refl _ _) nq))
            clear p0 p1 q0 q1 HQ
            generalize wr.drewN nq = wz at *
            have HLZ := hide (HL.out.later HQ2.out)
            have hkl : ((k + 1 : Nat) : Int) ≤ (ml : Int) := by omega
            have hkc : ((k : Nat) : Int) ≤ (cl : Int) := by omega
            go_wp2_with fail
            have HGG : ∀ w1 w2, Grow wz w1 → Grow w1 w2 → Grow wz w2 := fun _ _ h q => Grow.trans' h q
            have HBG : ∀ w1 w2, Grow w1 w2 → True → True := fun _ _ _ h => h
            have HG0 : ∀ w', Grow wz w' → w'.heap = wz.heap → Grow wz w' := fun _ h _ => h
            have HB0 : ∀ w', Grow wz w' → w'.heap = wz.heap → True := fun _ _ _ => trivial
            let FF : Nat → Value → World → Prop := fun i vF wF => match i with | 0 => LitR wz.heap.size vF wF | 1 => vF = .slice (some ⟨bl, ol, none⟩) ml cl | 2 => vF = .int .i64 (k : Int) | 3 => vF = .slice (some ⟨bl, ol, none⟩) k cl | 4 => AppN wz.heap.size k (L.take k) vF wF | 5 => vF = .slice (some ⟨bl, ol, none⟩) ml cl | 6 => vF = .int .i64 (k : Int) | 7 => vF = .int .i64 ((k + 1 : Nat) : Int) | 8 => vF = .slice (fromA (some ⟨bl, ol, none⟩) cl (k + 1) 2) (ml - (k + 1)) (cl - (k + 1)) | 9 => AppN wz.heap.size (k + (ml - (k + 1))) (L.take k ++ L.drop (k + 1)) vF wF | _ => True
            let GG : World → Prop := fun w' => Grow wz w'
            let BB : World → Prop := fun w' => True
            have hstab : ∀ k v w1 w2, Grow w1 w2 → FF k v w1 → FF k v w2 := by
              intro k v w1 w2 hg h
              match k with
              | 0 => exact LitR.later hg h
              | 1 => exact h
              | 2 => exact h
              | 3 => exact h
              | 4 => exact AppN.later hg h
              | 5 => exact h
              | 6 => exact h
              | 7 => exact h
              | 8 => exact h
              | 9 => exact AppN.later hg h
              | k + 10 => exact trivial
            have hGg : ∀ w1 w2, GG w1 → Grow w1 w2 → GG w2 := HGG
            have hBg : ∀ w1 w2, Grow w1 w2 → BB w1 → BB w2 := HBG
            refine wp_region_endG FF GG BB (fun i => match i with | 0 => some 4 | 4 => some 9 | _ => none) 999 10 _ rfl rfl rfl (by kernel_rfl) (by kernel_rfl) HG0 HB0 ?_ ?_
            · refine ⟨?_, ?_, ?_, ?_, ?_, ?_, ?_, ?_, ?_, ?_, trivial⟩
              · refine stepG_run hGg hBg hstab rfl ?_
                intro a' w' hg hs hd hb
                have ec : ∀ v, a'.eval (.const v) = v := fun _ => rfl
                have ef : ∀ g, a'.eval (.func g) = .func (.func g) #[] #[] := fun _ => rfl
                clear hd hs
                refine wpv (v := .slice (some ⟨w'.heap.size, 0, none⟩) 0 0) (w' := w'.alloc (.cells #[] 24)) ?_ ⟨_, rfl, Grow.alloc' _ _, litR_new _ wz.heap.size hg.size⟩
                (generalize a'.eval = ev at ec ef ⊢; simp [execOp, go_sem, *])
              · refine stepG_run hGg hBg hstab rfl ?_
                intro a' w' hg hs hd hb
                have e5 : a'.eval (.tmp 5) = .slice (some ⟨bl, ol, none⟩) ml cl := hs.rest 5 rfl
                have ec : ∀ v, a'.eval (.const v) = v := fun _ => rfl
                have ef : ∀ g, a'.eval (.func g) = .func (.func g) #[] #[] := fun _ => rfl
                clear hd hs
                refine wpv (v := .slice (some ⟨bl, ol, none⟩) ml cl) ?_ ⟨_, rfl, Grow.rfl' _, rfl⟩
                (generalize a'.eval = ev at ec ef e5 ⊢; simp [execOp, go_sem, *])
              · refine stepG_run hGg hBg hstab rfl ?_
                intro a' w' hg hs hd hb
                have e7 : a'.eval (.tmp 7) = .int .i64 (k : Int) := hs.rest 7 rfl
                have ec : ∀ v, a'.eval (.const v) = v := fun _ => rfl
                have ef : ∀ g, a'.eval (.func g) = .func (.func g) #[] #[] := fun _ => rfl
                clear hd hs
                refine wpv (v := .int .i64 (k : Int)) ?_ ⟨_, rfl, Grow.rfl' _, rfl⟩
                (generalize a'.eval = ev at ec ef e7 ⊢; simp [execOp, go_sem, *])
              · refine stepG_run hGg hBg hstab rfl ?_
                intro a' w' hg hs hd hb
                have e32 : a'.eval (.tmp 32) = .slice (some ⟨bl, ol, none⟩) ml cl := hd ⟨1, Ground.data⟩ (by simp) rfl rfl
                have e33 : a'.eval (.tmp 33) = .int .i64 (k : Int) := hd ⟨2, Ground.data⟩ (by simp) rfl rfl
                have ec : ∀ v, a'.eval (.const v) = v := fun _ => rfl
                have ef : ∀ g, a'.eval (.func g) = .func (.func g) #[] #[] := fun _ => rfl
                have hh := run_headR (some ⟨bl, ol, none⟩) ml cl k w' hkc
                clear hd hs
                refine wpv (v := .slice (some ⟨bl, ol, none⟩) k cl) ?_ ⟨_, rfl, Grow.rfl' _, rfl⟩
                (generalize a'.eval = ev at ec ef e32 e33 ⊢; simp [execOp, go_sem, *])
              · refine stepG_run hGg hBg hstab rfl ?_
                intro a' w' hg hs hd hb
                obtain ⟨g31, e31, h31⟩ : LitR wz.heap.size (a'.eval (.tmp 31)) w' := hd ⟨0, Ground.data⟩ (by simp) rfl rfl
                have e34 : a'.eval (.tmp 34) = .slice (some ⟨bl, ol, none⟩) k cl := hd ⟨3, Ground.data⟩ (by simp) rfl rfl
                have ec : ∀ v, a'.eval (.const v) = v := fun _ => rfl
                have ef : ∀ g, a'.eval (.func g) = .func (.func g) #[] #[] := fun _ => rfl
                clear hd hs
                obtain ⟨s2, c2, w2, hrun, hown, hgb⟩ := run_ap0_rc w' 22 wz.heap.size g31 (L.take k) h31 (some ⟨bl, ol, none⟩) k cl ((HLZ.out.later hg).take' k (by omega)) (by omega) hg.size
                refine wpv (v := .slice s2 _ c2) (w' := w2) ?_ ⟨_, rfl, hgb, ⟨s2, c2, rfl, hown, trivial⟩⟩
                unfold execOp; simp only [resolve, invoke, builtin, Sem.run_bind, Sem.run_pure, Result.andThen_ok, List.map_toArray, List.map_cons, List.map_nil, e31, e34, hrun]
              · refine stepG_run hGg hBg hstab rfl ?_
                intro a' w' hg hs hd hb
                have e5 : a'.eval (.tmp 5) = .slice (some ⟨bl, ol, none⟩) ml cl := hs.rest 5 rfl
                have ec : ∀ v, a'.eval (.const v) = v := fun _ => rfl
                have ef : ∀ g, a'.eval (.func g) = .func (.func g) #[] #[] := fun _ => rfl
                clear hd hs
                refine wpv (v := .slice (some ⟨bl, ol, none⟩) ml cl) ?_ ⟨_, rfl, Grow.rfl' _, rfl⟩
                (generalize a'.eval = ev at ec ef e5 ⊢; simp [execOp, go_sem, *])
              · refine stepG_run hGg hBg hstab rfl ?_
                intro a' w' hg hs hd hb
                have e7 : a'.eval (.tmp 7) = .int .i64 (k : Int) := hs.rest 7 rfl
                have ec : ∀ v, a'.eval (.const v) = v := fun _ => rfl
                have ef : ∀ g, a'.eval (.func g) = .func (.func g) #[] #[] := fun _ => rfl
                clear hd hs
                refine wpv (v := .int .i64 (k : Int)) ?_ ⟨_, rfl, Grow.rfl' _, rfl⟩
                (generalize a'.eval = ev at ec ef e7 ⊢; simp [execOp, go_sem, *])
              · refine stepG_run hGg hBg hstab rfl ?_
                intro a' w' hg hs hd hb
                have e37 : a'.eval (.tmp 37) = .int .i64 (k : Int) := hd ⟨6, Ground.data⟩ (by simp) rfl rfl
                have ec : ∀ v, a'.eval (.const v) = v := fun _ => rfl
                have ef : ∀ g, a'.eval (.func g) = .func (.func g) #[] #[] := fun _ => rfl
                have hwr : IntKind.i64.wrap ((k : Int) + 1) = ((k + 1 : Nat) : Int) := by rw [IntWalk.i64_in _ ⟨by omega, by omega⟩]; omega
                clear hd hs
                refine wpv (v := .int .i64 ((k + 1 : Nat) : Int)) ?_ ⟨_, rfl, Grow.rfl' _, rfl⟩
                (generalize a'.eval = ev at ec ef e37 ⊢; simp [execOp, go_sem, *])
              · refine stepG_run hGg hBg hstab rfl ?_
                intro a' w' hg hs hd hb
                have e36 : a'.eval (.tmp 36) = .slice (some ⟨bl, ol, none⟩) ml cl := hd ⟨5, Ground.data⟩ (by simp) rfl rfl
                have e38 : a'.eval (.tmp 38) = .int .i64 ((k + 1 : Nat) : Int) := hd ⟨7, Ground.data⟩ (by simp) rfl rfl
                have ec : ∀ v, a'.eval (.const v) = v := fun _ => rfl
                have ef : ∀ g, a'.eval (.func g) = .func (.func g) #[] #[] := fun _ => rfl
                have hka : (0 : Int) ≤ (k : Int) + 1 := (by omega); have hkb : (k : Int) + 1 ≤ (ml : Int) := (by omega); have hfa : fromA (some ⟨bl, ol, none⟩) cl (k + 1) 2 = if cl = k + 1 then some ⟨bl, ol, none⟩ else some ⟨bl, ol + (k + 1) * 2, none⟩ := (by unfold fromA; simp [addr_add])
                clear hd hs
                refine wpv (v := .slice (fromA (some ⟨bl, ol, none⟩) cl (k + 1) 2) (ml - (k + 1)) (cl - (k + 1))) ?_ ⟨_, rfl, Grow.rfl' _, rfl⟩
                (generalize a'.eval = ev at ec ef e36 e38 ⊢; simp [execOp, go_sem, *])
              · refine stepG_take rfl ?_
                intro a' w' hg hs hd hb
                obtain ⟨sc35, cc35, e35, h35, t35⟩ : AppN wz.heap.size k (L.take k) (a'.eval (.tmp 35)) w' := hd ⟨4, Ground.data⟩ (by simp) rfl rfl
                have e39 : a'.eval (.tmp 39) = .slice (fromA (some ⟨bl, ol, none⟩) cl (k + 1) 2) (ml - (k + 1)) (cl - (k + 1)) := hd ⟨8, Ground.data⟩ (by simp) rfl rfl
                have ec : ∀ v, a'.eval (.const v) = v := fun _ => rfl
                have ef : ∀ g, a'.eval (.func g) = .func (.func g) #[] #[] := fun _ => rfl
                clear hd hs
                obtain ⟨s2, c2, w2, hrun, hown, hgr, hlie⟩ := run_apN hg 22 sc35 k cc35 (L.take k) (L.drop (k + 1)) h35 (fromA (some ⟨bl, ol, none⟩) cl (k + 1) 2) (ml - (k + 1)) (cl - (k + 1)) ((HLZ.out.later hg).from' (k + 1) (by omega)) (by omega)
                refine wpv (v := .slice s2 _ c2) (w' := w2) ?_ ⟨_, rfl, hgr, ⟨s2, c2, rfl, hown, hlie⟩, ?_, fun _ _ => trivial⟩
                rotate_left
                · intro j u hj h
                  match j with
                  | 0 => cases hj
                  | 1 => exact h
                  | 2 => exact h
                  | 3 => exact h
                  | 4 => cases hj
                  | 5 => exact h
                  | 6 => exact h
                  | 7 => exact h
                  | 8 => exact h
                  | 9 => cases hj
                  | j + 10 => exact trivial
                · unfold execOp; simp only [resolve, invoke, builtin, Sem.run_bind, Sem.run_pure, Result.andThen_ok, List.map_toArray, List.map_cons, List.map_nil, e35, e39, hrun]
            · intro a' w' hg hs hd
              obtain ⟨sa40, ca40, e40, h40, t40⟩ : AppN wz.heap.size (k + (ml - (k + 1))) (L.take k ++ L.drop (k + 1)) (a'.eval (.tmp 40)) w' := hd 9 (by omega) rfl
              have ec : ∀ v, a'.eval (.const v) = v := fun _ => rfl
              have ef : ∀ g, a'.eval (.func g) = .func (.func g) #[] #[] := fun _ => rfl
              have HF := hide h40.is
              rw [← HER.out, ← HSU.out] at HF
              have HG3 := hide (Grow.trans' HQ2.out hg)
              refine wpv (v := .slice sa40 (k + (ml - (k + 1))) ca40) (w' := w') ?_ ?_
              · (generalize a'.eval = ev at ec ef e40 ⊢; simp [execOp, go_sem, *])
              clear h40 t40 e40 ec ef hg HGG HBG HG0 HB0 hGg hBg hstab
              rw [frame_eq hs [false, false, false, false, false, true, false, false, false, false, false, false, false, false, false, false, false, false, false, false, false, false, false, false, false, false, false, false, false, false, false, true, true, true, true, true, true, true, true, true, true, false] (by kernel_rfl)]; simp only [mergeL]; clear hs hd; generalize a'.tmps = TT at *; try go_frame
              go_wp2_with fail
              go_roundw
              case rel => exact ⟨i + 1, sa40, _, ca40, by omega, rfl, by go_num, Grow.trans' HG.out HG3.out, HF.out⟩
              case measure => simp [intOf]; omega
        · have hkn : k = ml := by omega
          have HER := hide (erase_none L y fun q hq => HA.out q hq (by have := HL.out.1; omega))
          rw [HER.out] at HSU
          clear hq
          go_wp2
          go_roundw
          case rel => exact ⟨i + 1, sl, ml, cl, by omega, rfl, by go_num, Grow.trans' HG.out HQ.out, by rw [HSU.out]; exact HL.out.later HQ.out⟩
          case measure => simp [intOf]; omega
    · have him : i = m := by omega
      have hall : ers S e i = mns d e := by
        unfold ers mns
        rw [List.take_of_length_le (by rw [E1.out.1]; omega), HS.out]
      rw [hall] at hL
      have HL := hide hL
      clear hL hall hg
      go_wp2
      go_ret
      exact ⟨sl, ml, cl, rfl, Grow.trans' G1.out HG.out, HL.out⟩

end Go.Proofs.Ytkmgbhehhdjmlaa
