/-
  What the document's own Next, Prev, Same and Numbers do to the world: Next and Prev tell the plain rows, Same and Numbers whether two rows are the same; what was there stays as it was.
-/
import Derived.Test.YtehianjfpmbfpaaGreatHBlkZ
import Derived.Test.YtehianjfpmbfpaaGreatSmeGZ
import Derived.Test.YtehianjfpmbfpaaGreatEndGZ
namespace Go.Proofs.YtehianjfpmbfpaaGreat
set_option maxRecDepth 100000
open Go.RowKit Go.Sort
set_option linter.unusedVariables false
set_option linter.unusedSimpArgs false
attribute [local go_sem ↓] eqLc


/-- A slice that the call owns, at the end of append. -/
def AppL (base n : Nat) (d : List Lc) (v : Value) (w : World) : Prop := ∃ s2 c2, v = .slice s2 n c2 ∧ OwnL w base s2 n c2 d ∧ True
theorem AppL.later {base n : Nat} {d : List Lc} {v : Value} {w w' : World} (hg : Grow w w') : AppL base n d v w → AppL base n d v w' := fun ⟨s2, c2, e, h, l⟩ => ⟨s2, c2, e, h.later hg, l⟩
/-- A new slice of one place. -/
def OneL (t : Lc) (v : Value) (w : World) : Prop := ∃ g, v = .slice (some ⟨g, 0, none⟩) 1 1 ∧ IsLcs w (some ⟨g, 0, none⟩) 1 1 [t]
theorem OneL.later {t : Lc} {v : Value} {w w' : World} (hg : Grow w w') : OneL t v w → OneL t v w' := fun ⟨g, e, h⟩ => ⟨g, e, h.later hg⟩
theorem oneL_new (w : World) (t : Lc) : OneL t (.slice (some ⟨w.heap.size, 0, none⟩) 1 1) (w.alloc (.cells #[.int .i64 t.n, .int .i64 t.p] 27)) := ⟨_, rfl, isLcs_one w t⟩
theorem run_apL {ws w : World} (hg : Grow ws w) (rt : TypeId) (s : Option Addr) (n cap : Nat) (d e : List Lc) (hown : OwnL w ws.heap.size s n cap d) (s' : Option Addr) (m c : Nat) (he : IsLcs w s' m c e) (hlen : n + m ≤ 1000000) :
    ∃ s2 c2 w2, (Builtin.append_ #[86, 86] rt #[.slice s n cap, .slice s' m c]).run Tryz.prog w = .ok (.slice s2 (n + m) c2) w2
      ∧ OwnL w2 ws.heap.size s2 (n + m) c2 (d ++ e) ∧ Grow ws w2 ∧ True := by
  obtain ⟨s2, c2, w2, h1, h2, h3⟩ := run_ap_lc w rt ws.heap.size s n cap d e hown s' m c he hlen hg.size
  exact ⟨s2, c2, w2, h1, h2, (GrewBut.mk h3 fun b hb => (hown.lt b hb).2).grow hg (Nat.le_refl _), trivial⟩


set_option maxHeartbeats 4000000 in
theorem rprev_raw (gs : Option Addr) (gn gc : Nat) (gt : Option Addr) (gm gq : Nat) (E : List Ed) (n p : Int) (w : World) (hm : gm ≤ 40) (hg : IsEds w gt gm gq E) :
    Calls Tryz.prog 76 #[.agg #[.slice gs gn gc, .slice gt gm gq], .agg #[.int .i64 n, .int .i64 p]] w fun e w' => ∃ s m c, e = .returned (.slice s m c) ∧ Grow w w' ∧ OwnI w' w.heap.size s m c (prevP E ⟨n, p⟩) := by
  have GG : Hid (Grow w ((w.alloc (.cells #[.slice gs gn gc, .slice gt gm gq] 25)).alloc (.cells #[.int .i64 n, .int .i64 p] 27))) := hide (Grow.trans' (Grow.alloc' _ _) (Grow.alloc' _ _))
  have KG : Hid (BoxG ((w.alloc (.cells #[.slice gs gn gc, .slice gt gm gq] 25)).alloc (.cells #[.int .i64 n, .int .i64 p] 27)) w.heap.size ⟨gs, gn, gc, gt, gm, gq, [], []⟩) := hide ((BoxG.new w ⟨gs, gn, gc, gt, gm, gq, [], []⟩).later (Grow.alloc' _ _))
  have hz1 : (w.alloc (.cells #[.slice gs gn gc, .slice gt gm gq] 25)).heap.size = w.heap.size + 1 := by simp
  have hz2 : ((w.alloc (.cells #[.slice gs gn gc, .slice gt gm gq] 25)).alloc (.cells #[.int .i64 n, .int .i64 p] 27)).heap.size = w.heap.size + 2 := by simp
  have KL : Hid (BoxL ((w.alloc (.cells #[.slice gs gn gc, .slice gt gm gq] 25)).alloc (.cells #[.int .i64 n, .int .i64 p] 27)) (w.heap.size + 1) ⟨n, p⟩) := hide (by rw [← hz1]; exact BoxL.new _ ⟨n, p⟩)
  have HI := hide (hg.later GG.out)
  have G1 : Hid (Grow ((w.alloc (.cells #[.slice gs gn gc, .slice gt gm gq] 25)).alloc (.cells #[.int .i64 n, .int .i64 p] 27)) (((w.alloc (.cells #[.slice gs gn gc, .slice gt gm gq] 25)).alloc (.cells #[.int .i64 n, .int .i64 p] 27)).alloc (.cells #[] 3))) := hide (Grow.alloc' _ _)
  have O1 : Hid (OwnI (((w.alloc (.cells #[.slice gs gn gc, .slice gt gm gq] 25)).alloc (.cells #[.int .i64 n, .int .i64 p] 27)).alloc (.cells #[] 3)) ((w.alloc (.cells #[.slice gs gn gc, .slice gt gm gq] 25)).alloc (.cells #[.int .i64 n, .int .i64 p] 27)).heap.size (some ⟨w.heap.size + 2, 0, none⟩) 0 0 []) := hide (by have := OwnI.lit0 ((w.alloc (.cells #[.slice gs gn gc, .slice gt gm gq] 25)).alloc (.cells #[.int .i64 n, .int .i64 p] 27)) _ (Nat.le_refl _); rw [hz2] at this ⊢; exact this)
  clear hg hz1 hz2
  go_enter Tryz.func76, Tryz.ntmps76
  go_wp2_with fail
  generalize (w.alloc (.cells #[.slice gs gn gc, .slice gt gm gq] 25)).alloc (.cells #[.int .i64 n, .int .i64 p] 27) = w0 at *
  generalize w.heap.size = P at *
  go_loopw [5, 6] (fun v ix wr => ∃ (k : Nat) (s : Option Addr) (m c : Nat), k ≤ gm ∧ m ≤ k ∧ v = .slice s m c ∧ ix = .int .i64 k ∧ Grow w0 wr ∧ OwnI wr w0.heap.size s m c (prevP (E.take k) ⟨n, p⟩)) (fun _ ix _ => gm - (intOf ix).toNat)
  case atStart => exact ⟨0, _, 0, 0, Nat.zero_le _, Nat.le_refl _, rfl, rfl, G1.out, by simpa [prevP] using O1.out⟩
  case round =>
    obtain ⟨k, s, m, c, hk, hmk, rfl, rfl, hg, hO⟩ := hrel
    have HG := hide hg
    have HO := hide hO
    obtain ⟨g0, g1⟩ := KG.out.later hg
    obtain ⟨l0, l1⟩ := KL.out.later hg
    dsimp only at g0 g1 l0 l1
    clear g0
    by_cases hlt : k < gm
    · have hkd : k < E.length := by rw [HI.out.1]; exact hlt
      have hne : ¬ E = [] := fun h => by rw [h] at hkd; simp at hkd
      obtain ⟨be, o, rfl, hr1⟩ := HI.out.2.2.resolve_left hne
      obtain ⟨p0, p1, p2⟩ := (hr1.later hg).at k hkd
      have HS := hide (prevP_step E ⟨n, p⟩ k hkd)
      obtain ⟨x, hx⟩ : ∃ x, x = E[k] := ⟨_, rfl⟩
      rw [← hx] at p0 p1 p2 HS
      have HR1 : Hid (∀ wq, Grow w0 wq → wq.cell? ⟨be, o + k * 3, none⟩ = some (.int .i64 x.f)) := hide (fun wq hq => by
        have := (hr1.later hq).at k hkd
        rw [← hx] at this
        exact this.1)
      obtain ⟨xf, xt, xp⟩ := x
      dsimp only at p0 p1 p2 HS HR1
      have hi1 : (0 : Int) ≤ (k : Int) := by omega
      have hi2 : (k : Int) < (gm : Int) := by omega
      have hsz := hg.size
      clear hne hr1 hx hkd hg hO p0
      obtain ⟨T, hT⟩ : ∃ T, T = prevP (E.take k) ⟨n, p⟩ := ⟨_, rfl⟩
      rw [← hT] at HS HO
      have HKG : Hid (∀ wq, Grow w0 wq → wq.cell? ⟨P, 1, none⟩ = some (.slice (some ⟨be, o, none⟩) gm gq)) := hide (fun w' h => (KG.out.later h).2)
      clear hT
      have hc : (xt = n ∧ xp = p) ∨ (xt = n ∧ ¬ xp = p) ∨ ¬ xt = n := by omega
      rcases hc with ⟨rfl, rfl⟩ | ⟨rfl, hc⟩ | hc
      · have HT := hide (show prevP (E.take (k + 1)) ⟨xt, xp⟩ = T ++ [xf] by rw [HS.out, if_pos ⟨rfl, rfl⟩])
        clear HS
        go_wp2_with fail
        go_quiet (fail)
        have G2 := hide (Grow.trans' HG.out (below_drewN (Below.refl _ _) nq))
        have O2 := hide (HO.out.later (below_drewN (Below.refl _ _) nq))
        clear p1 p2 g1 l0 l1 HG HO hsz
        generalize wr.drewN nq = wz at *
        have g1 := HKG.out wz G2.out
        have p0 := HR1.out wz G2.out
        have hsz := G2.out.size
        go_wp2_with (at_builtin; refine wpList_apd_int rfl _ _ rfl w0.heap.size s m c T [xf] rfl (O2.out.later (Grow.alloc' _ _)) (some ⟨wz.heap.size, 0, none⟩) 1 1 rfl (isIns_one wz xf) (by omega) (by simp; omega) ?_)
        intro s5 c5 w5 h5 gb
        have G5 := hide (gb.grow (Grow.trans' G2.out (Grow.alloc' _ _)) (Nat.le_refl _))
        have O5 : Hid (OwnI w5 w0.heap.size s5 (m + 1) c5 (prevP (E.take (k + 1)) ⟨xt, xp⟩)) := hide (by rw [HT.out]; exact h5)
        clear h5 gb G2 O2 HT g1 p0 hsz
        go_wp2_with fail
        go_roundw
        case rel => exact ⟨k + 1, s5, m + 1, c5, by omega, by omega, rfl, by go_num, G5.out, O5.out⟩
        case measure => simp [intOf]; omega
      · have HT : Hid (OwnI wr w0.heap.size s m c (prevP (E.take (k + 1)) ⟨xt, p⟩)) := hide (by rw [HS.out, if_neg (by rintro ⟨h1, h2⟩; exact hc h2), List.append_nil]; exact HO.out)
        clear HS HO
        go_wp2_with fail
        go_quiet (fail)
        have G2 := hide (Grow.trans' HG.out (below_drewN (Below.refl _ _) nq))
        have O2 := hide (HT.out.later (below_drewN (Below.refl _ _) nq))
        clear p1 p2 g1 l0 l1 HG HT hsz
        generalize wr.drewN nq = wz at *
        go_wp2_with fail
        go_roundw
        case rel => exact ⟨k + 1, s, m, c, by omega, by omega, rfl, by go_num, G2.out, O2.out⟩
        case measure => simp [intOf]; omega
      · have HT : Hid (OwnI wr w0.heap.size s m c (prevP (E.take (k + 1)) ⟨n, p⟩)) := hide (by rw [HS.out, if_neg (by rintro ⟨h1, h2⟩; exact hc h1), List.append_nil]; exact HO.out)
        clear HS HO
        go_wp2_with fail
        go_quiet (fail)
        have G2 := hide (Grow.trans' HG.out (below_drewN (Below.refl _ _) nq))
        have O2 := hide (HT.out.later (below_drewN (Below.refl _ _) nq))
        clear p1 p2 g1 l0 l1 HG HT hsz
        generalize wr.drewN nq = wz at *
        go_wp2_with fail
        go_roundw
        case rel => exact ⟨k + 1, s, m, c, by omega, by omega, rfl, by go_num, G2.out, O2.out⟩
        case measure => simp [intOf]; omega
    · have hkn : E.take k = E := List.take_of_length_le (by rw [HI.out.1]; omega)
      have hi2 : ¬ (k : Int) < (gm : Int) := by omega
      rw [hkn] at HO
      clear hkn hO hg
      go_wp2_with fail
      go_ret
      exact ⟨s, m, c, rfl, Grow.trans' GG.out HG.out, HO.out.rebase (by have := GG.out.size; omega)⟩

end Go.Proofs.YtehianjfpmbfpaaGreat
