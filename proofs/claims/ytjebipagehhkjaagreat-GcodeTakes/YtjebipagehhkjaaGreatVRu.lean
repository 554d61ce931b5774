/-
  What valid.rules and each of its seven rules do to the world: the rules lie in a row of seven, each of an error and a closure; each closure tells whether a graph breaks it, if those ahead are kept; what was there stays as it was.
-/
import Derived.Test.YtjebipagehhkjaaGreatVCf
import Derived.Test.YtjebipagehhkjaaGreatVHu
namespace Go.Proofs.YtjebipagehhkjaaGreat
set_option maxRecDepth 100000
open Go.RowKit Go.Sort
set_option linter.unusedVariables false
set_option linter.unusedSimpArgs false

theorem any_not {α : Type} (p : α → Bool) (l : List α) : (l.any fun x => !p x) = !l.all p := by
  induction l with
  | nil => rfl
  | cons a l ih => simp only [List.any_cons, List.all_cons, ih, Bool.not_and]
theorem route_all {N : List Nd} {E : List Ed} (h : E.all (edgeB N) = true) : E.all (routeE N) = (locs N).all (routeOk N E) := by
  rw [Bool.eq_iff_iff]
  constructor
  · intro h1
    refine List.all_eq_true.2 fun l hl => ?_
    unfold routeOk
    rw [Bool.or_eq_true, Bool.or_eq_true]
    by_cases hk : (nth N l.n.toNat).k = 6 ∨ (nth N l.n.toNat).k = 7
    · right
      refine List.all_eq_true.2 fun j hj => ?_
      obtain ⟨e, he, hej⟩ := List.mem_map.1 hj
      obtain ⟨he1, he2⟩ := List.mem_filter.1 he
      simp only [Bool.and_eq_true, decide_eq_true_eq] at he2
      have h2 := List.all_eq_true.1 h1 e he1
      unfold routeE at h2
      rw [he2.1] at h2
      rcases hk with hk | hk <;> simpa [hk, ← hej] using h2
    · left; right
      have : ¬ (nth N l.n.toNat).k = 6 ∧ ¬ (nth N l.n.toNat).k = 7 := by omega
      simp [this]
  · intro h1
    refine List.all_eq_true.2 fun e he => ?_
    have h3 := edge_is (List.all_eq_true.1 h e he)
    have hm : (⟨e.t, e.p⟩ : Lc) ∈ locs N := by
      rw [mem_locs]
      unfold isP
      simp [h3.2.1]
    have h4 := List.all_eq_true.1 h1 _ hm
    unfold routeOk at h4
    dsimp only at h4
    rw [Bool.or_eq_true, Bool.or_eq_true] at h4
    unfold routeE
    rw [Bool.or_eq_true]
    rcases h4 with (h4 | h4) | h4
    · exact absurd (of_decide_eq_true h4) h3.2.2
    · exact .inl h4
    · exact .inr (List.all_eq_true.1 h4 e.f (prev_has E e he))
/-- Does the graph break the rule number i? -/
def brk (N : List Nd) (E : List Ed) : Nat → Bool
  | 0 => decide (N.length < 1) || decide (12 < N.length) || decide (24 < E.length)
  | 1 => N.any fun x => !nodeB x
  | 2 => E.any fun e => !edgeB N e
  | 3 => E.any fun e => !depE N e
  | 4 => (locs N).any fun l => !portOk E l
  | 5 => E.any fun e => !routeE N e
  | 6 => (List.range N.length).any (cycB N E)
  | _ => false
def errN : Nat → Int
  | 0 => 3
  | 1 => 10
  | 2 => 11
  | 3 => 12
  | 4 => 13
  | 5 => 15
  | 6 => 14
  | _ => 0
theorem brk_edges {N : List Nd} {E : List Ed} (h : brk N E 2 = false) : E.all (edgeB N) = true := by
  have : (E.any fun e => !edgeB N e) = false := h
  rw [any_not] at this
  simpa using this
theorem brk_inN {N : List Nd} {E : List Ed} (h : brk N E 2 = false) : InN N E := fun e he => by
  have := edge_is (List.all_eq_true.1 (brk_edges h) e he)
  exact ⟨this.1.1, this.1.2.1, this.2.1.1, this.2.1.2.1⟩
theorem errG_brk {N : List Nd} {E : List Ed} {k : Nat} (hk : k ≤ 7) (h : ∀ i, i < k → brk N E i = false) (hb : k = 7 ∨ brk N E k = true) : errG N E = errN k := by
  have e0 : (brk N E 0 = true) ↔ ¬ (1 ≤ N.length ∧ N.length ≤ 12 ∧ E.length ≤ 24) := by
    simp only [brk, Bool.or_eq_true, decide_eq_true_eq]
    omega
  have e1 : (brk N E 1 = true) ↔ ¬ N.all nodeB = true := by simp only [brk, any_not]; simp
  have e2 : (brk N E 2 = true) ↔ ¬ E.all (edgeB N) = true := by simp only [brk, any_not]; simp
  have e3 : (brk N E 3 = true) ↔ ¬ E.all (depE N) = true := by simp only [brk, any_not]; simp
  have e4 : (brk N E 4 = true) ↔ ¬ (locs N).all (portOk E) = true := by simp only [brk, any_not]; simp
  have e5 : E.all (edgeB N) = true → ((brk N E 5 = true) ↔ ¬ (locs N).all (routeOk N E) = true) := fun h => by simp only [brk, any_not, route_all h]; simp
  have e6 : (brk N E 6 = true) ↔ (List.range N.length).any (cycB N E) = true := Iff.rfl
  have no : ∀ i, i < k → ¬ brk N E i = true := fun i hi => by rw [h i hi]; simp
  have ek : k = 0 ∨ k = 1 ∨ k = 2 ∨ k = 3 ∨ k = 4 ∨ k = 5 ∨ k = 6 ∨ k = 7 := by omega
  unfold errG
  rcases ek with rfl | rfl | rfl | rfl | rfl | rfl | rfl | rfl
  · rw [if_pos (e0.1 (hb.resolve_left (by omega)))]; rfl
  · rw [if_neg (fun x => no 0 (by omega) (e0.2 x)), if_pos (e1.1 (hb.resolve_left (by omega)))]; rfl
  · rw [if_neg (fun x => no 0 (by omega) (e0.2 x)), if_neg (fun x => no 1 (by omega) (e1.2 x)), if_pos (e2.1 (hb.resolve_left (by omega)))]; rfl
  · rw [if_neg (fun x => no 0 (by omega) (e0.2 x)), if_neg (fun x => no 1 (by omega) (e1.2 x)), if_neg (fun x => no 2 (by omega) (e2.2 x)), if_pos (e3.1 (hb.resolve_left (by omega)))]; rfl
  · rw [if_neg (fun x => no 0 (by omega) (e0.2 x)), if_neg (fun x => no 1 (by omega) (e1.2 x)), if_neg (fun x => no 2 (by omega) (e2.2 x)), if_neg (fun x => no 3 (by omega) (e3.2 x)), if_pos (e4.1 (hb.resolve_left (by omega)))]; rfl
  · rw [if_neg (fun x => no 0 (by omega) (e0.2 x)), if_neg (fun x => no 1 (by omega) (e1.2 x)), if_neg (fun x => no 2 (by omega) (e2.2 x)), if_neg (fun x => no 3 (by omega) (e3.2 x)), if_neg (fun x => no 4 (by omega) (e4.2 x)), if_pos ((e5 (brk_edges (h 2 (by omega)))).1 (hb.resolve_left (by omega)))]; rfl
  · rw [if_neg (fun x => no 0 (by omega) (e0.2 x)), if_neg (fun x => no 1 (by omega) (e1.2 x)), if_neg (fun x => no 2 (by omega) (e2.2 x)), if_neg (fun x => no 3 (by omega) (e3.2 x)), if_neg (fun x => no 4 (by omega) (e4.2 x)), if_neg (fun x => no 5 (by omega) ((e5 (brk_edges (h 2 (by omega)))).2 x)), if_pos (e6.1 (hb.resolve_left (by omega)))]; rfl
  · rw [if_neg (fun x => no 0 (by omega) (e0.2 x)), if_neg (fun x => no 1 (by omega) (e1.2 x)), if_neg (fun x => no 2 (by omega) (e2.2 x)), if_neg (fun x => no 3 (by omega) (e3.2 x)), if_neg (fun x => no 4 (by omega) (e4.2 x)), if_neg (fun x => no 5 (by omega) ((e5 (brk_edges (h 2 (by omega)))).2 x)), if_neg (fun x => no 6 (by omega) (e6.2 x))]; rfl

theorem rule0 (gs : Option Addr) (gn gc : Nat) (gt : Option Addr) (gm gq : Nat) (N : List Nd) (E : List Ed) (bg : Nat) (w : World) (hG : BoxG w bg ⟨gs, gn, gc, gt, gm, gq, [], []⟩) (hg : IsNds w gs gn gc N) (he : IsEds w gt gm gq E) :
    Calls Tryz.prog 41 #[.pointer (some ⟨bg, 0, none⟩)] w fun e w' => e = .returned (.bool (brk N E 0)) ∧ Grow w w' := by
  obtain ⟨g0, g1⟩ := hG
  dsimp only at g0 g1
  unfold brk
  rw [hg.1, he.1]
  clear hg he
  by_cases h1 : gn < 1
  · have i1 : (gn : Int) < 1 := by omega
    go_enter Tryz.func41, Tryz.ntmps41
    go_wp2_with fail
    go_ret
    exact ⟨ret_bool (by simp; try omega), Grow.rfl' _⟩
  · have i1 : ¬ (gn : Int) < 1 := by omega
    by_cases h2 : 12 < gn
    · have i2 : (12 : Int) < (gn : Int) := by omega
      go_enter Tryz.func41, Tryz.ntmps41
      go_wp2_with fail
      go_ret
      exact ⟨ret_bool (by simp; try omega), Grow.rfl' _⟩
    · have i2 : ¬ (12 : Int) < (gn : Int) := by omega
      go_enter Tryz.func41, Tryz.ntmps41
      go_wp2_with fail
      go_ret
      exact ⟨ret_bool (by simp [h1, h2]; try omega), Grow.rfl' _⟩
theorem rule1 (gs : Option Addr) (gn gc : Nat) (gt : Option Addr) (gm gq : Nat) (N : List Nd) (E : List Ed) (bg : Nat)  (w : World) (hn : gn ≤ 20) (hm : gm ≤ 40) (hG : BoxG w bg ⟨gs, gn, gc, gt, gm, gq, [], []⟩) (hg : IsNds w gs gn gc N) (he : IsEds w gt gm gq E) :
    Calls Tryz.prog 42 #[.pointer (some ⟨bg, 0, none⟩)] w fun e w' => e = .returned (.bool (brk N E 1)) ∧ Grow w w' := by
  have C := hide (con2_raw gs gn gc N (fun x => !nodeB x) w (by omega) hg fun x _ w' _ => clo2 x w')
  obtain ⟨g0, g1⟩ := hG
  dsimp only at g0 g1
  unfold brk
  clear hg he 
  go_enter Tryz.func42, Tryz.ntmps42
  go_wp2_with fail
  refine C.out.mono ?_
  rintro _ w1 ⟨rfl, hb⟩
  have G1 := hide hb
  clear hb g0 g1
  go_wp2_with fail
  go_ret
  exact ⟨rfl, G1.out⟩
theorem rule2 (gs : Option Addr) (gn gc : Nat) (gt : Option Addr) (gm gq : Nat) (N : List Nd) (E : List Ed) (bg : Nat)  (w : World) (hn : gn ≤ 20) (hm : gm ≤ 40) (hG : BoxG w bg ⟨gs, gn, gc, gt, gm, gq, [], []⟩) (hg : IsNds w gs gn gc N) (he : IsEds w gt gm gq E) :
    Calls Tryz.prog 46 #[.pointer (some ⟨bg, 0, none⟩)] w fun e w' => e = .returned (.bool (brk N E 2)) ∧ Grow w w' := by
  have C := hide (con3_raw gt gm gq E (fun e => !edgeB N e) bg w (by omega) he fun x _ w' h => clo3 gs gn gc gt gm gq N E bg x w' hn (hG.later h) (hg.later h) (he.later h))
  obtain ⟨g0, g1⟩ := hG
  dsimp only at g0 g1
  unfold brk
  clear hg he 
  go_enter Tryz.func46, Tryz.ntmps46
  go_wp2_with fail
  refine C.out.mono ?_
  rintro _ w1 ⟨rfl, hb⟩
  have G1 := hide hb
  clear hb g0 g1
  go_wp2_with fail
  go_ret
  exact ⟨rfl, G1.out⟩
theorem rule3 (gs : Option Addr) (gn gc : Nat) (gt : Option Addr) (gm gq : Nat) (N : List Nd) (E : List Ed) (bg : Nat) (h2 : brk N E 2 = false) (w : World) (hn : gn ≤ 20) (hm : gm ≤ 40) (hG : BoxG w bg ⟨gs, gn, gc, gt, gm, gq, [], []⟩) (hg : IsNds w gs gn gc N) (he : IsEds w gt gm gq E) :
    Calls Tryz.prog 50 #[.pointer (some ⟨bg, 0, none⟩)] w fun e w' => e = .returned (.bool (brk N E 3)) ∧ Grow w w' := by
  have C := hide (con4_raw gt gm gq E (fun e => !depE N e) bg w (by omega) he fun x hx w' h => clo4 gs gn gc gt gm gq N E bg x (List.all_eq_true.1 (brk_edges h2) x hx) w' hn (hG.later h) (hg.later h) (he.later h))
  obtain ⟨g0, g1⟩ := hG
  dsimp only at g0 g1
  unfold brk
  clear hg he h2
  go_enter Tryz.func50, Tryz.ntmps50
  go_wp2_with fail
  refine C.out.mono ?_
  rintro _ w1 ⟨rfl, hb⟩
  have G1 := hide hb
  clear hb g0 g1
  go_wp2_with fail
  go_ret
  exact ⟨rfl, G1.out⟩
theorem rule5 (gs : Option Addr) (gn gc : Nat) (gt : Option Addr) (gm gq : Nat) (N : List Nd) (E : List Ed) (bg : Nat) (h2 : brk N E 2 = false) (w : World) (hn : gn ≤ 20) (hm : gm ≤ 40) (hG : BoxG w bg ⟨gs, gn, gc, gt, gm, gq, [], []⟩) (hg : IsNds w gs gn gc N) (he : IsEds w gt gm gq E) :
    Calls Tryz.prog 60 #[.pointer (some ⟨bg, 0, none⟩)] w fun e w' => e = .returned (.bool (brk N E 5)) ∧ Grow w w' := by
  have C := hide (con6_raw gt gm gq E (fun e => !routeE N e) bg w (by omega) he fun x hx w' h => clo6 gs gn gc gt gm gq N E bg x (List.all_eq_true.1 (brk_edges h2) x hx) w' (hG.later h) (hg.later h) (he.later h))
  obtain ⟨g0, g1⟩ := hG
  dsimp only at g0 g1
  unfold brk
  clear hg he h2
  go_enter Tryz.func60, Tryz.ntmps60
  go_wp2_with fail
  refine C.out.mono ?_
  rintro _ w1 ⟨rfl, hb⟩
  have G1 := hide hb
  clear hb g0 g1
  go_wp2_with fail
  go_ret
  exact ⟨rfl, G1.out⟩
theorem rule4 (gs : Option Addr) (gn gc : Nat) (gt : Option Addr) (gm gq : Nat) (N : List Nd) (E : List Ed) (bg : Nat) (w : World) (hn : gn ≤ 20) (hm : gm ≤ 40) (hG : BoxG w bg ⟨gs, gn, gc, gt, gm, gq, [], []⟩) (hg : IsNds w gs gn gc N) (he : IsEds w gt gm gq E) :
    Calls Tryz.prog 55 #[.pointer (some ⟨bg, 0, none⟩)] w fun e w' => e = .returned (.bool (brk N E 4)) ∧ Grow w w' := by
  have C := hide (locs_raw gs gn gc gt gm gq N w hn hg)
  have hl : (locs N).length ≤ 60 := by
    have h2 : (locs N).length ≤ 3 * N.length := locsTo_len N N.length
    rw [hg.1] at h2
    omega
  have HG := hide hG
  have HN := hide hg
  have HE := hide he
  obtain ⟨g0, g1⟩ := hG
  dsimp only at g0 g1
  unfold brk
  obtain ⟨D, hD⟩ : ∃ D, D = locs N := ⟨_, rfl⟩
  rw [← hD] at C hl ⊢
  clear hg he hD
  go_enter Tryz.func55, Tryz.ntmps55
  go_wp2_with fail
  refine C.out.mono ?_
  rintro _ w1 ⟨s, m, c, rfl, hb, hO⟩
  have G1 := hide hb
  have hm2 : m ≤ 60 := by rw [← hO.1]; exact hl
  have C2 := hide (con5_raw s m c D (fun l => !portOk E l) bg w1 (by omega) hO.is fun x _ w' h => clo5 gs gn gc gt gm gq N E bg x w' hm ((HG.out.later hb).later h) ((HN.out.later hb).later h) ((HE.out.later hb).later h))
  clear hb hO g0 g1 C
  go_wp2_with fail
  refine C2.out.mono ?_
  rintro _ w2 ⟨rfl, hb⟩
  have G2 := hide (Grow.trans' G1.out hb)
  clear hb
  go_wp2_with fail
  go_ret
  exact ⟨rfl, G2.out⟩
theorem rule6 (gs : Option Addr) (gn gc : Nat) (gt : Option Addr) (gm gq : Nat) (N : List Nd) (E : List Ed) (bg : Nat) (h2 : brk N E 2 = false) (w : World) (hn : gn ≤ 20) (hm : gm ≤ 40) (hG : BoxG w bg ⟨gs, gn, gc, gt, gm, gq, [], []⟩) (hg : IsNds w gs gn gc N) (he : IsEds w gt gm gq E) :
    Calls Tryz.prog 63 #[.pointer (some ⟨bg, 0, none⟩)] w fun e w' => e = .returned (.bool (brk N E 6)) ∧ Grow w w' := by
  have C := hide (unfed_raw gs gn gc gt gm gq N E w hn hm (brk_inN h2) hg he rfl)
  obtain ⟨g0, g1⟩ := hG
  dsimp only at g0 g1
  unfold brk
  clear hg he h2
  go_enter Tryz.func63, Tryz.ntmps63
  go_wp2_with fail
  refine C.out.mono ?_
  rintro _ w1 ⟨rfl, hb⟩
  have G1 := hide hb
  clear hb g0 g1
  go_wp2_with fail
  go_ret
  exact ⟨rfl, G1.out⟩

/-- The seven rules lie in a row. -/
structure IsRules (w : World) (b bg : Nat) : Prop where
  e0 : w.cell? ⟨b, 0, none⟩ = some (.int .i64 3)
  f0 : w.cell? ⟨b, 1, none⟩ = some (.func (.func 41) #[] #[.pointer (some ⟨bg, 0, none⟩)])
  e1 : w.cell? ⟨b, 2, none⟩ = some (.int .i64 10)
  f1 : w.cell? ⟨b, 3, none⟩ = some (.func (.func 42) #[] #[.pointer (some ⟨bg, 0, none⟩)])
  e2 : w.cell? ⟨b, 4, none⟩ = some (.int .i64 11)
  f2 : w.cell? ⟨b, 5, none⟩ = some (.func (.func 46) #[] #[.pointer (some ⟨bg, 0, none⟩)])
  e3 : w.cell? ⟨b, 6, none⟩ = some (.int .i64 12)
  f3 : w.cell? ⟨b, 7, none⟩ = some (.func (.func 50) #[] #[.pointer (some ⟨bg, 0, none⟩)])
  e4 : w.cell? ⟨b, 8, none⟩ = some (.int .i64 13)
  f4 : w.cell? ⟨b, 9, none⟩ = some (.func (.func 55) #[] #[.pointer (some ⟨bg, 0, none⟩)])
  e5 : w.cell? ⟨b, 10, none⟩ = some (.int .i64 15)
  f5 : w.cell? ⟨b, 11, none⟩ = some (.func (.func 60) #[] #[.pointer (some ⟨bg, 0, none⟩)])
  e6 : w.cell? ⟨b, 12, none⟩ = some (.int .i64 14)
  f6 : w.cell? ⟨b, 13, none⟩ = some (.func (.func 63) #[] #[.pointer (some ⟨bg, 0, none⟩)])
theorem IsRules.later {w w' : World} {b bg : Nat} (hg : Grow w w') (h : IsRules w b bg) : IsRules w' b bg := by
  obtain ⟨a0, b0, a1, b1, a2, b2, a3, b3, a4, b4, a5, b5, a6, b6⟩ := h
  exact ⟨cell_later hg a0, cell_later hg b0, cell_later hg a1, cell_later hg b1, cell_later hg a2, cell_later hg b2, cell_later hg a3, cell_later hg b3, cell_later hg a4, cell_later hg b4, cell_later hg a5, cell_later hg b5, cell_later hg a6, cell_later hg b6⟩
set_option maxHeartbeats 2000000 in
theorem rules_raw (gs : Option Addr) (gn gc : Nat) (gt : Option Addr) (gm gq : Nat) (w : World) :
    Calls Tryz.prog 26 #[.agg #[.slice gs gn gc, .slice gt gm gq]] w fun e w' => ∃ b bg, e = .returned (.slice (some ⟨b, 0, none⟩) 7 7) ∧ Grow w w' ∧ BoxG w' bg ⟨gs, gn, gc, gt, gm, gq, [], []⟩ ∧ IsRules w' b bg := by
  have KG : Hid (BoxG (w.alloc (.cells #[.slice gs gn gc, .slice gt gm gq] 27)) w.heap.size ⟨gs, gn, gc, gt, gm, gq, [], []⟩) := hide (BoxG.new w ⟨gs, gn, gc, gt, gm, gq, [], []⟩)
  go_enter Tryz.func26, Tryz.ntmps26
  go_wp2_with fail
  go_ret
  refine ⟨_, w.heap.size, rfl, Grow.trans' (Grow.alloc' _ _) (Grow.alloc' _ _), KG.out.later (Grow.alloc' _ _), ?_⟩
  constructor <;> simp [go_sem]

end Go.Proofs.YtjebipagehhkjaaGreat
