/-
  What follows of the fronts of ways, as plain data: what could come of what could come; of itself; of a greater time; along an edge and through a node; of two rows of changes; where nothing comes. No program is named here.
-/
import Derived.Test.YtehianjfpmbfpaaGreatQPmZ
namespace Go.Proofs.YtehianjfpmbfpaaGreat
set_option linter.unusedVariables false
set_option linter.unusedSimpArgs false

theorem comp_pos {i t k a o : Int} (h0 : 0 ≤ a) (h1 : 0 ≤ o) : 0 ≤ compI i t k a o := by
  unfold compI
  repeat' split
  all_goals omega
theorem comp_zero {i t k a o : Int} (h : t ≤ i) : compI i t k a o ≤ 0 := by
  unfold compI
  rw [if_neg (by omega)]
  omega
/-- What is at most another one is OK where that is. -/
theorem apply_le_ok {s r : Sm} {t : Tm} (h : leS s r = true) (h2 : applyE r t = 0) : applyE s t = 0 := by
  obtain ⟨ms, mr, hf, ht, he, hx, hy, hz⟩ := (leS_iff s r).1 h
  obtain ⟨⟨_, mt, hd⟩, m2, e2⟩ := applyE_ok h2
  have hm := (mayS_iff s).1 ms
  have hmt := (may_iff' t).1 mt
  obtain ⟨⟨a1, a2, a3, a4⟩, ⟨a5, a6, a7⟩, ⟨a8, a9, a10⟩, ⟨a11, a12, a13⟩⟩ := (may_iff' _).1 m2
  have b2 : t.e + r.ep ≤ 1048576 := a2
  refine (applyE_mk ms mt (hd.trans hf.symm) ((may_iff' _).2 ⟨⟨?_, ?_, ?_, ?_⟩, ⟨?_, fun k => ?_, fun k => ?_⟩, ⟨?_, fun k => ?_, fun k => ?_⟩, ⟨?_, fun k => ?_, fun k => ?_⟩⟩)).1
  · show 0 ≤ t.e + s.ep; omega
  · show t.e + s.ep ≤ 1048576; omega
  · show 0 ≤ s.t; omega
  · show s.t ≤ 3; omega
  · exact comp_pos hm.2.2.2.1.1 hmt.2.1.1
  · have k' : 0 < s.t := k
    have := comp_mono 0 s.t s.k r.k s.x r.x t.x hx hmt.2.1.1 k'
    rw [ht] at this
    have q := a6 (by show 0 < r.t; omega)
    show compI 0 s.t s.k s.x t.x ≤ 1000
    rw [ht]
    exact Int.le_trans this q
  · exact comp_zero k
  · exact comp_pos hm.2.2.2.2.1.1 hmt.2.2.1.1
  · have k' : 1 < s.t := k
    have := comp_mono 1 s.t s.k r.k s.y r.y t.y hy hmt.2.2.1.1 k'
    rw [ht] at this
    have q := a9 (by show 1 < r.t; omega)
    show compI 1 s.t s.k s.y t.y ≤ 1000
    rw [ht]
    exact Int.le_trans this q
  · exact comp_zero k
  · exact comp_pos hm.2.2.2.2.2.1 hmt.2.2.2.1
  · have k' : 2 < s.t := k
    have := comp_mono 2 s.t s.k r.k s.z r.z t.z hz hmt.2.2.2.1 k'
    rw [ht] at this
    have q := a12 (by show 2 < r.t; omega)
    show compI 2 s.t s.k s.z t.z ≤ 1000
    rw [ht]
    exact Int.le_trans this q
  · exact comp_zero k
/-- A lesser time is OK where a greater one is. -/
theorem apply_up_ok {s : Sm} {t u : Tm} (h : leB t u = true) (mt : mayB t = true) (h2 : applyE s u = 0) : applyE s t = 0 := by
  obtain ⟨⟨ms, mu, hd⟩, m2, e2⟩ := applyE_ok h2
  obtain ⟨l1, l2, l3, l4, l5, l6, l7⟩ := (le_iff t u).1 h
  have hm := (mayS_iff s).1 ms
  have hmt := (may_iff' t).1 mt
  obtain ⟨⟨a1, a2, a3, a4⟩, ⟨a5, a6, a7⟩, ⟨a8, a9, a10⟩, ⟨a11, a12, a13⟩⟩ := (may_iff' _).1 m2
  have b2 : u.e + s.ep ≤ 1048576 := a2
  refine (applyE_mk ms mt (l1.trans hd) ((may_iff' _).2 ⟨⟨?_, ?_, ?_, ?_⟩, ⟨?_, fun k => ?_, fun k => ?_⟩, ⟨?_, fun k => ?_, fun k => ?_⟩, ⟨?_, fun k => ?_, fun k => ?_⟩⟩)).1
  · show 0 ≤ t.e + s.ep; omega
  · show t.e + s.ep ≤ 1048576; omega
  · show 0 ≤ s.t; omega
  · show s.t ≤ 3; omega
  · exact comp_pos hm.2.2.2.1.1 hmt.2.1.1
  · exact Int.le_trans (comp_up 0 s.t s.k s.x t.x u.x fun q => l5 (by omega)) (a6 k)
  · exact comp_zero k
  · exact comp_pos hm.2.2.2.2.1.1 hmt.2.2.1.1
  · exact Int.le_trans (comp_up 1 s.t s.k s.y t.y u.y fun q => l6 (by omega)) (a9 k)
  · exact comp_zero k
  · exact comp_pos hm.2.2.2.2.2.1 hmt.2.2.2.1
  · exact Int.le_trans (comp_up 2 s.t s.k s.z t.z u.z fun q => l7 (by omega)) (a12 k)
  · exact comp_zero k
theorem leB_refl {t : Tm} (h : mayB t = true) : leB t t = true := kinT.refl t h
theorem leB_trans {a b c : Tm} (h : leB a b = true) (k : leB b c = true) : leB a c = true := by
  obtain ⟨l1, l2, l3, l4, l5, l6, l7⟩ := (le_iff a b).1 h
  obtain ⟨k1, k2, k3, k4, k5, k6, k7⟩ := (le_iff b c).1 k
  exact (le_iff a c).2 ⟨l1.trans k1, l2, l3, Int.le_trans l4 k4, fun q => Int.le_trans (l5 q) (k5 (by omega)), fun q => Int.le_trans (l6 q) (k6 (by omega)), fun q => Int.le_trans (l7 q) (k7 (by omega))⟩
theorem apply_may {s : Sm} {t : Tm} (h : applyE s t = 0) : mayB (applyT s t) = true := by
  obtain ⟨_, m, e⟩ := applyE_ok h
  rw [e]; exact m
theorem mem_made {l : List Sm} {t u : Tm} : u ∈ madeL l t ↔ ∃ s ∈ l, applyE s t = 0 ∧ u = applyT s t := by
  unfold madeL
  constructor
  · intro h
    obtain ⟨s, hs, rfl⟩ := List.mem_map.1 h
    rw [List.mem_filter, decide_eq_true_iff] at hs
    exact ⟨s, hs.1, hs.2, rfl⟩
  · rintro ⟨s, hs, he, rfl⟩
    exact List.mem_map.2 ⟨s, List.mem_filter.2 ⟨hs, by simp [he]⟩, rfl⟩
theorem could_mem {l : List Sm} {t u : Tm} (h : u ∈ chainO kinT (madeL l t)) : ∃ s ∈ l, applyE s t = 0 ∧ u = applyT s t := mem_made.1 (chain_mem kinT (chainO_is kinT _) h).1
theorem could_cov {l : List Sm} {t u : Tm} {s r : Sm} (hs : s ∈ l) (hle : leS s r = true) (he : applyE r t = 0) (hu : leB (applyT r t) u = true) : coverB kinT (chainO kinT (madeL l t)) u = true := by
  have h1 := apply_le_ok hle he
  rw [chainO_covers, cover_iff]
  exact ⟨applyT s t, List.mem_filter.2 ⟨mem_made.2 ⟨s, hs, h1, rfl⟩, apply_may h1⟩, leB_trans (le_apply hle h1 he) hu⟩
section
variable {N : List Nd} {E : List Ed}
theorem front_bway (hA : AccG N E) {a b : Lc} (ha : isP N a = true) {l : List Sm} (h : Front (Way (stepsG N E) a (sameS (depP N a)) b) l) {s : Sm} (hs : s ∈ l) : BWay (stepsG N E) a (sameS (depP N a)) 12 b s := by
  have hm := same_may hA ((mem_locs N a).2 ha)
  have hz : (sameS (depP N a)).x = 0 ∧ (sameS (depP N a)).y = 0 ∧ (sameS (depP N a)).z = 0 := by
    unfold sameS
    split <;> exact ⟨rfl, rfl, rfl⟩
  obtain ⟨s', V, hsw, hle⟩ := way_little (K := 12) (pa := fun v => ⟨(v : Int), 0⟩) (fun x hx => (step_is hA hx).2.2) hm hz (h.all s hs)
  obtain ⟨z, hz, hlz⟩ := (cover_iff kinS _ _).1 (h.cov s' hsw.b.way)
  have e : z = s := h.apart z hz s hs (leS_trans hlz hle)
  subst e
  have : s' = z := leS_anti hle hlz
  rw [← this]
  exact hsw.b
/-- P11.3. -/
theorem could_chain (hA : AccG N E) {a b c : Lc} {l1 l2 l3 : List Sm} (h1 : SumsOf N E a b l1) (h2 : SumsOf N E b c l2) (h3 : SumsOf N E a c l3) {t u v : Tm} (hu : u ∈ chainO kinT (madeL l1 t)) (hv : v ∈ chainO kinT (madeL l2 u)) : coverB kinT (chainO kinT (madeL l3 t)) v = true := by
  obtain ⟨s, hs, he, rfl⟩ := could_mem hu
  obtain ⟨r, hr, hf, rfl⟩ := could_mem hv
  have ha : isP N a = true := by
    cases hp : isP N a
    · rw [h1.2 hp] at hs; cases hs
    · rfl
  have hb : isP N b = true := by
    cases hp : isP N b
    · rw [h2.2 hp] at hr; cases hr
    · rfl
  have k1 := front_bway hA ha (h1.1 ha) hs
  have k2 := front_bway hA hb (h2.1 hb) hr
  have e1 := (way_dep hA ha k1.way).2
  have q0 := (way_dep hA ha (Way.none (S := stepsG N E))).2
  have q1 := (way_dep hA hb (Way.none (S := stepsG N E))).2
  have hn := then_same e1.1
  rw [e1.2.2.1] at hn
  obtain ⟨j1, j2⟩ := way_join (c := 12) (by omega) (fun x hx => (step_is hA hx).2.2.ep) q0.1 q0.2.2.2 q1.2.2.2 k1 hn k2
  obtain ⟨z, hz, hlz⟩ := (cover_iff kinS _ _).1 ((h3.1 ha).cov _ j2)
  obtain ⟨m1, m2⟩ := then_apply j1 he hf
  refine could_cov hz hlz m1 ?_
  rw [m2]
  exact leB_refl (apply_may hf)
theorem apply_same {t : Tm} (hm : mayB t = true) : applyE (sameS t.d) t = 0 ∧ applyT (sameS t.d) t = t := by
  obtain ⟨⟨a1, a2, a3, a4⟩, ⟨a5, a6, a7⟩, ⟨a8, a9, a10⟩, ⟨a11, a12, a13⟩⟩ := (may_iff' t).1 hm
  have hd : depthB t.d = true := (depthB_iff _).2 ⟨a3, a4⟩
  have es : sameS t.d = ⟨t.d, t.d, t.d, 0, 0, 0, 0⟩ := by unfold sameS; rw [if_pos hd]
  have e : rawT (sameS t.d) t = t := by
    rw [es]
    refine tm_eq ?_ rfl ?_ ?_ ?_
    · show t.e + 0 = t.e; omega
    all_goals
      simp only [rawT, compI]
      repeat' split
      all_goals omega
  have ms := (may_same hd).1
  obtain ⟨h1, h2⟩ := applyE_mk ms hm (may_same hd).2.1.symm (by rw [e]; exact hm)
  exact ⟨h1, h2.trans e⟩
/-- A time could come of itself. -/
theorem could_self (hA : AccG N E) {a : Lc} {l : List Sm} (h : SumsOf N E a a l) (ha : isP N a = true) {t : Tm} (ht : mayB t = true) (hd : t.d = depP N a) : coverB kinT (chainO kinT (madeL l t)) t = true := by
  obtain ⟨z, hz, hlz⟩ := (cover_iff kinS _ _).1 ((h.1 ha).cov _ .none)
  rw [← hd] at hlz
  obtain ⟨m1, m2⟩ := apply_same ht
  refine could_cov hz hlz m1 ?_
  rw [m2]
  exact leB_refl ht
theorem could_none (hA : AccG N E) {a b : Lc} {l : List Sm} (h : SumsOf N E a b l) {t : Tm} (hn : ¬ (isP N a = true ∧ mayB t = true ∧ t.d = depP N a)) : madeL l t = [] := by
  cases hm : madeL l t with
  | nil => rfl
  | cons u q =>
    exfalso
    obtain ⟨s, hs, he, _⟩ := mem_made.1 (show u ∈ madeL l t by rw [hm]; simp)
    obtain ⟨⟨_, mt, hd⟩, _⟩ := applyE_ok he
    cases hp : isP N a
    · rw [h.2 hp] at hs; cases hs
    · exact hn ⟨hp, mt, hd.trans (front_like hA hp (h.1 hp).all s hs).2.1⟩
/-- What comes of a greater time is covered by what comes of a lesser one. -/
theorem could_up {l : List Sm} {t u v : Tm} (h : leB t u = true) (mt : mayB t = true) (hv : v ∈ chainO kinT (madeL l u)) : coverB kinT (chainO kinT (madeL l t)) v = true := by
  obtain ⟨s, hs, he, rfl⟩ := could_mem hv
  have h1 := apply_up_ok h mt he
  exact could_cov hs (leS_refl (applyE_ok he).1.1) h1 (up_apply h h1 he)
/-- Along an edge. -/
theorem could_edge (hA : AccG N E) {e : Ed} (he : e ∈ E) {l : List Sm} (h : SumsOf N E ⟨e.f, -1⟩ ⟨e.t, e.p⟩ l) {t : Tm} (ht : mayB t = true) (hd : t.d = (nth N e.f.toNat).d) : coverB kinT (chainO kinT (madeL l t)) t = true := by
  have hx : stepE N e ∈ stepsG N E := (stepsR_iff hA _).1 (List.mem_append.2 (.inr (List.mem_map.2 ⟨e, he, rfl⟩)))
  have hi := step_is hA hx
  have ha : isP N ⟨e.f, -1⟩ = true := hi.1.1
  have hdep : depP N ⟨e.f, -1⟩ = (nth N e.f.toNat).d := by
    unfold depP
    rw [if_pos ha, if_pos rfl]
  have ms := same_may hA ((mem_locs N _).2 ha)
  rw [hdep] at ms
  have hdb : depthB (nth N e.f.toNat).d = true := by rw [← hd]; exact (depthB_iff _).2 ⟨((may_iff' t).1 ht).1.2.2.1, ((may_iff' t).1 ht).1.2.2.2⟩
  have h2 := then_same ms
  rw [(may_same hdb).2.2] at h2
  have hw : Way (stepsG N E) ⟨e.f, -1⟩ (sameS (depP N ⟨e.f, -1⟩)) ⟨e.t, e.p⟩ (sameS (nth N e.f.toNat).d) := by
    have q := Way.more (S := stepsG N E) (a := ⟨e.f, -1⟩) (s0 := sameS (depP N ⟨e.f, -1⟩)) (stepE N e) _ .none hx (by rw [hdep]; exact h2.1)
    have e2 : thenS (sameS (depP N ⟨e.f, -1⟩)) (stepE N e).r = sameS (nth N e.f.toNat).d := by rw [hdep]; exact h2.2
    rw [e2] at q
    exact q
  obtain ⟨z, hz, hlz⟩ := (cover_iff kinS _ _).1 ((h.1 ha).cov _ hw)
  rw [← hd] at hlz
  obtain ⟨m1, m2⟩ := apply_same ht
  refine could_cov hz hlz m1 ?_
  rw [m2]
  exact leB_refl ht
/-- Through a node. -/
theorem could_node (hA : AccG N E) {e : Ed} (he : e ∈ E) (ho : hasP (nth N e.t.toNat).k = true) {l : List Sm} (h : SumsOf N E ⟨e.t, e.p⟩ ⟨e.t, -1⟩ l) {t : Tm} (ht : applyE (innP (nth N e.t.toNat)) t = 0) : coverB kinT (chainO kinT (madeL l t)) (applyT (innP (nth N e.t.toNat)) t) = true := by
  obtain ⟨_, ⟨h4, h5, h6⟩, h7⟩ := edge_is (hA.edge he)
  have ha : isP N ⟨e.t, e.p⟩ = true := by
    unfold isP
    simp only [Bool.and_eq_true, decide_eq_true_eq]
    exact ⟨⟨h4, h5⟩, h6⟩
  have hx : (⟨⟨e.t, e.p⟩, ⟨e.t, -1⟩, innP (nth N e.t.toNat)⟩ : Stp) ∈ stepsG N E := by
    refine mem_stepsG.2 ⟨ha, ?_⟩
    show _ ∈ stepsAt N E ⟨e.t, e.p⟩
    unfold stepsAt
    rw [if_neg h7, if_pos (isP_o.2 ⟨h4, h5, ho⟩)]
    exact List.mem_singleton.2 rfl
  have hi := (step_is hA hx).2.1
  have h2 := same_then hi.1
  have hf : (innP (nth N e.t.toNat)).f = depP N ⟨e.t, e.p⟩ := hi.2.1
  rw [hf] at h2
  have hw : Way (stepsG N E) ⟨e.t, e.p⟩ (sameS (depP N ⟨e.t, e.p⟩)) ⟨e.t, -1⟩ (innP (nth N e.t.toNat)) := by
    have q := Way.more (S := stepsG N E) (a := ⟨e.t, e.p⟩) (s0 := sameS (depP N ⟨e.t, e.p⟩)) ⟨⟨e.t, e.p⟩, ⟨e.t, -1⟩, innP (nth N e.t.toNat)⟩ _ .none hx h2.1
    rw [h2.2] at q
    exact q
  obtain ⟨z, hz, hlz⟩ := (cover_iff kinS _ _).1 ((h.1 ha).cov _ hw)
  exact could_cov hz hlz ht (leB_refl (apply_may ht))
/-- Two rows of changes. -/
theorem front_both (sm : Lc → List Sm) (cs : List Ch) (k : Nat) : chainO kinT (chainO kinT (frontL sm (cs.take k)) ++ chainO kinT (frontL sm (cs.drop k))) = chainO kinT (frontL sm cs) := by
  rw [chainO_union]
  congr 1
  unfold frontL
  rw [← List.flatMap_append, List.take_append_drop]
theorem front_none (sm : Lc → List Sm) (cs : List Ch) (h : ∀ c ∈ cs, c.n ≤ 0) : frontL sm cs = [] := by
  unfold frontL
  rw [List.flatMap_eq_nil_iff]
  intro c hc
  have := h c hc
  rw [if_neg (by omega)]
/-- Sums are a chain. -/
theorem sums_chain (hA : AccG N E) {a b : Lc} {l : List Sm} (h : SumsOf N E a b l) : chainO kinS l = l := by
  cases ha : isP N a
  · rw [h.2 ha]; exact chainO_nil kinS
  · exact Front.chain (fun s hs => (way_dep hA ha hs).2.1) (h.1 ha)
theorem sums_self {a : Lc} {l : List Sm} (h : SumsOf N E a a l) (ha : isP N a = true) : 1 ≤ l.length := by
  obtain ⟨z, hz, _⟩ := (cover_iff kinS _ _).1 ((h.1 ha).cov _ .none)
  exact List.length_pos_of_mem hz
theorem way_ends {S : List Stp} {a b : Lc} {s0 s : Sm} (h : Way S a s0 b s) : b = a ∨ (∃ x ∈ S, x.a = a) ∧ ∃ x ∈ S, x.b = b := by
  induction h with
  | none => exact .inl rfl
  | more x s hw hx he ih =>
    rcases ih with e | ⟨h1, _⟩
    · exact .inr ⟨⟨x, hx, e⟩, x, hx, rfl⟩
    · exact .inr ⟨h1, x, hx, rfl⟩
/-- Nothing comes of a Capture's input, nothing comes to an Input's output, but there. -/
theorem sums_end (hA : AccG N E) {a b : Lc} {l : List Sm} (h : SumsOf N E a b l) (hne : a ≠ b) (he : (isP N a = true ∧ (nth N a.n.toNat).k = 11) ∨ (isP N b = true ∧ (nth N b.n.toNat).k = 1)) : l = [] := by
  cases l with
  | nil => rfl
  | cons s l =>
    exfalso
    have ha : isP N a = true := by
      cases hp : isP N a
      · have := h.2 hp; cases this
      · rfl
    rcases way_ends ((h.1 ha).all s (by simp)) with e | ⟨⟨x, hx, ex⟩, y, hy, ey⟩
    · exact hne e.symm
    · rcases he with ⟨_, hk⟩ | ⟨hb, hk⟩
      · have h1 := (mem_stepsG.1 hx).2
        rw [ex] at h1
        unfold stepsAt at h1
        by_cases hp : a.p = -1
        · have h2 := ha
          have e2 : a = ⟨a.n, -1⟩ := Lc.ext' rfl hp
          rw [e2] at h2
          have h3 := (isP_o.1 h2).2.2
          rw [hk] at h3
          cases h3
        · rw [if_neg hp] at h1
          split at h1
          · rename_i h2
            have h3 := (isP_o.1 h2).2.2
            rw [hk] at h3
            cases h3
          · cases h1
      · rw [← stepsR_iff hA] at hy
        unfold stepsR stepsM at hy
        simp only [List.mem_append, List.mem_flatMap, List.mem_range, mem_stepsO, List.mem_map] at hy
        rcases hy with ⟨i, hi, h1, h2, h3, h4, h5, h6⟩ | ⟨e, hee, rfl⟩
        · rw [ey] at h5
          have hn : b.n.toNat = i := by rw [h5]; simp
          rw [← hn, hk] at h4
          simp [insP] at h4
          omega
        · obtain ⟨_, ⟨h4, h5, h6⟩, h7⟩ := edge_is (hA.edge hee)
          have e1 : e.t = b.n := by rw [← ey]; rfl
          rw [e1, hk] at h6
          unfold portB at h6
          rw [if_neg h7] at h6
          simp [insP] at h6
          omega
end
end Go.Proofs.YtehianjfpmbfpaaGreat
