/-
  How what ways do is gathered, as plain data: rows of summaries to which more are added one by one; what was not covered; what stands when nothing new comes, and why it ends. No program is named here.
-/
import Derived.Test.YtehianjfpmbfpaaGreatQGr
namespace Go.Proofs.YtehianjfpmbfpaaGreat
set_option linter.unusedVariables false
set_option linter.unusedSimpArgs false

/-- A row with one more, if that is not covered. -/
def isNew (l : List Sm) (s : Sm) : Bool := mayS s && !coverB kinS l s
def add1 (l : List Sm) (s : Sm) : List Sm := if isNew l s = true then chainO kinS (l ++ [s]) else l
def addL (l r : List Sm) : List Sm := r.foldl add1 l
def freshL (l : List Sm) : List Sm → List Sm
  | [] => []
  | s :: r => if isNew l s = true then s :: freshL (add1 l s) r else freshL (add1 l s) r
theorem addL_nil (l : List Sm) : addL l [] = l := rfl
theorem addL_cons (l r : List Sm) (s : Sm) : addL l (s :: r) = addL (add1 l s) r := by unfold addL; rw [List.foldl_cons]
theorem addL_step (l r : List Sm) (k : Nat) (h : k < r.length) : addL l (r.take (k + 1)) = add1 (addL l (r.take k)) r[k] := by
  unfold addL
  rw [← List.take_append_getElem h, List.foldl_append]
  rfl
theorem freshL_app (l r : List Sm) (s : Sm) : freshL l (r ++ [s]) = freshL l r ++ if isNew (addL l r) s = true then [s] else [] := by
  induction r generalizing l with
  | nil =>
    by_cases h : isNew l s = true <;> simp [freshL, addL, h]
  | cons x r ih =>
    rw [List.cons_append]
    unfold freshL
    rw [ih, addL_cons]
    split <;> simp
theorem freshL_step (l r : List Sm) (k : Nat) (h : k < r.length) : freshL l (r.take (k + 1)) = freshL l (r.take k) ++ if isNew (addL l (r.take k)) r[k] = true then [r[k]] else [] := by
  rw [← List.take_append_getElem h, freshL_app]
/-- A row is a chain. -/
def IsCh (l : List Sm) : Prop := l = chainO kinS l
theorem IsCh.is {l : List Sm} (h : IsCh l) : IsChain kinS l l := by
  have := chainO_is kinS l
  rw [← h] at this
  exact this
theorem isCh_nil : IsCh [] := (chainO_nil kinS).symm
theorem isCh_chain (l : List Sm) : IsCh (chainO kinS l) := (chainO_again kinS l).symm
theorem add1_ch {l : List Sm} {s : Sm} (h : IsCh l) : IsCh (add1 l s) := by
  unfold add1
  split
  · exact isCh_chain _
  · exact h
theorem IsCh.may {l : List Sm} (h : IsCh l) {x : Sm} (hx : x ∈ l) : mayS x = true := (chain_mem kinS h.is hx).2
theorem leS_self {s : Sm} (h : mayS s = true) : leS s s = true := leS_refl h
theorem cov_iff (l : List Sm) (t : Sm) : coverB kinS l t = true ↔ ∃ x ∈ l, leS x t = true := cover_iff kinS l t
theorem leS_may2 {x t : Sm} (h : leS x t = true) : mayS x = true ∧ mayS t = true := by
  have := (leS_iff x t).1 h
  exact ⟨this.1, this.2.1⟩
theorem add1_cov {l : List Sm} {s t : Sm} (h : coverB kinS l t = true) : coverB kinS (add1 l s) t = true := by
  unfold add1
  split
  · rw [chainO_covers, cov_iff]
    obtain ⟨x, hx, hle⟩ := (cov_iff _ _).1 h
    exact ⟨x, List.mem_filter.2 ⟨List.mem_append.2 (.inl hx), (leS_may2 hle).1⟩, hle⟩
  · exact h
theorem add1_has {l : List Sm} {s : Sm} (hs : mayS s = true) : coverB kinS (add1 l s) s = true := by
  by_cases h : isNew l s = true
  · unfold add1
    rw [if_pos h, chainO_covers, cov_iff]
    exact ⟨s, List.mem_filter.2 ⟨List.mem_append.2 (.inr (by simp)), hs⟩, leS_self hs⟩
  · unfold add1
    rw [if_neg h]
    unfold isNew at h
    rw [hs] at h
    simpa using h
theorem add1_mem {l : List Sm} {s x : Sm} (h : x ∈ add1 l s) : x ∈ l ∨ isNew l s = true ∧ x = s := by
  unfold add1 at h
  split at h
  · rename_i hn
    have := (chain_mem kinS (chainO_is kinS _) h).1
    rcases List.mem_append.1 this with h1 | h1
    · exact .inl h1
    · exact .inr ⟨hn, List.mem_singleton.1 h1⟩
  · exact .inl h
theorem addL_ch : ∀ {r l : List Sm}, IsCh l → IsCh (addL l r)
  | [], l, h => h
  | s :: r, l, h => addL_ch (r := r) (add1_ch h)
theorem addL_cov : ∀ {r l : List Sm} {t : Sm}, coverB kinS l t = true → coverB kinS (addL l r) t = true
  | [], l, t, h => h
  | s :: r, l, t, h => addL_cov (r := r) (add1_cov h)
theorem addL_has : ∀ {r l : List Sm} {s : Sm}, s ∈ r → mayS s = true → coverB kinS (addL l r) s = true
  | x :: r, l, s, h, hs => by
    rcases List.mem_cons.1 h with rfl | h
    · exact addL_cov (r := r) (add1_has hs)
    · exact addL_has (r := r) h hs
theorem addL_mem : ∀ {r l : List Sm} {x : Sm}, x ∈ addL l r → x ∈ l ∨ x ∈ freshL l r
  | [], l, x, h => .inl h
  | s :: r, l, x, h => by
    unfold freshL
    rcases addL_mem (r := r) h with h1 | h1
    · rcases add1_mem h1 with h2 | ⟨h2, h3⟩
      · exact .inl h2
      · rw [if_pos h2]
        exact .inr (List.mem_cons.2 (.inl h3))
    · refine .inr ?_
      split
      · exact List.mem_cons.2 (.inr h1)
      · exact h1
theorem freshL_sub : ∀ {r l : List Sm} {x : Sm}, x ∈ freshL l r → x ∈ r ∧ mayS x = true ∧ coverB kinS l x = false
  | s :: r, l, x, h => by
    unfold freshL at h
    by_cases hn : isNew l s = true
    · rw [if_pos hn] at h
      rcases List.mem_cons.1 h with rfl | h
      · unfold isNew at hn
        simp at hn
        exact ⟨by simp, hn.1, by simpa using hn.2⟩
      · obtain ⟨h1, h2, h3⟩ := freshL_sub (r := r) h
        refine ⟨List.mem_cons.2 (.inr h1), h2, ?_⟩
        cases hc : coverB kinS l x
        · rfl
        · rw [add1_cov hc] at h3; cases h3
    · rw [if_neg hn] at h
      obtain ⟨h1, h2, h3⟩ := freshL_sub (r := r) h
      refine ⟨List.mem_cons.2 (.inr h1), h2, ?_⟩
      cases hc : coverB kinS l x
      · rfl
      · rw [add1_cov hc] at h3; cases h3
theorem freshL_nodup : ∀ {r l : List Sm}, (freshL l r).Nodup
  | [], l => List.nodup_nil
  | s :: r, l => by
    unfold freshL
    by_cases hn : isNew l s = true
    · rw [if_pos hn]
      refine List.nodup_cons.2 ⟨fun h => ?_, freshL_nodup (r := r)⟩
      obtain ⟨_, h2, h3⟩ := freshL_sub h
      rw [add1_has h2] at h3
      cases h3
    · rw [if_neg hn]
      exact freshL_nodup (r := r)
theorem freshL_none {l r : List Sm} (h : freshL l r = []) : addL l r = l := by
  induction r generalizing l with
  | nil => rfl
  | cons s r ih =>
    unfold freshL at h
    by_cases hn : isNew l s = true
    · rw [if_pos hn] at h; cases h
    · rw [if_neg hn] at h
      have e : add1 l s = l := by unfold add1; rw [if_neg hn]
      rw [addL_cons, e]
      rw [e] at h
      exact ih h

/-! How many there may be. -/
def BIG : Nat := 4012012004
theorem BIG_eq : BIG = 4012012004 := rfl
def codeS (s : Sm) : Nat := ((s.k.toNat * 1001 + s.x.toNat) * 1001 + s.y.toNat) * 1001 + s.z.toNat
theorem mayS_low {s : Sm} (h : mayS s = true) : (0 ≤ s.k ∧ s.k ≤ 3) ∧ (0 ≤ s.x ∧ s.x ≤ 1000) ∧ (0 ≤ s.y ∧ s.y ≤ 1000) ∧ (0 ≤ s.z ∧ s.z ≤ 1000) := by
  obtain ⟨⟨h1, h2, h3, h4⟩, ⟨h5, h6, h7⟩, _, ⟨hx, hx1, hx2⟩, ⟨hy, hy1, hy2⟩, ⟨hz, hz1, hz2⟩⟩ := (mayS_iff s).1 h
  refine ⟨⟨h5, by omega⟩, ⟨hx, ?_⟩, ⟨hy, ?_⟩, ⟨hz, ?_⟩⟩
  · by_cases h : 0 < s.t
    · exact hx1 h
    · have := hx2 (by omega); omega
  · by_cases h : 1 < s.t
    · exact hy1 h
    · have := hy2 (by omega); omega
  · by_cases h : 2 < s.t
    · exact hz1 h
    · have := hz2 (by omega); omega
theorem codeS_lt {s : Sm} (h : mayS s = true) : codeS s < BIG := by
  obtain ⟨⟨h1, h2⟩, ⟨h3, h4⟩, ⟨h5, h6⟩, h7, h8⟩ := mayS_low h
  unfold codeS
  rw [BIG_eq]
  omega
theorem codeS_inj {s r : Sm} (m1 : mayS s = true) (m2 : mayS r = true) (hf : s.f = r.f) (ht : s.t = r.t) (he : s.ep = r.ep) (h : codeS s = codeS r) : s = r := by
  obtain ⟨⟨a1, a2⟩, ⟨a3, a4⟩, ⟨a5, a6⟩, a7, a8⟩ := mayS_low m1
  obtain ⟨⟨b1, b2⟩, ⟨b3, b4⟩, ⟨b5, b6⟩, b7, b8⟩ := mayS_low m2
  unfold codeS at h
  have hz : s.z.toNat = r.z.toNat := by omega
  have hy : s.y.toNat = r.y.toNat := by omega
  have hx : s.x.toNat = r.x.toNat := by omega
  have hk : s.k.toNat = r.k.toNat := by omega
  exact sm_eq hf ht (by omega) he (by omega) (by omega) (by omega)
/-- They are of the kind of ways between two places. -/
def Like (f t : Int) (s : Sm) : Prop := mayS s = true ∧ s.f = f ∧ s.t = t ∧ s.ep = 0
theorem like_len {f t : Int} {l : List Sm} (hn : l.Nodup) (h : ∀ s ∈ l, Like f t s) : l.length ≤ BIG := by
  have h1 : (l.map codeS).Nodup := by
    unfold List.Nodup at hn ⊢
    rw [List.pairwise_map]
    refine List.Pairwise.imp_of_mem ?_ hn
    intro a b ha hb hne e
    obtain ⟨m1, f1, t1, e1⟩ := h a ha
    obtain ⟨m2, f2, t2, e2⟩ := h b hb
    exact hne (codeS_inj m1 m2 (f1.trans f2.symm) (t1.trans t2.symm) (e1.trans e2.symm) e)
  have := nodup_le BIG (l.map codeS) h1 (fun v hv => by
    obtain ⟨s, hs, rfl⟩ := List.mem_map.1 hv
    exact codeS_lt (h s hs).1)
  simpa using this
theorem rises_nodup {l : List Sm} (h : Rises kinS l) : l.Nodup := by
  unfold List.Nodup
  refine List.Pairwise.imp ?_ h
  intro a b hab e
  subst e
  have := Kin.oself kinS a
  omega
theorem IsCh.nodup {l : List Sm} (h : IsCh l) : l.Nodup := rises_nodup h.is.1

/-! What is not covered yet. -/
/-- Number c, of these depths. -/
def sumC (f t : Int) (c : Nat) : Sm := ⟨f, t, ((c / 1003003001 : Nat) : Int), 0, ((c / 1002001 % 1001 : Nat) : Int), ((c / 1001 % 1001 : Nat) : Int), ((c % 1001 : Nat) : Int)⟩
theorem sumC_code {f t : Int} {s : Sm} (h : Like f t s) : sumC f t (codeS s) = s := by
  obtain ⟨hm, rfl, rfl, he⟩ := h
  obtain ⟨⟨a1, a2⟩, ⟨a3, a4⟩, ⟨a5, a6⟩, a7, a8⟩ := mayS_low hm
  have e1 : codeS s / 1003003001 = s.k.toNat := by unfold codeS; omega
  have e2 : codeS s / 1002001 % 1001 = s.x.toNat := by unfold codeS; omega
  have e3 : codeS s / 1001 % 1001 = s.y.toNat := by unfold codeS; omega
  have e4 : codeS s % 1001 = s.z.toNat := by unfold codeS; omega
  unfold sumC
  rw [e1, e2, e3, e4]
  exact sm_eq rfl rfl (by simp; omega) he.symm (by simp; omega) (by simp; omega) (by simp; omega)
def leftC (f t : Int) (l : List Sm) : Nat := (List.range BIG).countP fun c => !coverB kinS l (sumC f t c)
theorem countP_le {α : Type} {p q : α → Bool} : ∀ {l : List α}, (∀ x ∈ l, p x = true → q x = true) → l.countP p ≤ l.countP q
  | [], _ => by simp
  | x :: l, h => by
    have ih := countP_le (l := l) fun y hy => h y (List.mem_cons.2 (.inr hy))
    have hx := h x (by simp)
    rw [List.countP_cons, List.countP_cons]
    cases hp : p x
    · simp; omega
    · rw [hx hp]; simp; omega
theorem countP_lt {α : Type} {p q : α → Bool} : ∀ {l : List α}, (∀ x ∈ l, p x = true → q x = true) → (∃ x ∈ l, p x = false ∧ q x = true) → l.countP p < l.countP q
  | [], _, h => by obtain ⟨x, hx, _⟩ := h; cases hx
  | x :: l, h, ⟨y, hy, h1, h2⟩ => by
    have h' : ∀ z ∈ l, p z = true → q z = true := fun z hz => h z (List.mem_cons.2 (.inr hz))
    rw [List.countP_cons, List.countP_cons]
    rcases List.mem_cons.1 hy with rfl | hy
    · have := countP_le h'
      rw [h1, h2]; simp; omega
    · have := countP_lt h' ⟨y, hy, h1, h2⟩
      have hx := h x (by simp)
      cases hp : p x
      · simp; omega
      · rw [hx hp]; simp; omega
theorem leftC_le {f t : Int} {l m : List Sm} (h : ∀ s, coverB kinS l s = true → coverB kinS m s = true) : leftC f t m ≤ leftC f t l := by
  refine countP_le fun c _ hc => ?_
  cases hl : coverB kinS l (sumC f t c)
  · rfl
  · rw [h _ hl] at hc; cases hc
theorem leftC_lt {f t : Int} {l m : List Sm} {s : Sm} (hs : Like f t s) (h : ∀ s, coverB kinS l s = true → coverB kinS m s = true) (h1 : coverB kinS l s = false) (h2 : coverB kinS m s = true) : leftC f t m < leftC f t l := by
  refine countP_lt (fun c _ hc => ?_) ⟨codeS s, List.mem_range.2 (codeS_lt hs.1), ?_, ?_⟩
  · cases hl : coverB kinS l (sumC f t c)
    · rfl
    · rw [h _ hl] at hc; cases hc
  · rw [sumC_code hs, h2]; rfl
  · rw [sumC_code hs, h1]; rfl
/-- A sum over places. -/
def sumP (P : List Lc) (u : Lc → Nat) : Nat := (P.map u).sum
theorem sumP_cons (x : Lc) (P : List Lc) (u : Lc → Nat) : sumP (x :: P) u = u x + sumP P u := by simp [sumP]
theorem sumP_le {u v : Lc → Nat} : ∀ {P : List Lc}, (∀ x ∈ P, u x ≤ v x) → sumP P u ≤ sumP P v
  | [], _ => Nat.le_refl _
  | x :: P, h => by
    rw [sumP_cons, sumP_cons]
    have := h x (by simp)
    have := sumP_le (P := P) fun y hy => h y (List.mem_cons.2 (.inr hy))
    omega
theorem sumP_lt {u v : Lc → Nat} : ∀ {P : List Lc} (k : Nat), (∀ x ∈ P, u x ≤ v x) → (∃ x ∈ P, u x + k ≤ v x) → sumP P u + k ≤ sumP P v
  | [], _, _, h => by obtain ⟨x, hx, _⟩ := h; cases hx
  | x :: P, k, h, ⟨y, hy, h1⟩ => by
    have h' : ∀ z ∈ P, u z ≤ v z := fun z hz => h z (List.mem_cons.2 (.inr hz))
    have hx := h x (by simp)
    rw [sumP_cons, sumP_cons]
    rcases List.mem_cons.1 hy with rfl | hy
    · have := sumP_le h'; omega
    · have := sumP_lt k h' ⟨y, hy, h1⟩; omega
/-- How much is not covered, over all places. -/
def leftP (P : List Lc) (f : Int) (dep : Lc → Int) (L : Lc → List Sm) : Nat := sumP P fun b => leftC f (dep b) (L b)

/-! What stands on the way. -/
section
variable {S : List Stp} {a : Lc} {s0 : Sm}
/-- Rows of ways, each a chain. -/
structure Part (S : List Stp) (a : Lc) (s0 : Sm) (L : Lc → List Sm) : Prop where
  way : ∀ b, ∀ s ∈ L b, Way S a s0 b s
  ch : ∀ b, IsCh (L b)
theorem part_nil : Part S a s0 fun _ => [] := ⟨fun b s hs => (by cases hs), fun b => isCh_nil⟩
theorem Part.addL {L R : Lc → List Sm} (h : Part S a s0 L) (hR : ∀ b, ∀ s ∈ R b, Way S a s0 b s) : Part S a s0 fun b => addL (L b) (R b) :=
  ⟨fun b s hs => by
    rcases addL_mem hs with h1 | h1
    · exact h.way b s h1
    · exact hR b s (freshL_sub h1).1, fun b => addL_ch (h.ch b)⟩
/-- What is still to be added: R. -/
structure Pend (S : List Stp) (a : Lc) (s0 : Sm) (L R : Lc → List Sm) : Prop where
  part : Part S a s0 L
  way : ∀ b, ∀ s ∈ R b, Way S a s0 b s
  first : coverB kinS (L a) s0 = true ∨ s0 ∈ R a
  next : ∀ x ∈ S, ∀ s ∈ L x.a, thenE s x.r = 0 → coverB kinS (L x.b) (thenS s x.r) = true ∨ thenS s x.r ∈ R x.b
theorem pend_start : Pend S a s0 (fun _ => []) fun b => if b = a then [s0] else [] where
  part := part_nil
  way b s hs := by
    split at hs
    · rename_i e
      rw [List.mem_singleton.1 hs, e]
      exact .none
    · cases hs
  first := .inr (by simp)
  next x hx s hs := by cases hs
/-- One round: what is new, lengthened by a step. -/
theorem Pend.round {L R R' : Lc → List Sm} (h0 : mayS s0 = true) (h : Pend S a s0 L R)
    (hR' : ∀ b s, s ∈ R' b ↔ ∃ x ∈ S, x.b = b ∧ ∃ r ∈ freshL (L x.a) (R x.a), thenE r x.r = 0 ∧ s = thenS r x.r) : Pend S a s0 (fun b => Go.Proofs.YtehianjfpmbfpaaGreat.addL (L b) (R b)) R' where
  part := h.part.addL h.way
  way b s hs := by
    obtain ⟨x, hx, rfl, r, hr, he, rfl⟩ := (hR' b s).1 hs
    exact .more x r (h.way _ _ (freshL_sub hr).1) hx he
  first := by
    rcases h.first with h1 | h1
    · exact .inl (addL_cov h1)
    · exact .inl (addL_has h1 h0)
  next x hx s hs he := by
    rcases addL_mem hs with h1 | h1
    · rcases h.next x hx s h1 he with h2 | h2
      · exact .inl (addL_cov h2)
      · refine .inl (addL_has h2 ?_)
        obtain ⟨_, m, e⟩ := thenE_ok he
        rw [e]; exact m
    · exact .inr ((hR' _ _).2 ⟨x, hx, rfl, s, h1, he, rfl⟩)
/-- At the end each row is the front of its place. -/
theorem Pend.done {L R : Lc → List Sm} (h : Pend S a s0 L R) (hR : ∀ b, R b = []) (b : Lc) : Front (Way S a s0 b) (L b) := by
  refine front_of ((h.part.ch b).is) (fun x hx _ => h.part.way b x hx) (fun s hs => closed_covers L ?_ ?_ hs)
  · rcases h.first with h1 | h1
    · exact h1
    · rw [hR] at h1; cases h1
  · intro x hx s hs he
    rcases h.next x hx s hs he with h1 | h1
    · exact h1
    · rw [hR] at h1; cases h1
end

/-! Of a graph. -/
theorem way_dep {N : List Nd} {E : List Ed} (h : AccG N E) {a b : Lc} {s : Sm} (ha : isP N a = true) (hw : Way (stepsG N E) a (sameS (depP N a)) b s) : isP N b = true ∧ Like (depP N a) (depP N b) s := by
  have hd : depthB (depP N a) = true := by
    obtain ⟨h1, h2⟩ : 0 ≤ a.n ∧ a.n < N.length := by
      unfold isP at ha
      simp only [Bool.and_eq_true, decide_eq_true_eq] at ha
      exact ha.1
    have hf : Fit (nth N a.n.toNat) := nodeB_fit (h.node (by omega))
    unfold depP
    rw [if_pos ha, depB_iff]
    split
    · exact ⟨hf.lo, hf.hi⟩
    · exact hf.ins
  obtain ⟨m1, m2, m3⟩ := may_same hd
  have he : (sameS (depP N a)).ep = 0 := by unfold sameS; rw [if_pos hd]
  induction hw with
  | none => exact ⟨ha, m1, m2, m3, he⟩
  | more x s hw hx hok ih =>
    obtain ⟨_, i1, i2, i3, i4⟩ := ih
    obtain ⟨⟨_, q1⟩, ⟨q2, q3, q4⟩, q5⟩ := step_is h hx
    obtain ⟨_, m, e⟩ := thenE_ok hok
    refine ⟨q1, ?_⟩
    rw [e]
    refine ⟨m, i2, q4, ?_⟩
    show s.ep + x.r.ep = 0
    rw [i4, q5.ep]; rfl
theorem front_like {N : List Nd} {E : List Ed} (h : AccG N E) {a b : Lc} (ha : isP N a = true) {l : List Sm} (hl : ∀ s ∈ l, Way (stepsG N E) a (sameS (depP N a)) b s) : ∀ s ∈ l, Like (depP N a) (depP N b) s := fun s hs => (way_dep h ha (hl s hs)).2
/-- What the program, and the document, tell of two places. -/
def SumsOf (N : List Nd) (E : List Ed) (a b : Lc) (l : List Sm) : Prop :=
  (isP N a = true → Front (Way (stepsG N E) a (sameS (depP N a)) b) l) ∧ (isP N a = false → l = [])
theorem sumsOf_unique {N : List Nd} {E : List Ed} (h : AccG N E) {a b : Lc} {l m : List Sm} (h1 : SumsOf N E a b l) (h2 : SumsOf N E a b m) : l = m := by
  cases ha : isP N a
  · rw [h1.2 ha, h2.2 ha]
  · exact front_unique (fun s hs => (way_dep h ha hs).2.1) (h1.1 ha) (h2.1 ha)
theorem sumsOf_len {N : List Nd} {E : List Ed} (h : AccG N E) {a b : Lc} {l : List Sm} (h1 : SumsOf N E a b l) : l.length ≤ BIG := by
  cases ha : isP N a
  · rw [h1.2 ha]; simp
  · exact like_len (rises_nodup (h1.1 ha).up) (front_like h ha (h1.1 ha).all)
theorem sumsOf_none {N : List Nd} {E : List Ed} (h : AccG N E) {a b : Lc} {l : List Sm} (h1 : SumsOf N E a b l) (hb : isP N b = false) : l = [] := by
  cases ha : isP N a
  · exact h1.2 ha
  · cases l with
    | nil => rfl
    | cons s l =>
      have := (way_dep h ha ((h1.1 ha).all s (by simp))).1
      rw [hb] at this; cases this
theorem sumsOf_empty {N : List Nd} {E : List Ed} (h : AccG N E) {a b : Lc} (hn : isP N a = false ∨ isP N b = false) : SumsOf N E a b [] := by
  refine ⟨fun ha => ?_, fun _ => rfl⟩
  have hb : isP N b = false := by
    rcases hn with h1 | h1
    · rw [ha] at h1; cases h1
    · exact h1
  refine ⟨List.Pairwise.nil, fun x hx => (by cases hx), fun x hx => (by cases hx), fun s hs => ?_⟩
  have := (way_dep h ha hs).1
  rw [hb] at this; cases this
/-- How many steps there are. -/
theorem steps_few (N : List Nd) (E : List Ed) (m : Nat) : sumP (locsTo N m) (fun l => (stepsAt N E l).length) ≤ fromTo E m + 3 * m := by
  have happ : ∀ (A B : List Lc) (u : Lc → Nat), sumP (A ++ B) u = sumP A u + sumP B u := fun A B u => by simp [sumP]
  have hin : ∀ (i j : Nat), sumP (insTo i j) (fun l => (stepsAt N E l).length) ≤ j := fun i j => by
    induction j with
    | zero => simp [insTo, sumP]
    | succ j ih =>
      rw [insTo_step, happ]
      have : sumP [(⟨i, j⟩ : Lc)] (fun l => (stepsAt N E l).length) ≤ 1 := by
        simp only [sumP, List.map_cons, List.map_nil, List.sum_cons, List.sum_nil, Nat.add_zero]
        unfold stepsAt
        rw [if_neg (by show ¬ (j : Int) = -1; omega)]
        split <;> simp
      omega
  induction m with
  | zero => simp [locsTo, sumP, fromTo]
  | succ m ih =>
    rw [locsTo_step, happ]
    have e : sumP (locsOf m (nth N m).k) (fun l => (stepsAt N E l).length) ≤ (nextP E m).length + 2 := by
      unfold locsOf
      rw [happ]
      have h1 := hin m (insP (nth N m).k).toNat
      have h2 := insP_cases (nth N m).k
      have h3 : sumP (if hasP (nth N m).k = true then [(⟨m, -1⟩ : Lc)] else []) (fun l => (stepsAt N E l).length) ≤ (nextP E m).length := by
        split
        · simp only [sumP, List.map_cons, List.map_nil, List.sum_cons, List.sum_nil, Nat.add_zero]
          unfold stepsAt
          rw [if_pos rfl]
          simp
        · simp [sumP]
      omega
    unfold fromTo
    omega
theorem steps_few' {N : List Nd} {E : List Ed} (h : AccG N E) : sumP (locs N) (fun l => (stepsAt N E l).length) ≤ 60 := by
  have h1 := steps_few N E N.length
  have h2 := from_own E N.length
  have h3 := ownTo_le E N.length E.length
  have h4 := h.big
  unfold locs
  omega
end Go.Proofs.YtehianjfpmbfpaaGreat
