/-
  Maps from places to rows of summaries: those that only are read, or whose rows are replaced; those whose rows a call makes longer one by one, each row in a block of its own. No row of the one is a row of the other.
-/
import Derived.Test.YtehianjfpmbfpaaGreatQMp
import Derived.Test.YtehianjfpmbfpaaGreatQRow
import Derived.Test.YtehianjfpmbfpaaGreatQAl
namespace Go.Proofs.YtehianjfpmbfpaaGreat
set_option maxRecDepth 100000
open Go.RowKit Go.Maps Go.Deep
set_option linter.unusedVariables false
set_option linter.unusedSimpArgs false

/-! Blocks of one kind are none of another. -/
theorem cell_map {w : World} {b o : Nat} {v : Value} (h : w.cell? ⟨b, o, none⟩ = some v) {es : Array MapEntry} {c : Nat} (hb : w.heap[b]? = some (.map es c)) : False := by
  simp [World.cell?, hb] at h
theorem cell_turn {w w' : World} {b g o : Nat} {v : Value} (h : w.cell? ⟨b, o, none⟩ = some v) (hg : w.grownBy w' (some g)) (hne : b ≠ g) : w'.cell? ⟨b, o, none⟩ = some v := hg.cell h (by simpa using hne)
theorem cell_mapTurn {w w' : World} {b g o : Nat} {v : Value} (h : w.cell? ⟨b, o, none⟩ = some v) (hg : w.grownBy w' (some g)) {es : Array MapEntry} {c : Nat} (hm : w.heap[g]? = some (.map es c)) : w'.cell? ⟨b, o, none⟩ = some v :=
  cell_turn h hg fun e => by subst e; exact cell_map h hm
theorem RowM.turn {w w' : World} {b o g : Nat} {d : List Sm} (h : RowM w b o d) (hg : w.grownBy w' (some g)) (hne : b ≠ g) : RowM w' b o d := fun j v hj => cell_turn (h j v hj) hg hne
theorem RowM.mapTurn {w w' : World} {b o g : Nat} {d : List Sm} (h : RowM w b o d) (hg : w.grownBy w' (some g)) {es : Array MapEntry} {c : Nat} (hm : w.heap[g]? = some (.map es c)) : RowM w' b o d := fun j v hj => cell_mapTurn (h j v hj) hg hm
theorem IsSms.turn {w w' : World} {s : Option Addr} {n c g : Nat} {d : List Sm} (h : IsSms w s n c d) (hg : w.grownBy w' (some g)) (hne : ∀ a, s = some a → a.block ≠ g) : IsSms w' s n c d :=
  ⟨h.1, h.2.1, h.2.2.imp id fun ⟨b, o, e, r⟩ => ⟨b, o, e, r.turn hg (hne _ e)⟩⟩
theorem IsSms.mapTurn {w w' : World} {s : Option Addr} {n c g : Nat} {d : List Sm} (h : IsSms w s n c d) (hg : w.grownBy w' (some g)) {es : Array MapEntry} {cl : Nat} (hm : w.heap[g]? = some (.map es cl)) : IsSms w' s n c d :=
  ⟨h.1, h.2.1, h.2.2.imp id fun ⟨b, o, e, r⟩ => ⟨b, o, e, r.mapTurn hg hm⟩⟩
theorem IsSps.mapTurn {w w' : World} {s : Option Addr} {n c g : Nat} {d : List Sp} (h : IsSps w s n c d) (hg : w.grownBy w' (some g)) {es : Array MapEntry} {cl : Nat} (hm : w.heap[g]? = some (.map es cl)) : IsSps w' s n c d :=
  ⟨h.1, h.2.1, h.2.2.imp id fun ⟨b, o, e, r⟩ => ⟨b, o, e, fun j v hj => cell_mapTurn (r j v hj) hg hm⟩⟩
theorem OwnMV.blk {w : World} {base n c : Nat} {s : Option Addr} {d : List Sm} (h : OwnMV w base s n c d) {a : Addr} (ha : s = some a) : base ≤ a.block ∧ a.block < w.heap.size ∧ ∃ cs, w.heap[a.block]? = some (.cells cs 68 (0, 0)) := by
  obtain ⟨_, ⟨rfl, _⟩ | ⟨g, rfl, ho⟩⟩ := h
  · cases ha
  · cases ha
    obtain ⟨cur, hb, hg, _⟩ := ho.parts
    exact ⟨hb, (Array.getElem?_eq_some_iff.1 hg).1, cur, hg⟩
theorem OwnMV.turn {w w' : World} {base n c g : Nat} {s : Option Addr} {d : List Sm} (h : OwnMV w base s n c d) (hg : w.grownBy w' (some g)) (hne : ∀ a, s = some a → a.block ≠ g) : OwnMV w' base s n c d := by
  refine ⟨h.1, ?_⟩
  obtain ⟨_, h' | ⟨g', e, ho⟩⟩ := h
  · exact .inl h'
  · exact .inr ⟨g', e, ho.keep (hg.block g' ho.lt (by simpa using hne _ e))⟩
theorem OwnMV.mapTurn {w w' : World} {base n c g : Nat} {s : Option Addr} {d : List Sm} (h : OwnMV w base s n c d) (hg : w.grownBy w' (some g)) {es : Array MapEntry} {cl : Nat} (hm : w.heap[g]? = some (.map es cl)) : OwnMV w' base s n c d :=
  h.turn hg fun a ha e => by
    obtain ⟨_, _, cs, hc⟩ := h.blk ha
    rw [e, hm] at hc
    cases hc
/-- What append to a row of summaries turns: that row alone. -/
def RowTurn (w w' : World) (base : Nat) (s : Option Addr) : Prop := w.grownBy w' (s.map (·.block)) ∧ ∀ a, s = some a → base ≤ a.block ∧ ∃ cs, w.heap[a.block]? = some (.cells cs 68 (0, 0))
theorem RowTurn.keep {w w' : World} {base : Nat} {s : Option Addr} (h : RowTurn w w' base s) {k : Nat} {o : Obj} (hk : w.heap[k]? = some o) (hne : ∀ a cs, s = some a → o = .cells cs 68 (0, 0) → a.block ≠ k) : w'.heap[k]? = w.heap[k]? := by
  refine h.1.block k (Array.getElem?_eq_some_iff.1 hk).1 ?_
  cases s with
  | none => simp
  | some a =>
    obtain ⟨_, cs, hc⟩ := h.2 a rfl
    intro e
    simp at e
    refine hne a cs rfl ?_ e.symm
    rw [e] at hk
    rw [hk] at hc
    exact (Option.some.inj hc)
theorem RowTurn.keepMap {w w' : World} {base : Nat} {s : Option Addr} (h : RowTurn w w' base s) {k : Nat} {es : Array MapEntry} {cl : Nat} (hk : w.heap[k]? = some (.map es cl)) : w'.heap[k]? = w.heap[k]? := h.keep hk fun a cs _ e => by cases e
theorem RowTurn.grow {W w w' : World} {base : Nat} {s : Option Addr} (h : RowTurn w w' base s) (hg : Grow W w) (hb : W.heap.size ≤ base) : Grow W w' := by
  cases s with
  | none => exact Below.grown hg h.1 hg.size (fun k e => by cases e)
  | some a => exact Below.grown hg h.1 hg.size (fun k e => by cases e; exact Nat.le_trans hb (h.2 a rfl).1)
/-- A block of cells of this type. -/
def TyB (w : World) (b : Nat) (ty : TypeId) : Prop := ∃ cs r, w.heap[b]? = some (.cells cs ty r)
theorem TyB.later {w w' : World} {b : Nat} {ty : TypeId} (hg : Grow w w') (h : TyB w b ty) : TyB w' b ty := by
  obtain ⟨cs, r, h⟩ := h
  exact ⟨cs, r, (hg.block b (Array.getElem?_eq_some_iff.1 h).1).trans h⟩
theorem RowTurn.keepTy {w w' : World} {base b : Nat} {s : Option Addr} {ty : TypeId} (h : RowTurn w w' base s) (hb : TyB w b ty) (hne : ty ≠ 68) : w'.heap[b]? = w.heap[b]? := by
  obtain ⟨cs, r, hb⟩ := hb
  exact h.keep hb fun a cs' _ e => by cases e; exact absurd rfl hne
theorem mapTurn_keepTy {w w' : World} {b g : Nat} {ty : TypeId} (hg : w.grownBy w' (some g)) {es : Array MapEntry} {cl : Nat} (hm : w.heap[g]? = some (.map es cl)) (hb : TyB w b ty) : w'.heap[b]? = w.heap[b]? := by
  obtain ⟨cs, r, hb⟩ := hb
  refine hg.block b (Array.getElem?_eq_some_iff.1 hb).1 ?_
  intro e
  simp at e
  rw [e, hm] at hb
  cases hb
theorem boxP_keep {w w' : World} {b : Nat} {t : Sp} (h : BoxP w b t) (he : w'.heap[b]? = w.heap[b]?) : BoxP w' b t := by
  have k : ∀ o v, w.cell? ⟨b, o, none⟩ = some v → w'.cell? ⟨b, o, none⟩ = some v := fun o v hv => (World.cell?_of_block (a := ⟨b, o, none⟩) he).trans hv
  obtain ⟨h0, h1, h2, h3, h4, h5, h6, h7, h8⟩ := h
  exact ⟨k _ _ h0, k _ _ h1, k _ _ h2, k _ _ h3, k _ _ h4, k _ _ h5, k _ _ h6, k _ _ h7, k _ _ h8⟩
theorem boxL_keep {w w' : World} {b : Nat} {t : Lc} (h : BoxL w b t) (he : w'.heap[b]? = w.heap[b]?) : BoxL w' b t := by
  have k : ∀ o v, w.cell? ⟨b, o, none⟩ = some v → w'.cell? ⟨b, o, none⟩ = some v := fun o v hv => (World.cell?_of_block (a := ⟨b, o, none⟩) he).trans hv
  exact ⟨k _ _ h.1, k _ _ h.2⟩
theorem ranges_iter {w : World} {b r n : Nat} {D : DataW Value} {left : Lit → Bool} {cnt : Nat} (h : RangesL w b r n D left cnt) : (∃ es cl, w.heap[b]? = some (.map es cl)) ∧ ∃ m x y z, w.heap[r]? = some (.mapIter m x y z) := by
  obtain ⟨es, clock, since, seen, c0, hb, _, _, _, hr, _⟩ := h
  exact ⟨⟨es, clock, hb⟩, _, _, _, _, hr⟩
theorem RowTurn.ranges {w w' : World} {base : Nat} {s : Option Addr} (h : RowTurn w w' base s) {b r n : Nat} {D : DataW Value} {left : Lit → Bool} {cnt : Nat} (hR : RangesL w b r n D left cnt) : RangesL w' b r n D left cnt := by
  obtain ⟨⟨es, cl, hb⟩, m, x, y, z, hr⟩ := ranges_iter hR
  refine rangesL_kept hR h.1 ?_ ?_
  all_goals
    cases s with
    | none => simp
    | some a =>
      obtain ⟨_, cs, hc⟩ := h.2 a rfl
      intro e
      simp at e
      first
        | (rw [← e, hb] at hc; cases hc)
        | (rw [← e, hr] at hc; cases hc)
theorem mapTurn_ranges {w w' : World} {g : Nat} (hg : w.grownBy w' (some g)) {es : Array MapEntry} {cl : Nat} (hm : w.heap[g]? = some (.map es cl)) {b r n : Nat} {D : DataW Value} {left : Lit → Bool} {cnt : Nat} (hR : RangesL w b r n D left cnt) (hne : b ≠ g) : RangesL w' b r n D left cnt := by
  obtain ⟨_, m, x, y, z, hr⟩ := ranges_iter hR
  refine rangesL_kept hR hg (by simpa using hne) ?_
  intro e
  simp at e
  rw [e, hm] at hr
  cases hr

def updL (L : Lc → List Sm) (x : Lc) (l : List Sm) (y : Lc) : List Sm := if y = x then l else L y
theorem updL_same (L : Lc → List Sm) (x : Lc) (l : List Sm) : updL L x l x = l := by simp [updL]
theorem updL_other (L : Lc → List Sm) {x y : Lc} (l : List Sm) (h : y ≠ x) : updL L x l y = L y := by simp [updL, h]
theorem zeroSlice (w : World) : (zeroValue 33).run Tryz.prog w = .ok (.slice none 0 0) w := by kernel_rfl

/-! Rows that are read, or replaced. -/
structure InF (w : World) (b : Nat) (P : List Lc) (f : Lc → Option Value) (L : Lc → List Sm) : Prop where
  map : MapL w b P f
  row : ∀ x, (f x = none ∧ L x = []) ∨ ∃ s n c, f x = some (.slice s n c) ∧ IsSms w s n c (L x) ∧ ∀ a, s = some a → a.block < w.heap.size
/-- A row of the map lies in block g. -/
def NoOf (f : Lc → Option Value) (g : Nat) : Prop := ∃ x s n c a, f x = some (.slice s n c) ∧ s = some a ∧ a.block = g
theorem InF.later {w w' : World} {b : Nat} {P : List Lc} {f : Lc → Option Value} {L : Lc → List Sm} (hg : Grow w w') (h : InF w b P f L) : InF w' b P f L :=
  ⟨h.map.later hg, fun x => (h.row x).imp id fun ⟨s, n, c, e, hI, ha⟩ => ⟨s, n, c, e, hI.later hg, fun a q => Nat.lt_of_lt_of_le (ha a q) hg.size⟩⟩
theorem InF.rowTurn {w w' : World} {b base : Nat} {P : List Lc} {f : Lc → Option Value} {L : Lc → List Sm} {s0 : Option Addr} (h : InF w b P f L) (ht : RowTurn w w' base s0) (hn : ∀ a, s0 = some a → ¬ NoOf f a.block) : InF w' b P f L := by
  obtain ⟨es, cl, hb⟩ := h.map.isMap
  refine ⟨h.map.keep (ht.keepMap hb), fun x => (h.row x).imp id fun ⟨s, n, c, e, hI, ha⟩ => ⟨s, n, c, e, ?_, fun a q => Nat.lt_of_lt_of_le (ha a q) ht.1.size⟩⟩
  cases s0 with
  | none => exact hI.later ⟨ht.1.os, ht.1.tape, ht.1.output, ht.1.size, fun k hk => ht.1.block k hk (by simp)⟩
  | some a0 => exact hI.turn ht.1 fun a q r => hn a0 rfl ⟨x, s, n, c, a, e, q, r⟩
theorem InF.mapTurn {w w' : World} {b g : Nat} {P : List Lc} {f : Lc → Option Value} {L : Lc → List Sm} (h : InF w b P f L) (hg : w.grownBy w' (some g)) {es : Array MapEntry} {cl : Nat} (hm : w.heap[g]? = some (.map es cl)) (hne : b ≠ g) : InF w' b P f L :=
  ⟨h.map.keep (hg.block b h.map.lt (by simpa using hne)), fun x => (h.row x).imp id fun ⟨s, n, c, e, hI, ha⟩ => ⟨s, n, c, e, hI.mapTurn hg hm, fun a q => Nat.lt_of_lt_of_le (ha a q) hg.size⟩⟩
theorem InF.iterTurn {w w' : World} {b r : Nat} {P : List Lc} {f : Lc → Option Value} {L : Lc → List Sm} (h : InF w b P f L) (hg : w.grownBy w' (some r)) (hm : ∃ m x y z, w.heap[r]? = some (.mapIter m x y z)) : InF w' b P f L := by
  obtain ⟨m, x0, y0, z0, hm⟩ := hm
  obtain ⟨es, cl, hb⟩ := h.map.isMap
  refine ⟨h.map.keep (hg.block b h.map.lt fun e => ?_), fun x => (h.row x).imp id fun ⟨s, n, c, e, hI, ha⟩ => ⟨s, n, c, e, ⟨hI.1, hI.2.1, hI.2.2.imp id fun ⟨b', o, e', hr⟩ => ⟨b', o, e', fun j v hj => ?_⟩⟩, fun a q => Nat.lt_of_lt_of_le (ha a q) hg.size⟩⟩
  · simp at e
    rw [e, hm] at hb
    cases hb
  · refine cell_turn (hr j v hj) hg fun q => ?_
    have h2 := hr j v hj
    rw [q] at h2
    simp [World.cell?, hm] at h2
theorem InF.get {w : World} {b : Nat} {P : List Lc} {f : Lc → Option Value} {L : Lc → List Sm} {t : TypeId} (h : InF w b P f L) (ht : Tryz.prog.underlying t = some (.map 27 33)) {x : Lc} (hx : LcWf x) :
    ∃ s n c, (Instr.lookup t (.map (some b)) (.agg #[.int .i64 x.n, .int .i64 x.p]) false).run Tryz.prog w = .ok (.slice s n c) w ∧ IsSms w s n c (L x) := by
  have h1 := h.map.get ht (zeroSlice w) hx
  unfold vL at h1
  rcases h.row x with ⟨e, e2⟩ | ⟨s, n, c, e, hI, _⟩
  · rw [e] at h1
    exact ⟨none, 0, 0, h1, by rw [e2]; exact ⟨rfl, Nat.le_refl _, .inl rfl⟩⟩
  · rw [e] at h1
    exact ⟨s, n, c, h1, hI⟩
theorem InF.set {w : World} {b : Nat} {P : List Lc} {f : Lc → Option Value} {L : Lc → List Sm} {t : TypeId} (h : InF w b P f L) (ht : Tryz.prog.underlying t = some (.map 27 33)) (hP : P.length < 1000000000) {x : Lc} (hx : x ∈ P)
    {s : Option Addr} {n c : Nat} {l : List Sm} (hI : IsSms w s n c l) (ha : ∀ a, s = some a → a.block < w.heap.size) :
    ∃ w', (Instr.mapUpdate t (.map (some b)) (.agg #[.int .i64 x.n, .int .i64 x.p]) (.slice s n c)).run Tryz.prog w = .ok () w' ∧ InF w' b P (putV f x (.slice s n c)) (updL L x l) ∧ w.grownBy w' (some b) := by
  obtain ⟨w', h1, h2, h3⟩ := h.map.set ht hP hx (.slice s n c)
  obtain ⟨es, cl, hb⟩ := h.map.isMap
  refine ⟨w', h1, ⟨h2, fun y => ?_⟩, h3⟩
  by_cases e : y = x
  · subst e
    rw [putV_same, updL_same]
    exact .inr ⟨s, n, c, rfl, hI.mapTurn h3 hb, fun a q => Nat.lt_of_lt_of_le (ha a q) h3.size⟩
  · rw [putV_other f _ e, updL_other L l e]
    exact (h.row y).imp id fun ⟨s', n', c', e', hI', ha'⟩ => ⟨s', n', c', e', hI'.mapTurn h3 hb, fun a q => Nat.lt_of_lt_of_le (ha' a q) h3.size⟩
theorem InF.new (w : World) (P : List Lc) (hn : P.Nodup) (hw : ∀ x ∈ P, LcWf x) : InF (w.alloc (.map #[] 0)) w.heap.size P (fun _ => none) fun _ => [] := ⟨MapL.new w P hn hw, fun x => .inl ⟨rfl, rfl⟩⟩
theorem InF.ext {w : World} {b : Nat} {P : List Lc} {f : Lc → Option Value} {L M : Lc → List Sm} (h : InF w b P f L) (e : ∀ x, L x = M x) : InF w b P f M := by
  have : L = M := funext e
  rwa [← this]

/-! Rows that are made longer. -/
structure GrpF (w : World) (base b : Nat) (P : List Lc) (f : Lc → Option Value) (R : Lc → List Sm) (No : Nat → Prop) : Prop where
  map : MapL w b P f
  lo : base ≤ b
  row : ∀ x, (f x = none ∧ R x = []) ∨ ∃ s n c, f x = some (.slice s n c) ∧ OwnMV w base s n c (R x)
  full : ∀ x, f x ≠ none → R x ≠ []
  apart : ∀ x y s n c s' n' c' a a', x ≠ y → f x = some (.slice s n c) → f y = some (.slice s' n' c') → s = some a → s' = some a' → a.block ≠ a'.block
  no : ∀ x s n c a, f x = some (.slice s n c) → s = some a → ¬ No a.block
/-- .. while the row of x is taken out, to be made longer: it is s. -/
structure HalfF (w : World) (base b : Nat) (P : List Lc) (f : Lc → Option Value) (R : Lc → List Sm) (No : Nat → Prop) (x : Lc) (st : Nat) (s : Option Addr) : Prop where
  map : MapL w b P f
  lo : base ≤ b
  ent : EntL w b x st
  row : ∀ y, y ≠ x → (f y = none ∧ R y = []) ∨ ∃ s n c, f y = some (.slice s n c) ∧ OwnMV w base s n c (R y)
  full : ∀ y, y ≠ x → f y ≠ none → R y ≠ []
  apart : ∀ y z s n c s' n' c' a a', y ≠ x → z ≠ x → y ≠ z → f y = some (.slice s n c) → f z = some (.slice s' n' c') → s = some a → s' = some a' → a.block ≠ a'.block
  no : ∀ y s n c a, y ≠ x → f y = some (.slice s n c) → s = some a → ¬ No a.block
  off : ∀ y s' n c a a', y ≠ x → f y = some (.slice s' n c) → s' = some a → s = some a' → a.block ≠ a'.block
  nos : ∀ a, s = some a → ¬ No a.block
theorem GrpF.new (w : World) (base : Nat) (P : List Lc) (hn : P.Nodup) (hw : ∀ x ∈ P, LcWf x) (hb : base ≤ w.heap.size) (No : Nat → Prop) : GrpF (w.alloc (.map #[] 0)) base w.heap.size P (fun _ => none) (fun _ => []) No :=
  ⟨MapL.new w P hn hw, hb, fun x => .inl ⟨rfl, rfl⟩, fun x h => absurd rfl h, fun x y s n c s' n' c' a a' _ h => (by cases h), fun x s n c a h => (by cases h)⟩
theorem GrpF.later {w w' : World} {base b : Nat} {P : List Lc} {f : Lc → Option Value} {R : Lc → List Sm} {No : Nat → Prop} (hg : Grow w w') (h : GrpF w base b P f R No) : GrpF w' base b P f R No :=
  ⟨h.map.later hg, h.lo, fun x => (h.row x).imp id fun ⟨s, n, c, e, ho⟩ => ⟨s, n, c, e, ho.later hg⟩, h.full, h.apart, h.no⟩
theorem GrpF.is {w : World} {base b : Nat} {P : List Lc} {f : Lc → Option Value} {R : Lc → List Sm} {No : Nat → Prop} (h : GrpF w base b P f R No) : InF w b P f R :=
  ⟨h.map, fun x => (h.row x).imp id fun ⟨s, n, c, e, ho⟩ => ⟨s, n, c, e, ho.is, fun a q => (ho.blk q).2.1⟩⟩
/-- Nothing is there just if no row has anything. -/
theorem GrpF.empty {w : World} {base b : Nat} {P : List Lc} {f : Lc → Option Value} {R : Lc → List Sm} {No : Nat → Prop} (h : GrpF w base b P f R No) : cntV P f = 0 ↔ ∀ x, R x = [] := by
  rw [h.map.empty]
  constructor
  · intro k x
    rcases h.row x with ⟨_, e⟩ | ⟨s, n, c, e, _⟩
    · exact e
    · rw [k x] at e; cases e
  · intro k x
    cases hf : f x with
    | none => rfl
    | some v => exact absurd (k x) (h.full x (by rw [hf]; simp))
theorem GrpF.mapTurn {w w' : World} {base b g : Nat} {P : List Lc} {f : Lc → Option Value} {R : Lc → List Sm} {No : Nat → Prop} (h : GrpF w base b P f R No) (hg : w.grownBy w' (some g)) {es : Array MapEntry} {cl : Nat} (hm : w.heap[g]? = some (.map es cl)) (hne : b ≠ g) : GrpF w' base b P f R No :=
  ⟨h.map.keep (hg.block b h.map.lt (by simpa using hne)), h.lo, fun x => (h.row x).imp id fun ⟨s, n, c, e, ho⟩ => ⟨s, n, c, e, ho.mapTurn hg hm⟩, h.full, h.apart, h.no⟩
theorem GrpF.iterTurn {w w' : World} {base b r : Nat} {P : List Lc} {f : Lc → Option Value} {R : Lc → List Sm} {No : Nat → Prop} (h : GrpF w base b P f R No) (hg : w.grownBy w' (some r)) (hm : ∃ m x y z, w.heap[r]? = some (.mapIter m x y z)) : GrpF w' base b P f R No := by
  obtain ⟨m, x0, y0, z0, hm⟩ := hm
  obtain ⟨es, cl, hb⟩ := h.map.isMap
  refine ⟨h.map.keep (hg.block b h.map.lt fun e => ?_), h.lo, fun x => (h.row x).imp id fun ⟨s, n, c, e, ho⟩ => ⟨s, n, c, e, ho.turn hg fun a ha e => ?_⟩, h.full, h.apart, h.no⟩
  · simp at e
    rw [e, hm] at hb
    cases hb
  · obtain ⟨_, _, cs, hc⟩ := ho.blk ha
    rw [e, hm] at hc
    cases hc
/-- Other blocks to keep away from: what is new among them is newer than all rows. -/
theorem GrpF.reno {w0 w : World} {base b : Nat} {P : List Lc} {f : Lc → Option Value} {R : Lc → List Sm} {No No' : Nat → Prop} (h0 : GrpF w0 base b P f R No) (h : GrpF w base b P f R No) (hn : ∀ g, No' g → No g ∨ w0.heap.size ≤ g) : GrpF w base b P f R No' :=
  ⟨h.map, h.lo, h.row, h.full, h.apart, fun x s n c a e q r => by
    rcases hn _ r with k | k
    · exact h.no x s n c a e q k
    · rcases h0.row x with ⟨e', _⟩ | ⟨s', n', c', e', ho⟩
      · rw [e] at e'; cases e'
      · rw [e] at e'
        cases e'
        have := (ho.blk q).2.1
        omega⟩
theorem GrpF.ext {w : World} {base b : Nat} {P : List Lc} {f : Lc → Option Value} {R M : Lc → List Sm} {No : Nat → Prop} (h : GrpF w base b P f R No) (e : ∀ x, R x = M x) : GrpF w base b P f M No := by
  have : R = M := funext e
  rwa [← this]
/-- An entry is asked for. -/
theorem GrpF.entry {w : World} {base b : Nat} {P : List Lc} {f : Lc → Option Value} {R : Lc → List Sm} {No : Nat → Prop} (h : GrpF w base b P f R No) (hP : P.length < 1000000000) {x : Lc} (hx : x ∈ P) :
    ∃ s n c st f' w', (Instr.mapEntry 81 (.map (some b)) (.agg #[.int .i64 x.n, .int .i64 x.p])).run Tryz.prog w = .ok (.tuple #[.slice s n c, goInt (st : Nat)]) w' ∧ HalfF w' base b P f' R No x st s ∧ OwnMV w' base s n c (R x) ∧ w.grownBy w' (some b) := by
  obtain ⟨st, w', h1, h2, h3, h4⟩ := h.map.entry Tryz.underlying81 zeroSlice hP hx
  obtain ⟨es, cl, hb⟩ := h.map.isMap
  unfold vL at h1
  obtain ⟨s, n, c, e, ho, hs⟩ : ∃ s n c, (f x).getD (.slice none 0 0) = .slice s n c ∧ OwnMV w base s n c (R x) ∧ ∀ a, s = some a → ∃ n' c', f x = some (.slice s n' c') := by
    rcases h.row x with ⟨e, e2⟩ | ⟨s, n, c, e, ho⟩
    · exact ⟨none, 0, 0, by rw [e]; rfl, by rw [e2]; exact OwnMV.nil _ _, fun a q => by cases q⟩
    · exact ⟨s, n, c, by rw [e]; rfl, ho, fun a q => ⟨n, c, e⟩⟩
  rw [e] at h1 h2
  refine ⟨s, n, c, st, _, w', h1, ⟨h2, h.lo, h3, fun y hy => ?_, fun y hy => ?_, fun y z s1 n1 c1 s2 n2 c2 a a' hy hz hyz => ?_, fun y s1 n1 c1 a hy => ?_, fun y s1 n1 c1 a a' hy => ?_, fun a q => ?_⟩, ho.mapTurn h4 hb, h4⟩
  · rw [putV_other f _ hy]
    exact (h.row y).imp id fun ⟨s, n, c, e, ho⟩ => ⟨s, n, c, e, ho.mapTurn h4 hb⟩
  · rw [putV_other f _ hy]; exact h.full y
  · rw [putV_other f _ hy, putV_other f _ hz]; exact h.apart y z s1 n1 c1 s2 n2 c2 a a' hyz
  · rw [putV_other f _ hy]; exact h.no y s1 n1 c1 a
  · rw [putV_other f _ hy]
    intro e1 q1 q2
    obtain ⟨n', c', e2⟩ := hs a' q2
    exact h.apart y x s1 n1 c1 s n' c' a a' hy e1 e2 q1 q2
  · obtain ⟨n', c', e2⟩ := hs a q
    exact h.no x s n' c' a e2 q
/-- The row that was made longer is stored. -/
theorem HalfF.store {w : World} {base b : Nat} {P : List Lc} {f : Lc → Option Value} {R : Lc → List Sm} {No : Nat → Prop} {x : Lc} {st : Nat} {s : Option Addr} (h : HalfF w base b P f R No x st s) (hP : P.length < 1000000000) (hx : x ∈ P) {n c : Nat} {l : List Sm} (ho : OwnMV w base s n c l) (hl : l ≠ []) :
    ∃ w', (Instr.entryStore 81 (.map (some b)) (goInt st) (.slice s n c)).run Tryz.prog w = .ok () w' ∧ GrpF w' base b P (putV f x (.slice s n c)) (updL R x l) No ∧ w.grownBy w' (some b) := by
  obtain ⟨w', h1, h2, h3⟩ := h.map.store Tryz.underlying81 hP h.ent hx (.slice s n c)
  obtain ⟨es, cl, hb⟩ := h.map.isMap
  refine ⟨w', h1, ⟨h2, h.lo, fun y => ?_, fun y => ?_, fun y z s1 n1 c1 s2 n2 c2 a a' hyz => ?_, fun y s1 n1 c1 a => ?_⟩, h3⟩
  · by_cases e : y = x
    · subst e
      rw [putV_same, updL_same]
      exact .inr ⟨s, n, c, rfl, ho.mapTurn h3 hb⟩
    · rw [putV_other f _ e, updL_other R l e]
      exact (h.row y e).imp id fun ⟨s, n, c, e, ho⟩ => ⟨s, n, c, e, ho.mapTurn h3 hb⟩
  · by_cases e : y = x
    · subst e
      rw [updL_same]
      exact fun _ => hl
    · rw [putV_other f _ e, updL_other R l e]; exact h.full y e
  · intro e1 e2 q1 q2
    by_cases ey : y = x
    · subst ey
      have hz : z ≠ y := fun e => hyz e.symm
      rw [putV_same] at e1
      rw [putV_other f _ hz] at e2
      cases e1
      exact fun k => h.off z s2 n2 c2 a' a hz e2 q2 q1 k.symm
    · rw [putV_other f _ ey] at e1
      by_cases ez : z = x
      · subst ez
        rw [putV_same] at e2
        cases e2
        exact h.off y s1 n1 c1 a a' ey e1 q1 q2
      · rw [putV_other f _ ez] at e2
        exact h.apart y z s1 n1 c1 s2 n2 c2 a a' ey ez hyz e1 e2 q1 q2
  · intro e1 q1
    by_cases ey : y = x
    · subst ey
      rw [putV_same] at e1
      cases e1
      exact h.nos a q1
    · rw [putV_other f _ ey] at e1
      exact h.no y s1 n1 c1 a ey e1 q1
section
variable {w : World} {ops : Array Oper} {rest : List Oper} {o : Oper} {a : Act} {Q : Exit → Act → World → Prop}
theorem wpList_entry_G (hg : o.guard = none) (m k : Operand) (hop : o.op = Op.mapEntry 81 m k) {base b : Nat} {P : List Lc} {f : Lc → Option Value} {R : Lc → List Sm} {No : Nat → Prop} {x : Lc}
    (hm : a.eval m = .map (some b)) (hk : a.eval k = .agg #[.int .i64 x.n, .int .i64 x.p]) (h : GrpF w base b P f R No) (hP : P.length < 1000000000) (hx : x ∈ P)
    (K : ∀ s n c (st : Nat) f' w', HalfF w' base b P f' R No x st s → OwnMV w' base s n c (R x) → w.grownBy w' (some b) → wpList Tryz.prog ops Q rest (a.put o.dst (.tuple #[.slice s n c, goInt st])) w') : wpList Tryz.prog ops Q (o :: rest) a w := by
  refine wpList_plain hg fun K' hK' => ?_
  obtain ⟨s, n, c, st, f', w', hrun, h1, h2, h3⟩ := h.entry hP hx
  unfold Oper.wp
  simp [execOp, hop, hm, hk, hrun, Result.andThen]
  exact hK' _ _ (K s n c st f' w' h1 h2 h3)
theorem wpList_append_G (hgd : o.guard = none) (s x : Operand) (ho : o.op = .call { callee := .builtin .append, args := #[s, x], argTypes := #[33, 33] })
    {base b : Nat} {P : List Lc} {f : Lc → Option Value} {R : Lc → List Sm} {No : Nat → Prop} {k : Lc} {st : Nat} {s0 : Option Addr} {n cap : Nat} {d : List Sm} {y : Sm} (h : HalfF w base b P f R No k st s0) (hown : OwnMV w base s0 n cap d) (hs : a.eval s = .slice s0 n cap)
    (g0 off c : Nat) (hx : a.eval x = .slice (some ⟨g0, off, none⟩) 1 c) (hsrc : RowM w g0 off [y]) (hlen : n + 1 ≤ 1000000000000) (hbase : base ≤ w.heap.size) (hNo : ∀ g, No g → g < w.heap.size)
    (K : ∀ s' c' w', HalfF w' base b P f R No k st s' → OwnMV w' base s' (n + 1) c' (d ++ [y]) → RowTurn w w' base s0 → wpList Tryz.prog ops Q rest (a.put o.dst (.slice s' (n + 1) c')) w') : wpList Tryz.prog ops Q (o :: rest) a w := by
  obtain ⟨i, hi, hz, hsz, hby⟩ := info_sm
  have hb0 := fun a ha => hown.blk (a := a) ha
  obtain ⟨hn, hown'⟩ := hown
  subst hn
  have hr : w.ownsRow base 68 7 (.slice s0 d.length cap) d.length (flatM d) := by
    rcases hown' with ⟨rfl, rfl, rfl⟩ | ⟨g, rfl, h1⟩
    · exact World.ownsRow_nil w base _ _
    · exact h1
  refine wpList_append_own_at w hgd s x 33 ho base 68 i _ 7 56 Tryz.underlying33 hi hz hsz hby rfl (by omega) _ d.length (flatM d) hs hr ⟨g0, off, none⟩ 1 c (flatM [y]) hx (by rw [flatM_len]; rfl) (fun j u hj => by rw [addr_add]; exact hsrc j u hj) (oneCell_flatM [y]) (by simp [maxLen]; omega) (by omega) hbase ?_
  intro v' w' h1 h2 h3 h4
  have hob : (Value.slice s0 d.length cap).ownBlock = s0.map (·.block) := by cases s0 <;> rfl
  rw [hob] at h2 h4
  have hl : (d ++ [y]).length = d.length + 1 := by simp
  rcases h1.2 with ⟨h', _⟩ | ⟨g', cap', cur, h', hb, hg, k1, k2, k3, k4⟩
  · have := (h3.1 h').2
    omega
  · subst h'
    have hgt : some g' = s0.map (·.block) ∨ g' = w.heap.size := by
      rcases h4 with h4 | h4
      · exact .inl h4
      · right; simpa [Value.ownBlock] using h4
    have hRT : RowTurn w w' base s0 := ⟨h2, fun a ha => ⟨(hb0 a ha).1, (hb0 a ha).2.2⟩⟩
    obtain ⟨es, cl, hbm⟩ := h.map.isMap
    have hkm := hRT.keepMap hbm
    have hrow : ∀ y', y' ≠ k → (f y' = none ∧ R y' = []) ∨ ∃ s n c, f y' = some (.slice s n c) ∧ OwnMV w' base s n c (R y') := fun y' hy => (h.row y' hy).imp id fun ⟨s1, n1, c1, e, ho⟩ => ⟨s1, n1, c1, e, by
      refine ⟨ho.1, ?_⟩
      obtain ⟨_, h' | ⟨g2, e2, ho2⟩⟩ := ho
      · exact .inl h'
      · refine .inr ⟨g2, e2, ho2.keep (h2.block g2 ho2.lt ?_)⟩
        intro q
        cases hs0 : s0 with
        | none => rw [hs0] at q; cases q
        | some a0 =>
          rw [hs0] at q
          simp at q
          exact h.off y' s1 n1 c1 _ a0 hy e e2 hs0 q⟩
    refine K (some ⟨g', 0, none⟩) cap' w' ⟨h.map.keep hkm, h.lo, h.ent.keep hkm, hrow, h.full, h.apart, h.no, fun y' s' n' c' a1 a2 hy e q1 q2 => ?_, fun a1 q => ?_⟩ ⟨hl, .inr ⟨g', rfl, OwnM.mk' hb hg (by rw [hl]; exact k1) k2 k3 (by rw [hl, flatM_append]; exact k4)⟩⟩ hRT
    · cases q2
      rcases hgt with q | q
      · cases hs0 : s0 with
        | none => rw [hs0] at q; cases q
        | some a0 =>
          rw [hs0] at q
          simp at q
          intro r
          exact h.off y' s' n' c' a1 a0 hy e q1 hs0 (r.trans q)
      · rcases h.row y' hy with ⟨e', _⟩ | ⟨s1, n1, c1, e', ho⟩
        · rw [e] at e'; cases e'
        · rw [e] at e'
          cases e'
          have := (ho.blk q1).2.1
          intro r
          have r' : a1.block = g' := r
          omega
    · cases q
      rcases hgt with q | q
      · cases hs0 : s0 with
        | none => rw [hs0] at q; cases q
        | some a0 =>
          rw [hs0] at q
          simp at q
          show ¬ No g'
          rw [q]
          exact h.nos a0 hs0
      · intro r
        have : g' < w.heap.size := hNo _ r
        omega
theorem wpList_estore_G (hg : o.guard = none) (m k v : Operand) (hop : o.op = Op.entryStore 81 m k v) {base b : Nat} {P : List Lc} {f : Lc → Option Value} {R : Lc → List Sm} {No : Nat → Prop} {x : Lc} {st : Nat} {s : Option Addr} {n c : Nat} {l : List Sm}
    (hm : a.eval m = .map (some b)) (hk : a.eval k = goInt st) (hv : a.eval v = .slice s n c) (h : HalfF w base b P f R No x st s) (hP : P.length < 1000000000) (hx : x ∈ P) (ho : OwnMV w base s n c l) (hl : l ≠ [])
    (K : ∀ f' w', GrpF w' base b P f' (updL R x l) No → w.grownBy w' (some b) → wpList Tryz.prog ops Q rest (a.put o.dst undef) w') : wpList Tryz.prog ops Q (o :: rest) a w := by
  refine wpList_plain hg fun K' hK' => ?_
  obtain ⟨w', hrun, h1, h2⟩ := h.store hP hx ho hl
  unfold Oper.wp
  simp [execOp, hop, hm, hk, hv, hrun, Result.andThen]
  exact hK' _ _ (K _ w' h1 h2)
theorem wpList_set_F (hg : o.guard = none) (m k v : Operand) (t : TypeId) (hop : o.op = Op.mapUpdate t m k v ∨ o.op = Op.insert t m k v) (ht : Tryz.prog.underlying t = some (.map 27 33)) {b : Nat} {P : List Lc} {f : Lc → Option Value} {L : Lc → List Sm} {x : Lc} {s : Option Addr} {n c : Nat} {l : List Sm}
    (hm : a.eval m = .map (some b)) (hk : a.eval k = .agg #[.int .i64 x.n, .int .i64 x.p]) (hv : a.eval v = .slice s n c) (h : InF w b P f L) (hP : P.length < 1000000000) (hx : x ∈ P) (hI : IsSms w s n c l) (ha : ∀ a, s = some a → a.block < w.heap.size)
    (K : ∀ w', InF w' b P (putV f x (.slice s n c)) (updL L x l) → w.grownBy w' (some b) → wpList Tryz.prog ops Q rest (a.put o.dst undef) w') : wpList Tryz.prog ops Q (o :: rest) a w := by
  refine wpList_plain hg fun K' hK' => ?_
  obtain ⟨w', hrun, h1, h2⟩ := h.set ht hP hx hI ha
  unfold Oper.wp
  rcases hop with hop | hop
  · simp [execOp, hop, hm, hk, hv, hrun, Result.andThen]
    exact hK' _ _ (K w' h1 h2)
  · simp [execOp, hop, hm, hk, hv, hrun, Result.andThen]
    exact hK' _ _ (K w' h1 h2)
end
theorem noOf_put {f : Lc → Option Value} {x : Lc} {s : Option Addr} {n c g : Nat} (h : NoOf (putV f x (.slice s n c)) g) : NoOf f g ∨ ∃ a, s = some a ∧ a.block = g := by
  obtain ⟨y, s', n', c', a, e, q, r⟩ := h
  by_cases ey : y = x
  · subst ey
    rw [putV_same] at e
    cases e
    exact .inr ⟨a, q, r⟩
  · rw [putV_other f _ ey] at e
    exact .inl ⟨y, s', n', c', a, e, q, r⟩
theorem InF.noLt {w : World} {b : Nat} {P : List Lc} {f : Lc → Option Value} {L : Lc → List Sm} (h : InF w b P f L) (g : Nat) (k : NoOf f g) : g < w.heap.size := by
  obtain ⟨x, s, n, c, a, e, q, r⟩ := k
  rcases h.row x with ⟨e', _⟩ | ⟨s', n', c', e', _, ha⟩
  · rw [e] at e'; cases e'
  · rw [e] at e'
    cases e'
    rw [← r]; exact ha a q

end Go.Proofs.YtehianjfpmbfpaaGreat
