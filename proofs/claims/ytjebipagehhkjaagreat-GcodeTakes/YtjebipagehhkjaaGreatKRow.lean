/-
  Rows of bytes: where they lie, those that a call has made by append, nil ones too; literals of bytes; a row's bytes as a string; heads of rows, l[:k]. For whatever numbers the program has for the types of a byte and of a row of bytes.
-/
import Derived.Test.YtjebipagehhkjaaGreatHRow
import Derived.Test.YtjebipagehhkjaaGreatKPl
import Derived.Laws.IdiomStrings
namespace Go.Proofs.YtjebipagehhkjaaGreat
set_option maxRecDepth 100000
open Go.ChangeShapes Go.WideShapes Go.ChangeAt Go.RowKit Go.Deep
set_option linter.unusedVariables false

/-- T is the type of rows of bytes, B that of a byte. -/
structure ByT (T B : TypeId) : Prop where
  row : Tryz.prog.underlying T = some (.slice B)
  byte : Tryz.prog.underlying B = some (.int .u8)
  info : ∃ i, Tryz.prog.info? B = some i ∧ i.zero = some (.int .u8 0) ∧ i.size = 1 ∧ i.bytes = 1
def flatU (d : List UInt8) : List Value := d.map fun b => Value.int .u8 (b.toNat : Int)
theorem flatU_append (d e : List UInt8) : flatU (d ++ e) = flatU d ++ flatU e := by simp [flatU]
theorem flatU_len (d : List UInt8) : (flatU d).length = d.length := by simp [flatU]
theorem flatU_byt (x : Int) : Value.int .u8 ((byt x).toNat : Int) = .int .u8 (x % 256) := by rw [byt_toNat]
theorem oneCell_flatU (d : List UInt8) : ∀ v ∈ flatU d, v.oneCell' = true := by
  intro v hv
  obtain ⟨x, _, rfl⟩ := List.mem_map.1 hv
  rfl
def RowU (w : World) (b o : Nat) (d : List UInt8) : Prop := ∀ (j : Nat) v, (flatU d)[j]? = some v → w.cell? ⟨b, o + j, none⟩ = some v
theorem RowU.later {w w' : World} {b o : Nat} {d : List UInt8} (hg : Grow w w') (h : RowU w b o d) : RowU w' b o d := fun j v hj => cell_later hg (h j v hj)
theorem RowU.at {w : World} {b o : Nat} {d : List UInt8} (h : RowU w b o d) (j : Nat) (hj : j < d.length) : w.cell? ⟨b, o + j, none⟩ = some (.int .u8 (d[j].toNat : Int)) := h j _ (by simp [flatU, hj])
theorem RowU.take' {w : World} {b o : Nat} {d : List UInt8} (h : RowU w b o d) (k : Nat) : RowU w b o (d.take k) := by
  intro j v hj
  have hj2 := (List.getElem?_eq_some_iff.1 hj).1
  rw [flatU_len, List.length_take] at hj2
  refine h j v ?_
  rw [← hj]
  simp only [flatU, List.getElem?_map, List.getElem?_take]
  rw [if_pos (by omega)]
/-- A slice of bytes. -/
def IsBy (w : World) (s : Option Addr) (n cap : Nat) (d : List UInt8) : Prop :=
  d.length = n ∧ n ≤ cap ∧ (d = [] ∨ ∃ b o, s = some ⟨b, o, none⟩ ∧ RowU w b o d)
theorem IsBy.later {w w' : World} {s : Option Addr} {n cap : Nat} {d : List UInt8} (hg : Grow w w') (h : IsBy w s n cap d) : IsBy w' s n cap d :=
  ⟨h.1, h.2.1, h.2.2.imp id fun ⟨b, o, e, r⟩ => ⟨b, o, e, r.later hg⟩⟩
theorem IsBy_nil (w : World) : IsBy w none 0 0 [] := ⟨rfl, Nat.le_refl _, .inl rfl⟩
theorem IsBy.take' {w : World} {s : Option Addr} {n cap : Nat} {d : List UInt8} (h : IsBy w s n cap d) (k : Nat) (hk : k ≤ n) : IsBy w s k cap (d.take k) := by
  refine ⟨by rw [List.length_take, h.1]; omega, Nat.le_trans hk h.2.1, ?_⟩
  rcases h.2.2 with rfl | ⟨b, o, e, r⟩
  · left; simp
  · exact .inr ⟨b, o, e, r.take' k⟩
/-- The byte at an index, in the row's own cells. -/
theorem IsBy.at {w : World} {s : Option Addr} {n cap : Nat} {d : List UInt8} (h : IsBy w s n cap d) (j : Nat) (hj : j < n) : ∃ b o, s = some ⟨b, o, none⟩ ∧ w.cell? ⟨b, o + j, none⟩ = some (.int .u8 ((atB d j).toNat : Int)) := by
  have hjd : j < d.length := by rw [h.1]; exact hj
  have hne : ¬ d = [] := fun e => by rw [e] at hjd; simp at hjd
  obtain ⟨b, o, e, r⟩ := h.2.2.resolve_left hne
  refine ⟨b, o, e, ?_⟩
  rw [r.at j hjd]
  simp [atB, List.getD_eq_getElem?_getD, hjd]
/-- A literal of bytes. -/
theorem IsBy.lit (w : World) (B : TypeId) (d : List UInt8) (cs : Array Value) (hc : cs = (flatU d).toArray) (n : Nat) (hn : d.length = n) : IsBy (w.alloc (.cells cs B)) (some ⟨w.heap.size, 0, none⟩) n n d := by
  subst hc
  refine ⟨hn, Nat.le_refl _, .inr ⟨_, _, rfl, fun j v hj => ?_⟩⟩
  rw [World.cell?_alloc_mark]
  simpa using hj
/-- The call owns a row of bytes, or it is nil. -/
def OwnU (B : TypeId) (w : World) (base : Nat) (s : Option Addr) (n cap : Nat) (d : List UInt8) : Prop :=
  d.length = n ∧ w.ownsRow base B 1 (.slice s n cap) n (flatU d) ∧ (s = none → cap = 0)
theorem OwnU.nil (B : TypeId) (w : World) (base : Nat) : OwnU B w base none 0 0 [] := ⟨rfl, World.ownsRow_nil w base _ _, fun _ => rfl⟩
theorem OwnU.keep {B : TypeId} {w w' : World} {base n cap : Nat} {s : Option Addr} {d : List UInt8} (h : OwnU B w base s n cap d) (hk : ∀ a, s = some a → w'.heap[a.block]? = w.heap[a.block]?) : OwnU B w' base s n cap d := by
  obtain ⟨h1, h2, h3⟩ := h
  refine ⟨h1, ⟨h2.1, ?_⟩, h3⟩
  rcases h2.2 with h' | ⟨g, cap', cur, h', hb, hg, r⟩
  · exact .inl h'
  · simp only [Value.slice.injEq] at h'
    obtain ⟨rfl, _, rfl⟩ := h'
    exact .inr ⟨g, cap, cur, rfl, hb, (hk _ rfl).trans hg, r⟩
theorem OwnU.lt {B : TypeId} {w : World} {base n cap : Nat} {s : Option Addr} {d : List UInt8} (h : OwnU B w base s n cap d) : ∀ a, s = some a → a.block < w.heap.size ∧ base ≤ a.block := by
  intro a ha
  rcases h.2.1.2 with ⟨h', _⟩ | ⟨g, cap', cur, h', hb, hg, r⟩
  · simp only [Value.slice.injEq] at h'
    rw [ha] at h'; cases h'.1
  · simp only [Value.slice.injEq] at h'
    rw [ha] at h'
    cases h'.1
    exact ⟨(Array.getElem?_eq_some_iff.1 hg).1, hb⟩
theorem OwnU.later {B : TypeId} {w w' : World} {base n cap : Nat} {s : Option Addr} {d : List UInt8} (h : OwnU B w base s n cap d) (hg : Grow w w') : OwnU B w' base s n cap d :=
  h.keep fun a ha => hg.block _ (h.lt a ha).1
theorem OwnU.is {B : TypeId} {w : World} {base n cap : Nat} {s : Option Addr} {d : List UInt8} (h : OwnU B w base s n cap d) : IsBy w s n cap d := by
  have h0 := h
  obtain ⟨h1, h2, h3⟩ := h
  rcases h2.2 with ⟨h', h''⟩ | ⟨g, cap', cur, h', hb, hg, k1, k2, k3, k4⟩
  · have hn : n = 0 := h''
    refine ⟨h1, by omega, .inl ?_⟩
    exact List.eq_nil_of_length_eq_zero (by omega)
  · simp only [Value.slice.injEq] at h'
    obtain ⟨rfl, _, rfl⟩ := h'
    refine ⟨h1, k1, .inr ⟨g, 0, rfl, fun j v hj => ?_⟩⟩
    have hj' : j < d.length := by have := (List.getElem?_eq_some_iff.1 hj).1; rwa [flatU_len] at this
    have := World.ownsRow.cellAt h2 j (by omega)
    rw [Nat.zero_add, this, hj]
theorem OwnU.rebase {B : TypeId} {w : World} {base base' n cap : Nat} {s : Option Addr} {d : List UInt8} (h : OwnU B w base s n cap d) (hb : base' ≤ base) : OwnU B w base' s n cap d :=
  ⟨h.1, ⟨h.2.1.1, h.2.1.2.imp id fun ⟨g, cap', cur, e, hg, r⟩ => ⟨g, cap', cur, e, Nat.le_trans hb hg, r⟩⟩, h.2.2⟩
/-- A literal of bytes is the call's own. -/
theorem OwnU.lit (w : World) (B : TypeId) (base : Nat) (hb : base ≤ w.heap.size) (d : List UInt8) (cs : Array Value) (hc : cs = (flatU d).toArray) (n : Nat) (hn : d.length = n) (hm : n ≤ 1000000) : OwnU B (w.alloc (.cells cs B)) base (some ⟨w.heap.size, 0, none⟩) n n d := by
  subst hc
  subst hn
  refine ⟨rfl, ⟨by simp [flatU], .inr ⟨w.heap.size, d.length, (flatU d).toArray, rfl, hb, (MapKept.heap_alloc w _).1, Nat.le_refl _, ?_, ?_, ?_⟩⟩, fun h => by cases h⟩
  · simp only [maxLen]; omega
  · simp [flatU]
  · simp [flatU]; exact List.take_of_length_le (by simp)
theorem app_none_by {T B : TypeId} (hT : ByT T B) (s : Option Addr) (n cap : Nat) (hn : n ≤ cap) (c : Nat) (rt : TypeId) (w : World) :
    (Builtin.append_ #[T, T] rt #[.slice s n cap, .slice none 0 c]).run Tryz.prog w = (Builtin.append_ #[T, T] rt #[.slice s n cap, .slice (some ⟨0, 0, none⟩) 0 c]).run Tryz.prog w := by
  obtain ⟨i, hi, hz, hsz, hby⟩ := hT.info
  have hl : (loadCells ⟨0, 0, none⟩ 0).run Tryz.prog w = .ok #[] w := by simpa using run_loadCells_list (P := Tryz.prog) w ⟨0, 0, none⟩ [] (by simp)
  cases s <;> simp [Builtin.append_, run_underlying hT.row, sizeOf, typeInfo, hi, Builtin.lenOf, Builtin.firstCells, hl, hn]
/-- What append does to rows of bytes. -/
theorem run_ap_by {T B : TypeId} (hT : ByT T B) (w : World) (rt : TypeId) (base : Nat) (s : Option Addr) (n cap : Nat) (d e : List UInt8) (hown : OwnU B w base s n cap d) (s' : Option Addr) (m c : Nat) (he : IsBy w s' m c e) (hlen : n + m ≤ 1000000) (hbase : base ≤ w.heap.size) :
    ∃ s2 c2 w2, (Builtin.append_ #[T, T] rt #[.slice s n cap, .slice s' m c]).run Tryz.prog w = .ok (.slice s2 (n + m) c2) w2
      ∧ OwnU B w2 base s2 (n + m) c2 (d ++ e) ∧ w.grownBy w2 (s.map (·.block)) ∧ ∀ a, s2 = some a → s.map (·.block) = some a.block ∨ a.block = w.heap.size := by
  obtain ⟨i, hi, hz, hsz, hby⟩ := hT.info
  have hnc := hown.is.2.1
  obtain ⟨hn, hr, hz0⟩ := hown
  have key : ∀ (x : Addr), (∀ j u, (flatU e)[j]? = some u → w.cell? (x.add j) = some u) → ∃ s2 c2 w2, (Builtin.append_ #[T, T] rt #[.slice s n cap, .slice (some x) m c]).run Tryz.prog w = .ok (.slice s2 (n + m) c2) w2
      ∧ OwnU B w2 base s2 (n + m) c2 (d ++ e) ∧ w.grownBy w2 (s.map (·.block)) ∧ ∀ a, s2 = some a → s.map (·.block) = some a.block ∨ a.block = w.heap.size := by
    intro x hx
    obtain ⟨v', w', h0, h1, h2, h3, h4⟩ := run_append_own_at (P := Tryz.prog) w base T rt B i _ 1 1 hT.row hi hz hsz hby rfl (by omega) _ n (flatU d) hr x m c (flatU e) (by simp [flatU, he.1]) hx (oneCell_flatU e) (by simp [maxLen]; omega) (by omega) hbase
    have hob : (Value.slice s n cap).ownBlock = s.map (·.block) := by cases s <;> rfl
    rw [hob] at h2 h4
    have hl : (d ++ e).length = n + m := by rw [List.length_append, hn, he.1]
    have hfl : flatU d ++ flatU e = flatU (d ++ e) := by simp [flatU]
    rw [hfl] at h1
    rcases h1.2 with ⟨h', h''⟩ | ⟨g', cap', cur, h', hb, hg, k⟩
    · subst h'
      have h5 : n + m = 0 := h''
      refine ⟨none, 0, w', by rw [h0, h5], ⟨hl, ?_, fun _ => rfl⟩, h2, fun a ha => by cases ha⟩
      rw [h5] at h1 ⊢
      exact h1
    · subst h'
      refine ⟨some ⟨g', 0, none⟩, cap', w', h0, ⟨hl, h1, fun k => by cases k⟩, h2, fun a ha => ?_⟩
      cases ha
      rcases h4 with h4 | h4
      · left; rw [← h4]; rfl
      · right
        have : some g' = some w.heap.size := h4
        exact Option.some.inj this
  rcases he.2.2 with hnil | ⟨b, off, rfl, hrw⟩
  · have hm0 : m = 0 := by rw [← he.1, hnil]; rfl
    subst hm0
    cases s' with
    | none =>
      rw [app_none_by hT _ _ _ hnc]
      exact key _ (fun j v hj => by rw [hnil] at hj; simp [flatU] at hj)
    | some a => exact key a (fun j v hj => by rw [hnil] at hj; simp [flatU] at hj)
  · refine key _ (fun j v hj => ?_)
    rw [addr_add, hrw j v hj]
theorem wpList_apd_by {T B : TypeId} (hT : ByT T B) {w : World} {ops : Array Oper} {rest : List Oper} {o : Oper} {a : Act} {Q : Exit → Act → World → Prop} (hgd : o.guard = none) (s x : Operand)
    (ho : o.op = .call { callee := .builtin .append, args := #[s, x], argTypes := #[T, T] })
    (base : Nat) (s0 : Option Addr) (n cap : Nat) (d e : List UInt8) (hs : a.eval s = .slice s0 n cap) (hown : OwnU B w base s0 n cap d)
    (s' : Option Addr) (m c : Nat) (hx : a.eval x = .slice s' m c) (he : IsBy w s' m c e) (hlen : n + m ≤ 1000000) (hbase : base ≤ w.heap.size)
    (h : ∀ s2 c2 w2, OwnU B w2 base s2 (n + m) c2 (d ++ e) → GrewBut w w2 base s0 → wpList Tryz.prog ops Q rest (a.put o.dst (.slice s2 (n + m) c2)) w2) :
    wpList Tryz.prog ops Q (o :: rest) a w := by
  obtain ⟨s2, c2, w2, h0, h1, h2, _⟩ := run_ap_by hT w o.type base s0 n cap d e hown s' m c he hlen hbase
  refine wpList_plain hgd fun K hK => ?_
  unfold Oper.wp execOp
  simp only [ho, resolve, invoke, builtin, Sem.run_bind, Sem.run_pure, Result.andThen_ok, List.map_toArray, List.map_cons, List.map_nil, hs, hx, h0]
  exact hK _ _ (h s2 c2 w2 h1 ⟨h2, fun b hb => (hown.lt b hb).2⟩)
/-- A row's bytes as a string. -/
theorem run_str_by {T B S : TypeId} (hT : ByT T B) (hS : Tryz.prog.underlying S = some .string) (w : World) (s : Option Addr) (n cap : Nat) (d : List UInt8) (h : IsBy w s n cap d) :
    (convert T S (.slice s n cap)).run Tryz.prog w = .ok (.string ⟨d.toArray⟩) w := by
  obtain ⟨rfl, h2, h3⟩ := h
  cases s with
  | none =>
    rcases h3 with rfl | ⟨b, o, e, _⟩
    · rw [run_convert_bytes_string w T S B none _ cap hT.row hT.byte hS]
      rfl
    · cases e
  | some a =>
    refine run_convert_bytes_back w T S B a cap d hT.row hT.byte hS fun j hj => ?_
    rcases h3 with rfl | ⟨b, o, e, r⟩
    · simp at hj
    · cases e
      rw [addr_add]
      exact r.at j hj
theorem wf_u8 {n : Int} (h : (Lit.int .u8 n).wf = true) : 0 ≤ n ∧ n ≤ 255 := by
  unfold Lit.wf at h
  simp [IntKind.min, IntKind.max, IntKind.signed, IntKind.bits] at h
  omega
theorem u8_of {n : Int} (h : 0 ≤ n ∧ n ≤ 255) : ((UInt8.ofNat n.toNat).toNat : Int) = n := by
  rw [UInt8.toNat_ofNat']
  omega
/-- A row of bytes that came in. -/
theorem rows_by {T B : TypeId} (hT : ByT T B) (hB : Tryz.prog.cellsOf B = 1) {H : Type} {enc : TypeId × Value → H} {W : World} {s : Option Addr} {len cap : Nat} {d : DataW H} {p : List MemPlace} {base : Nat} {spare : Nat → Bool} {held : Bool}
    (h : DataW.Trod enc Tryz.prog W base spare held T (.slice s len cap) d p) : ∃ l : List UInt8, IsBy W s len cap l := by
  obtain ⟨fuel, hf⟩ := h
  rcases open_ints hT.row hT.byte hB hf with ⟨hcs, _⟩ | ⟨x, l, c, zs, hcs, _, hl, hm, hz, _, hcell, hwz⟩
  · simp [Value.cells] at hcs
    obtain ⟨rfl, rfl, rfl⟩ := hcs
    exact ⟨[], IsBy_nil W⟩
  · simp [Value.cells] at hcs
    obtain ⟨rfl, rfl, rfl⟩ := hcs
    have hz' : len ≤ zs.length := by rw [hz]; split <;> omega
    refine ⟨(List.range len).map fun j => UInt8.ofNat (zs.getD j 0).toNat, by simp, hl, ?_⟩
    by_cases h0 : len = 0
    · left; subst h0; rfl
    · right
      have hc := hcell 0 (by omega)
      obtain ⟨b, off, spot⟩ := x
      have hspot : spot = none := by simpa [Addr.add] using World.cell?_spot hc
      subst hspot
      refine ⟨b, off, rfl, fun j v hj => ?_⟩
      have hj' : j < len := by have := (List.getElem?_eq_some_iff.1 hj).1; simpa [flatU] using this
      have h1 := hcell j (by omega)
      have e : (Addr.mk b off none).add j = ⟨b, off + j, none⟩ := by cases j <;> rfl
      rw [e] at h1
      rw [h1]
      have hw := wf_u8 (hwz (zs.getD j 0) (by
        have hjz : j < zs.length := by omega
        rw [List.getD_eq_getElem?_getD, List.getElem?_eq_getElem hjz]
        exact List.getElem_mem hjz))
      have h2 := u8_of hw
      simp only [flatU, List.getElem?_map, List.getElem?_range hj', Option.map_some] at hj
      rw [h2] at hj
      exact hj
/-- A byte that came in. -/
theorem open_u8 {B : TypeId} (hB : Tryz.prog.underlying B = some (.int .u8)) {H : Type} {enc : TypeId × Value → H} {W : World} {v : Value} {d : DataW H} {p : List MemPlace} {base : Nat} {spare : Nat → Bool} {held : Bool} {c : Value}
    (hc : v.cells = #[c]) (h : DataW.Trod enc Tryz.prog W base spare held B v d p) : ∃ u : UInt8, c = .int .u8 (u.toNat : Int) := by
  obtain ⟨fuel, hf⟩ := h
  rw [hc] at hf
  obtain ⟨n, e, _, wx⟩ := DataW.trod_int hB hf
  simp at e
  subst e
  exact ⟨UInt8.ofNat n.toNat, by rw [u8_of (wf_u8 wx)]⟩
/-- A number made a byte. -/
theorem wrap_u8 (x : Int) : IntKind.u8.wrap x = ((byt x).toNat : Int) := by
  rw [byt_toNat]
  simp [IntKind.wrap, IntKind.signed, IntKind.bits]
theorem toNat_u8 (u : UInt8) : 0 ≤ (u.toNat : Int) ∧ (u.toNat : Int) ≤ 255 := by
  have := u.toNat_lt
  omega
/-- Two bytes made a number. -/
theorem num_of (h l : UInt8) : (¬ 256 * (h.toNat : Int) + l.toNat > 32767 → num h l = 256 * (h.toNat : Int) + l.toNat) ∧ (256 * (h.toNat : Int) + l.toNat > 32767 → num h l = 256 * (h.toNat : Int) + l.toNat - 65536) := by
  unfold num
  constructor
  · intro h; rw [if_neg h]
  · intro h; rw [if_pos h]
end Go.Proofs.YtjebipagehhkjaaGreat
