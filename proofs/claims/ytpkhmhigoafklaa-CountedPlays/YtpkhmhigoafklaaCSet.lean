/-
  What counted's New, Count and set do to the world: numbers of times in a map behind a pointer.
-/
import Derived.Test.YtpkhmhigoafklaaMpt
import Derived.Test.YtpkhmhigoafklaaEndR
import Derived.Test.YtpkhmhigoafklaaBox
namespace Go.Proofs.Ytpkhmhigoafklaa
set_option maxRecDepth 100000
open Go.RowKit
set_option linter.unusedVariables false
set_option linter.unusedSimpArgs false

/-- A pointer to numbers of times. -/
structure RepC (w : World) (p b : Nat) (s : Cs) : Prop where
  cell : w.cell? ⟨p, 0, none⟩ = some (.map (some b))
  map : MapR w b s
theorem RepC.lt {w : World} {p b : Nat} {s : Cs} (h : RepC w p b s) : p < w.heap.size := World.block_lt_of_cell? _ _ h.cell
theorem RepC.ne {w : World} {p b : Nat} {s : Cs} (h : RepC w p b s) : p ≠ b := by
  intro e
  subst e
  obtain ⟨D, ⟨es, clock, hb, _⟩, _⟩ := h.map
  have := h.cell
  simp [World.cell?, hb] at this
theorem RepC.keep {w w' : World} {p b : Nat} {s : Cs} (h : RepC w p b s) (hp : w'.heap[p]? = w.heap[p]?) (hb : w'.heap[b]? = w.heap[b]?) : RepC w' p b s :=
  ⟨by rw [World.cell?_of_block (w := w) (a := ⟨p, 0, none⟩) hp]; exact h.cell, h.map.keep hb⟩
theorem RepC.later {w w' : World} {p b : Nat} {s : Cs} (hg : Grow w w') (h : RepC w p b s) : RepC w' p b s := h.keep (hg.block p h.lt) (hg.block b h.map.lt)
/-- The map has turned, and the pointer still leads to it. -/
theorem RepC.turn {w w' : World} {p b : Nat} {s s' : Cs} (h : RepC w p b s) (hg : w.grownBy w' (some b)) (hm : MapR w' b s') : RepC w' p b s' :=
  ⟨hg.cell h.cell (fun e => h.ne (Option.some.inj e)), hm⟩
theorem grown_of {w w' : World} (h : Grow w w') : w.grownBy w' none := ⟨h.os, h.tape, h.output, h.size, fun k hk _ => h.block k hk⟩
theorem grown_to {w w' : World} (h : w.grownBy w' none) : Grow w w' := ⟨h.os, h.tape, h.output, h.size, fun k hk => h.block k hk (by simp)⟩
theorem grown_pre {a b' c : World} {row : Option Nat} (h : Grow a b') (k : b'.grownBy c row) : a.grownBy c row :=
  ⟨k.os.trans h.os, k.tape.trans h.tape, k.output.trans h.output, Nat.le_trans h.size k.size, fun i hi hne => (k.block i (Nat.lt_of_lt_of_le hi h.size) hne).trans (h.block i hi)⟩
theorem grown_post {a b' c : World} {row : Option Nat} (h : a.grownBy b' row) (k : Grow b' c) : a.grownBy c row :=
  ⟨k.os.trans h.os, k.tape.trans h.tape, k.output.trans h.output, Nat.le_trans h.size k.size, fun i hi hne => (k.block i (Nat.lt_of_lt_of_le hi h.size)).trans (h.block i hi hne)⟩

set_option maxHeartbeats 1000000 in
theorem set0_any (p b : Nat) (s : Cs) (t : Tm) (w : World) (hok : s.ok) (ht : wfT t) (hR : RepC w p b s) :
    Calls Try.prog 26 #[.pointer (some ⟨p, 0, none⟩), .agg #[.int .i64 t.e, .int .i64 t.d, .int .i64 t.x, .int .i64 t.y, .int .i64 t.z], .int .i64 0] w fun e w' => e = .returned (.tuple #[]) ∧ RepC w' p b (s.next t 0) ∧ w.grownBy w' (some b) := by
  have G0 : Hid (Grow w (w.alloc (.cells #[.int .i64 t.e, .int .i64 t.d, .int .i64 t.x, .int .i64 t.y, .int .i64 t.z] 25))) := hide (Grow.alloc' _ _)
  have KX : Hid (Box (w.alloc (.cells #[.int .i64 t.e, .int .i64 t.d, .int .i64 t.x, .int .i64 t.y, .int .i64 t.z] 25)) w.heap.size t) := hide (Box.new _ _)
  have HR := hide (hR.later G0.out)
  clear hR
  go_enter Try.func26, Try.ntmps26
  go_wp2_with fail
  generalize w.alloc (.cells #[.int .i64 t.e, .int .i64 t.d, .int .i64 t.x, .int .i64 t.y, .int .i64 t.z] 25) = w0 at *
  refine wp_region_end (fun i vF wF => match i with | 0 => vF = .pointer (some ⟨p, 0, none⟩) | 1 => vF = .pointer (some ⟨p, 0, none⟩) | 2 => vF = .pointer (some ⟨p, 0, none⟩) | 3 => vF = .map (some b) | 4 => vF = .agg #[.int .i64 t.e, .int .i64 t.d, .int .i64 t.x, .int .i64 t.y, .int .i64 t.z] | _ => True) 5 _ rfl rfl rfl (by kernel_rfl) (by kernel_rfl) ?_ ?_ ?_
  · intro k v w1 w2 hg h
    match k with
    | 0 => exact h
    | 1 => exact h
    | 2 => exact h
    | 3 => exact h
    | 4 => exact h
    | k + 5 => exact trivial
  · refine ⟨?_, ?_, ?_, ?_, ?_, trivial⟩
    · refine stepOne_run trivial ?_
      intro a' w' hg hs hd
      have e0 : a'.eval (.tmp 0) = .pointer (some ⟨p, 0, none⟩) := hs.rest 0 rfl
      have ec : ∀ v, a'.eval (.const v) = v := fun _ => rfl
      have ef : ∀ g, a'.eval (.func g) = .func (.func g) #[] #[] := fun _ => rfl
      clear hd hs
      refine wpv (v := .pointer (some ⟨p, 0, none⟩)) ?_ ⟨_, rfl, Grow.rfl' _, rfl⟩
      (generalize a'.eval = ev at ec ef e0 ⊢; simp [execOp, go_sem, *])
    · refine stepOne_run trivial ?_
      intro a' w' hg hs hd
      have e8 : a'.eval (.tmp 8) = .pointer (some ⟨p, 0, none⟩) := hd ⟨0, Ground.data⟩ (by simp) rfl
      have ec : ∀ v, a'.eval (.const v) = v := fun _ => rfl
      have ef : ∀ g, a'.eval (.func g) = .func (.func g) #[] #[] := fun _ => rfl
      clear hd hs
      refine wpv (v := .pointer (some ⟨p, 0, none⟩)) ?_ ⟨_, rfl, Grow.rfl' _, rfl⟩
      (generalize a'.eval = ev at ec ef e8 ⊢; simp [execOp, go_sem, *])
    · refine stepOne_run trivial ?_
      intro a' w' hg hs hd
      have e9 : a'.eval (.tmp 9) = .pointer (some ⟨p, 0, none⟩) := hd ⟨1, Ground.data⟩ (by simp) rfl
      have ec : ∀ v, a'.eval (.const v) = v := fun _ => rfl
      have ef : ∀ g, a'.eval (.func g) = .func (.func g) #[] #[] := fun _ => rfl
      clear hd hs
      refine wpv (v := .pointer (some ⟨p, 0, none⟩)) ?_ ⟨_, rfl, Grow.rfl' _, rfl⟩
      (generalize a'.eval = ev at ec ef e9 ⊢; simp [execOp, go_sem, *])
    · refine stepOne_run trivial ?_
      intro a' w' hg hs hd
      have e10 : a'.eval (.tmp 10) = .pointer (some ⟨p, 0, none⟩) := hd ⟨2, Ground.data⟩ (by simp) rfl
      have ec : ∀ v, a'.eval (.const v) = v := fun _ => rfl
      have ef : ∀ g, a'.eval (.func g) = .func (.func g) #[] #[] := fun _ => rfl
      have hc := (HR.out.later hg).cell
      clear hd hs
      refine wpv (v := .map (some b)) ?_ ⟨_, rfl, Grow.rfl' _, rfl⟩
      (generalize a'.eval = ev at ec ef e10 ⊢; simp [execOp, go_sem, *])
    · refine stepOne_run trivial ?_
      intro a' w' hg hs hd
      have e4 : a'.eval (.tmp 4) = .pointer (some ⟨w.heap.size, 0, none⟩) := hs.rest 4 rfl
      have ec : ∀ v, a'.eval (.const v) = v := fun _ => rfl
      have ef : ∀ g, a'.eval (.func g) = .func (.func g) #[] #[] := fun _ => rfl
      obtain ⟨x0, x1, x2, x3, x4⟩ := KX.out.later hg
      clear hd hs
      refine wpv (v := .agg #[.int .i64 t.e, .int .i64 t.d, .int .i64 t.x, .int .i64 t.y, .int .i64 t.z]) ?_ ⟨_, rfl, Grow.rfl' _, rfl⟩
      (generalize a'.eval = ev at ec ef e4 ⊢; simp [execOp, go_sem, *])
  · intro a' w' hg hs hd
    have e11 : a'.eval (.tmp 11) = .map (some b) := hd 3 (by omega)
    have e12 : a'.eval (.tmp 12) = .agg #[.int .i64 t.e, .int .i64 t.d, .int .i64 t.x, .int .i64 t.y, .int .i64 t.z] := hd 4 (by omega)
    have ec : ∀ v, a'.eval (.const v) = v := fun _ => rfl
    have ef : ∀ g, a'.eval (.func g) = .func (.func g) #[] #[] := fun _ => rfl
    obtain ⟨w2, hrun, hM, hT⟩ := (HR.out.later hg).map.del hok ht 0
    refine wpv (v := .tuple #[]) (w' := w2) ?_ ?_
    · (generalize a'.eval = ev at ec ef e11 e12 ⊢; simp [execOp, go_sem, *])
    go_wp2_with fail
    refine bodyPost_ret (v := .tuple #[]) (by simp [results, Try.results26]) (by rw [put_defers, hs.defers]) ⟨rfl, (HR.out.later hg).turn hT hM, grown_pre (Grow.trans' G0.out hg) hT⟩

theorem mapNil (b : Nat) (w : World) : (binOp .eql 49 (.map (some b)) (.map none)).run Try.prog w = .ok (.bool false) w := by kernel_rfl
set_option maxHeartbeats 1000000 in
theorem setN_any (p b : Nat) (s : Cs) (t : Tm) (n : Int) (w : World) (hok : s.ok) (ht : wfT t) (hn : fitsB n = true) (h0 : ¬ n = 0) (hR : RepC w p b s) :
    Calls Try.prog 26 #[.pointer (some ⟨p, 0, none⟩), .agg #[.int .i64 t.e, .int .i64 t.d, .int .i64 t.x, .int .i64 t.y, .int .i64 t.z], .int .i64 n] w fun e w' => e = .returned (.tuple #[]) ∧ RepC w' p b (s.next t n) ∧ w.grownBy w' (some b) := by
  have G0 : Hid (Grow w (w.alloc (.cells #[.int .i64 t.e, .int .i64 t.d, .int .i64 t.x, .int .i64 t.y, .int .i64 t.z] 25))) := hide (Grow.alloc' _ _)
  have KX : Hid (Box (w.alloc (.cells #[.int .i64 t.e, .int .i64 t.d, .int .i64 t.x, .int .i64 t.y, .int .i64 t.z] 25)) w.heap.size t) := hide (Box.new _ _)
  have HR := hide (hR.later G0.out)
  have HN := hide hn
  have hpl := hR.lt
  have hc0 := hR.cell
  have hmn := mapNil b
  clear hR hn
  go_enter Try.func26, Try.ntmps26
  go_wp2_with fail
  clear hc0 hmn
  generalize w.alloc (.cells #[.int .i64 t.e, .int .i64 t.d, .int .i64 t.x, .int .i64 t.y, .int .i64 t.z] 25) = w0 at *
  refine wp_region_end (fun i vF wF => match i with | 0 => vF = .pointer (some ⟨p, 0, none⟩) | 1 => vF = .pointer (some ⟨p, 0, none⟩) | 2 => vF = .pointer (some ⟨p, 0, none⟩) | 3 => vF = .map (some b) | 4 => vF = .agg #[.int .i64 t.e, .int .i64 t.d, .int .i64 t.x, .int .i64 t.y, .int .i64 t.z] | 5 => vF = .int .i64 n | _ => True) 6 _ rfl rfl rfl (by kernel_rfl) (by kernel_rfl) ?_ ?_ ?_
  · intro k v w1 w2 hg h
    match k with
    | 0 => exact h
    | 1 => exact h
    | 2 => exact h
    | 3 => exact h
    | 4 => exact h
    | 5 => exact h
    | k + 6 => exact trivial
  · refine ⟨?_, ?_, ?_, ?_, ?_, ?_, trivial⟩
    · refine stepOne_run trivial ?_
      intro a' w' hg hs hd
      have e0 : a'.eval (.tmp 0) = .pointer (some ⟨p, 0, none⟩) := hs.rest 0 rfl
      have ec : ∀ v, a'.eval (.const v) = v := fun _ => rfl
      have ef : ∀ g, a'.eval (.func g) = .func (.func g) #[] #[] := fun _ => rfl
      clear hd hs
      refine wpv (v := .pointer (some ⟨p, 0, none⟩)) ?_ ⟨_, rfl, Grow.rfl' _, rfl⟩
      (generalize a'.eval = ev at ec ef e0 ⊢; simp [execOp, go_sem, *])
    · refine stepOne_run trivial ?_
      intro a' w' hg hs hd
      have e22 : a'.eval (.tmp 22) = .pointer (some ⟨p, 0, none⟩) := hd ⟨0, Ground.data⟩ (by simp) rfl
      have ec : ∀ v, a'.eval (.const v) = v := fun _ => rfl
      have ef : ∀ g, a'.eval (.func g) = .func (.func g) #[] #[] := fun _ => rfl
      clear hd hs
      refine wpv (v := .pointer (some ⟨p, 0, none⟩)) ?_ ⟨_, rfl, Grow.rfl' _, rfl⟩
      (generalize a'.eval = ev at ec ef e22 ⊢; simp [execOp, go_sem, *])
    · refine stepOne_run trivial ?_
      intro a' w' hg hs hd
      have e23 : a'.eval (.tmp 23) = .pointer (some ⟨p, 0, none⟩) := hd ⟨1, Ground.data⟩ (by simp) rfl
      have ec : ∀ v, a'.eval (.const v) = v := fun _ => rfl
      have ef : ∀ g, a'.eval (.func g) = .func (.func g) #[] #[] := fun _ => rfl
      clear hd hs
      refine wpv (v := .pointer (some ⟨p, 0, none⟩)) ?_ ⟨_, rfl, Grow.rfl' _, rfl⟩
      (generalize a'.eval = ev at ec ef e23 ⊢; simp [execOp, go_sem, *])
    · refine stepOne_run trivial ?_
      intro a' w' hg hs hd
      have e24 : a'.eval (.tmp 24) = .pointer (some ⟨p, 0, none⟩) := hd ⟨2, Ground.data⟩ (by simp) rfl
      have ec : ∀ v, a'.eval (.const v) = v := fun _ => rfl
      have ef : ∀ g, a'.eval (.func g) = .func (.func g) #[] #[] := fun _ => rfl
      have hc := (HR.out.later hg).cell
      clear hd hs
      refine wpv (v := .map (some b)) ?_ ⟨_, rfl, Grow.rfl' _, rfl⟩
      (generalize a'.eval = ev at ec ef e24 ⊢; simp [execOp, go_sem, *])
    · refine stepOne_run trivial ?_
      intro a' w' hg hs hd
      have e4 : a'.eval (.tmp 4) = .pointer (some ⟨w.heap.size, 0, none⟩) := hs.rest 4 rfl
      have ec : ∀ v, a'.eval (.const v) = v := fun _ => rfl
      have ef : ∀ g, a'.eval (.func g) = .func (.func g) #[] #[] := fun _ => rfl
      obtain ⟨x0, x1, x2, x3, x4⟩ := KX.out.later hg
      clear hd hs
      refine wpv (v := .agg #[.int .i64 t.e, .int .i64 t.d, .int .i64 t.x, .int .i64 t.y, .int .i64 t.z]) ?_ ⟨_, rfl, Grow.rfl' _, rfl⟩
      (generalize a'.eval = ev at ec ef e4 ⊢; simp [execOp, go_sem, *])
    · refine stepOne_run trivial ?_
      intro a' w' hg hs hd
      have e2 : a'.eval (.tmp 2) = .int .i64 n := hs.rest 2 rfl
      have ec : ∀ v, a'.eval (.const v) = v := fun _ => rfl
      have ef : ∀ g, a'.eval (.func g) = .func (.func g) #[] #[] := fun _ => rfl
      clear hd hs
      refine wpv (v := .int .i64 n) ?_ ⟨_, rfl, Grow.rfl' _, rfl⟩
      (generalize a'.eval = ev at ec ef e2 ⊢; simp [execOp, go_sem, *])
  · intro a' w' hg hs hd
    have e25 : a'.eval (.tmp 25) = .map (some b) := hd 3 (by omega)
    have e26 : a'.eval (.tmp 26) = .agg #[.int .i64 t.e, .int .i64 t.d, .int .i64 t.x, .int .i64 t.y, .int .i64 t.z] := hd 4 (by omega)
    have e27 : a'.eval (.tmp 27) = .int .i64 n := hd 5 (by omega)
    have ec : ∀ v, a'.eval (.const v) = v := fun _ => rfl
    have ef : ∀ g, a'.eval (.func g) = .func (.func g) #[] #[] := fun _ => rfl
    obtain ⟨w2, hrun, hM, hT⟩ := (HR.out.later hg).map.set hok ht HN.out h0
    refine wps (w' := w2) ?_ ?_
    · (generalize a'.eval = ev at ec ef e25 e26 e27 ⊢; simp [execOp, go_sem, *])
    refine bodyPost_end (v := .tuple #[]) (by simp [results, Try.results26]) (by rw [put_defers, hs.defers]) ⟨rfl, (HR.out.later hg).turn hT hM, grown_pre (Grow.trans' G0.out hg) hT⟩

/-- n is made the number of t. -/
theorem set_any (p b : Nat) (s : Cs) (t : Tm) (n : Int) (w : World) (hok : s.ok) (ht : wfT t) (hn : fitsB n = true) (hR : RepC w p b s) :
    Calls Try.prog 26 #[.pointer (some ⟨p, 0, none⟩), .agg #[.int .i64 t.e, .int .i64 t.d, .int .i64 t.x, .int .i64 t.y, .int .i64 t.z], .int .i64 n] w fun e w' => e = .returned (.tuple #[]) ∧ RepC w' p b (s.next t n) ∧ w.grownBy w' (some b) := by
  by_cases h : n = 0
  · subst h; exact set0_any p b s t w hok ht hR
  · exact setN_any p b s t n w hok ht hn h hR

set_option maxHeartbeats 1000000 in
theorem count_any (p b : Nat) (s : Cs) (t : Tm) (w : World) (ht : wfT t) (hR : RepC w p b s) :
    Calls Try.prog 18 #[.pointer (some ⟨p, 0, none⟩), .agg #[.int .i64 t.e, .int .i64 t.d, .int .i64 t.x, .int .i64 t.y, .int .i64 t.z]] w fun e w' => e = .returned (.int .i64 (s.f t)) ∧ Grow w w' := by
  have G0 : Hid (Grow w (w.alloc (.cells #[.int .i64 t.e, .int .i64 t.d, .int .i64 t.x, .int .i64 t.y, .int .i64 t.z] 25))) := hide (Grow.alloc' _ _)
  have KX : Hid (Box (w.alloc (.cells #[.int .i64 t.e, .int .i64 t.d, .int .i64 t.x, .int .i64 t.y, .int .i64 t.z] 25)) w.heap.size t) := hide (Box.new _ _)
  have HR := hide (hR.later G0.out)
  clear hR
  go_enter Try.func18, Try.ntmps18
  go_wp2_with fail
  generalize w.alloc (.cells #[.int .i64 t.e, .int .i64 t.d, .int .i64 t.x, .int .i64 t.y, .int .i64 t.z] 25) = w0 at *
  let FF : Nat → Value → World → Prop := fun i vF wF => match i with | 0 => vF = .pointer (some ⟨p, 0, none⟩) | 1 => vF = .pointer (some ⟨p, 0, none⟩) | 2 => vF = .pointer (some ⟨p, 0, none⟩) | 3 => vF = .map (some b) | 4 => vF = .agg #[.int .i64 t.e, .int .i64 t.d, .int .i64 t.x, .int .i64 t.y, .int .i64 t.z] | 5 => vF = .int .i64 (s.f t) | 6 => vF = .int .i64 (s.f t) | _ => True
  have hstab : ∀ k v w1 w2, Grow w1 w2 → FF k v w1 → FF k v w2 := by
    intro k v w1 w2 hg h
    match k with
    | 0 => exact h
    | 1 => exact h
    | 2 => exact h
    | 3 => exact h
    | 4 => exact h
    | 5 => exact h
    | 6 => exact h
    | k + 7 => exact trivial
  refine wp_region_invK FF (fun _ => none) (by kernel_rfl) (by kernel_rfl) ?_ ?_
  · refine ⟨?_, ?_, ?_, ?_, ?_, ?_, ?_, trivial⟩
    · refine stepK_run hstab trivial (by intro j b h; cases h) ?_
      intro a' w' hg hs hd
      have e0 : a'.eval (.tmp 0) = .pointer (some ⟨p, 0, none⟩) := hs.rest 0 rfl
      have ec : ∀ v, a'.eval (.const v) = v := fun _ => rfl
      have ef : ∀ g, a'.eval (.func g) = .func (.func g) #[] #[] := fun _ => rfl
      clear hd hs
      refine wpv (v := .pointer (some ⟨p, 0, none⟩)) ?_ ⟨_, rfl, Grow.rfl' _, rfl⟩
      (generalize a'.eval = ev at ec ef e0 ⊢; simp [execOp, go_sem, *])
    · refine stepK_run hstab trivial (by intro j b h; cases h) ?_
      intro a' w' hg hs hd
      have e5 : a'.eval (.tmp 5) = .pointer (some ⟨p, 0, none⟩) := hd ⟨0, Ground.data⟩ (by simp) rfl rfl
      have ec : ∀ v, a'.eval (.const v) = v := fun _ => rfl
      have ef : ∀ g, a'.eval (.func g) = .func (.func g) #[] #[] := fun _ => rfl
      clear hd hs
      refine wpv (v := .pointer (some ⟨p, 0, none⟩)) ?_ ⟨_, rfl, Grow.rfl' _, rfl⟩
      (generalize a'.eval = ev at ec ef e5 ⊢; simp [execOp, go_sem, *])
    · refine stepK_run hstab trivial (by intro j b h; cases h) ?_
      intro a' w' hg hs hd
      have e6 : a'.eval (.tmp 6) = .pointer (some ⟨p, 0, none⟩) := hd ⟨1, Ground.data⟩ (by simp) rfl rfl
      have ec : ∀ v, a'.eval (.const v) = v := fun _ => rfl
      have ef : ∀ g, a'.eval (.func g) = .func (.func g) #[] #[] := fun _ => rfl
      clear hd hs
      refine wpv (v := .pointer (some ⟨p, 0, none⟩)) ?_ ⟨_, rfl, Grow.rfl' _, rfl⟩
      (generalize a'.eval = ev at ec ef e6 ⊢; simp [execOp, go_sem, *])
    · refine stepK_run hstab trivial (by intro j b h; cases h) ?_
      intro a' w' hg hs hd
      have e7 : a'.eval (.tmp 7) = .pointer (some ⟨p, 0, none⟩) := hd ⟨2, Ground.data⟩ (by simp) rfl rfl
      have ec : ∀ v, a'.eval (.const v) = v := fun _ => rfl
      have ef : ∀ g, a'.eval (.func g) = .func (.func g) #[] #[] := fun _ => rfl
      clear hd hs
      have hc := (HR.out.later hg).cell
      refine wpv (v := .map (some b)) ?_ ⟨_, rfl, Grow.rfl' _, rfl⟩
      (generalize a'.eval = ev at ec ef e7 ⊢; simp [execOp, go_sem, *])
    · refine stepK_run hstab trivial (by intro j b h; cases h) ?_
      intro a' w' hg hs hd
      have e3 : a'.eval (.tmp 3) = .pointer (some ⟨w.heap.size, 0, none⟩) := hs.rest 3 rfl
      have ec : ∀ v, a'.eval (.const v) = v := fun _ => rfl
      have ef : ∀ g, a'.eval (.func g) = .func (.func g) #[] #[] := fun _ => rfl
      clear hd hs
      obtain ⟨x0, x1, x2, x3, x4⟩ := KX.out.later hg
      refine wpv (v := .agg #[.int .i64 t.e, .int .i64 t.d, .int .i64 t.x, .int .i64 t.y, .int .i64 t.z]) ?_ ⟨_, rfl, Grow.rfl' _, rfl⟩
      (generalize a'.eval = ev at ec ef e3 ⊢; simp [execOp, go_sem, *])
    · refine stepK_run hstab trivial (by intro j b h; cases h) ?_
      intro a' w' hg hs hd
      have e8 : a'.eval (.tmp 8) = .map (some b) := hd ⟨3, Ground.data⟩ (by simp) rfl rfl
      have e9 : a'.eval (.tmp 9) = .agg #[.int .i64 t.e, .int .i64 t.d, .int .i64 t.x, .int .i64 t.y, .int .i64 t.z] := hd ⟨4, Ground.data⟩ (by simp) rfl rfl
      have ec : ∀ v, a'.eval (.const v) = v := fun _ => rfl
      have ef : ∀ g, a'.eval (.func g) = .func (.func g) #[] #[] := fun _ => rfl
      clear hd hs
      have hl := (HR.out.later hg).map.get ht
      refine wpv (v := .int .i64 (s.f t)) ?_ ⟨_, rfl, Grow.rfl' _, rfl⟩
      (generalize a'.eval = ev at ec ef e8 e9 ⊢; simp [execOp, go_sem, *])
    · refine stepK_run hstab trivial (by intro j b h; cases h) ?_
      intro a' w' hg hs hd
      have e10 : a'.eval (.tmp 10) = .int .i64 (s.f t) := hd ⟨5, Ground.data⟩ (by simp) rfl rfl
      have ec : ∀ v, a'.eval (.const v) = v := fun _ => rfl
      have ef : ∀ g, a'.eval (.func g) = .func (.func g) #[] #[] := fun _ => rfl
      clear hd hs
      refine wpv (v := .int .i64 (s.f t)) ?_ ⟨_, rfl, Grow.rfl' _, rfl⟩
      (generalize a'.eval = ev at ec ef e10 ⊢; simp [execOp, go_sem, *])
  · intro a' w' hg hs hd
    have e4 : a'.eval (.tmp 4) = .int .i64 (s.f t) := hd 6 (by simp) (by intro k h; cases h)
    go_wp2_with fail
    refine bodyPost_ret (v := .int .i64 (s.f t)) ?_ (by rw [hs.defers]) ⟨rfl, Grow.trans' G0.out hg⟩
    clear hd hs hstab
    simpa [results, Try.results18, Act.eval] using e4

/-- New numbers: none. -/
theorem new_any (w : World) : Calls Try.prog 10 #[] w fun e w' => ∃ p b, e = .returned (.pointer (some ⟨p, 0, none⟩)) ∧ Grow w w' ∧ RepC w' p b Cs.none ∧ w.heap.size ≤ p ∧ w.heap.size ≤ b := by
  have hmm := @run_makeMap Try.prog
  go_enter Try.func10, Try.ntmps10
  go_wp2
  go_ret
  refine ⟨w.heap.size + 1, w.heap.size, rfl, Grow.trans' (Grow.alloc' _ _) (Grow.alloc' _ _), ⟨by simp [go_sem], (MapR.new w).later (Grow.alloc' _ _)⟩, by omega, Nat.le_refl _⟩

end Go.Proofs.Ytpkhmhigoafklaa
