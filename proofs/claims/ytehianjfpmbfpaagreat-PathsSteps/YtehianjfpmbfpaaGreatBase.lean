/-
  Logical times as plain data, and what is said of them; small lemmas for the walks.
-/
import Derived.Test.YtehianjfpmbfpaaGreatRows
import Derived.WalkKit
import Derived.WalkSpells
import Derived.WalkLawsBesides
import Derived.BigQuiet
import Derived.Lib.QuietBelow
namespace Go.Proofs.YtehianjfpmbfpaaGreat
open Go.RowKit

/-- A logical time: an epoch, a depth, three counters. -/
structure Tm where
  e : Int
  d : Int
  x : Int
  y : Int
  z : Int

def depthB (d : Int) : Bool := decide (0 ≤ d) && decide (d ≤ 3)
def likeB (a b : Tm) : Bool := decide (a.d = b.d) && depthB a.d
def leB (a b : Tm) : Bool := likeB a b && decide (a.e ≤ b.e) && (decide (a.d < 1) || decide (a.x ≤ b.x)) && (decide (a.d < 2) || decide (a.y ≤ b.y)) && (decide (a.d < 3) || decide (a.z ≤ b.z))
def mayB (t : Tm) : Bool :=
  decide (0 ≤ t.e) && decide (t.e ≤ 1048576) && depthB t.d && decide (0 ≤ t.x) && decide (0 ≤ t.y) && decide (0 ≤ t.z)
    && decide (t.x ≤ if 0 < t.d then 1000 else 0) && decide (t.y ≤ if 1 < t.d then 1000 else 0) && decide (t.z ≤ if 2 < t.d then 1000 else 0)

theorem ret_bool {p q : Bool} (h : p = true ↔ q = true) : Ending.returned (.bool p) = .returned (.bool q) := by
  have : p = q := by cases p <;> cases q <;> simp_all
  rw [this]

theorem ret_int {k : IntKind} {a b : Int} (h : a = b) : Ending.returned (.int k a) = .returned (.int k b) := by rw [h]

theorem bcell {W w1 : World} (hb : Below W.heap.size W w1) : (∀ b o, b < W.heap.size → w1.cell? ⟨b, o, none⟩ = W.cell? ⟨b, o, none⟩) ∧ (∀ b o, b < W.heap.size → w1.frozen? ⟨b, o, none⟩ = W.frozen? ⟨b, o, none⟩) :=
  ⟨fun b o h => hb.cell (p := ⟨b, o, none⟩) h, fun b o h => hb.frozen (p := ⟨b, o, none⟩) h⟩

theorem hide {p : Prop} (h : p) : Hid p := h

theorem below2 {w w1 w2 : World} {A B : Obj} (h1 : Below ((w.alloc A).alloc B).heap.size ((w.alloc A).alloc B) w1) (h2 : Below w1.heap.size w1 w2) : Below w.heap.size w w2 :=
  ((((Below.refl _ _).alloc (Nat.le_refl _) A).alloc (by simp) B).trans (h1.mono (by simp; omega))).trans (h2.mono (by have := h1.size; simp at this; omega))
theorem below1 {w w1 : World} {A B : Obj} (h1 : Below ((w.alloc A).alloc B).heap.size ((w.alloc A).alloc B) w1) : Below w.heap.size w w1 :=
  (((Below.refl _ _).alloc (Nat.le_refl _) A).alloc (by simp) B).trans (h1.mono (by simp; omega))

def lessB (a b : Tm) : Bool := leB a b && !leB b a
def maxI (x y : Int) : Int := if y > x then y else x
def minI (x y : Int) : Int := if y < x then y else x
theorem run_maxI {P : Program} {w : World} (ts : Array TypeId) (t : TypeId) (x y : Int) : (Builtin.max_ ts t #[.int .i64 x, .int .i64 y]).run P w = .ok (.int .i64 (maxI x y)) w := by
  rw [run_max_int2]; rfl
theorem run_minI {P : Program} {w : World} (ts : Array TypeId) (t : TypeId) (x y : Int) : (Builtin.min_ ts t #[.int .i64 x, .int .i64 y]).run P w = .ok (.int .i64 (minI x y)) w := by
  rw [run_min_int2]; rfl
def joinT (a b : Tm) : Tm := ⟨maxI a.e b.e, a.d, if 0 < a.d then maxI a.x b.x else 0, if 1 < a.d then maxI a.y b.y else 0, if 2 < a.d then maxI a.z b.z else 0⟩
def meetT (a b : Tm) : Tm := ⟨minI a.e b.e, a.d, if 0 < a.d then minI a.x b.x else 0, if 1 < a.d then minI a.y b.y else 0, if 2 < a.d then minI a.z b.z else 0⟩
def cmpI (a b : Int) : Int := if a < b then -1 else if b < a then 1 else 0
def orderI (a b : Tm) : Int :=
  if cmpI a.d b.d ≠ 0 then cmpI a.d b.d else if cmpI a.e b.e ≠ 0 then cmpI a.e b.e else if cmpI a.x b.x ≠ 0 then cmpI a.x b.x else if cmpI a.y b.y ≠ 0 then cmpI a.y b.y else cmpI a.z b.z

end Go.Proofs.YtehianjfpmbfpaaGreat
