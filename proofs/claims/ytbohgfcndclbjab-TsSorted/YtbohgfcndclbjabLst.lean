/-
  Plain facts of rows of times: their cells one behind the other; their total order; what is sorted is sorted in one way alone.
-/
import Derived.Test.YtbohgfcndclbjabFacts
import Derived.Shelf.SlSortCmp.WholeK
namespace Go.Proofs.Ytbohgfcndclbjab
open Go.RowKit Go.Sort
set_option linter.unusedVariables false

def encT (t : Tm) : List Value := [.int .i64 t.e, .int .i64 t.d, .int .i64 t.x, .int .i64 t.y, .int .i64 t.z]
theorem encT_len (t : Tm) : (encT t).length = 5 := rfl
/-- The cells of a row of times. -/
def flatT (d : List Tm) : List Value := d.flatMap encT
theorem flatT_nil : flatT [] = [] := rfl
theorem flatT_cons (t : Tm) (d : List Tm) : flatT (t :: d) = encT t ++ flatT d := rfl
theorem flatT_append (d e : List Tm) : flatT (d ++ e) = flatT d ++ flatT e := by simp [flatT]
theorem flatT_len : ∀ d : List Tm, (flatT d).length = d.length * 5
  | [] => rfl
  | t :: d => by rw [flatT_cons, List.length_append, flatT_len d, encT_len, List.length_cons]; omega
theorem flatT_drop : ∀ (d : List Tm) (j : Nat), (flatT d).drop (j * 5) = flatT (d.drop j)
  | [], j => by simp [flatT]
  | t :: d, 0 => by simp
  | t :: d, j + 1 => by
    rw [flatT_cons, show (j + 1) * 5 = (encT t).length + j * 5 by rw [encT_len]; omega, List.drop_append, List.drop_of_length_le (by omega)]
    simpa using flatT_drop d j
theorem flatT_take : ∀ (d : List Tm) (j : Nat), (flatT d).take (j * 5) = flatT (d.take j)
  | [], j => by simp [flatT]
  | t :: d, 0 => by simp [flatT]
  | t :: d, j + 1 => by
    rw [flatT_cons, show (j + 1) * 5 = (encT t).length + j * 5 by rw [encT_len]; omega, List.take_length_add_append, flatT_take d j]
    rfl
theorem flatT_get (d : List Tm) (j i : Nat) (hj : j < d.length) (hi : i < 5) : (flatT d)[j * 5 + i]? = (encT d[j])[i]? := by
  rw [← List.getElem?_drop, flatT_drop, List.drop_eq_getElem_cons hj, flatT_cons, List.getElem?_append_left (by rw [encT_len]; exact hi)]

theorem flatK_eq [Inhabited Tm] (d : Array Tm) : flatK encT 5 d = (flatT d.toList).toArray := by
  apply Array.ext_getElem?
  intro t
  by_cases h : t < d.size * 5
  · have h1 : t / 5 < d.toList.length := by simp; omega
    have e : t = t / 5 * 5 + t % 5 := by omega
    have hg := flatT_get d.toList (t / 5) (t % 5) h1 (by omega)
    rw [← e] at hg
    have h5 : t % 5 < (encT d.toList[t / 5]).length := by rw [encT_len]; omega
    have e2 : (flatT d.toList).toArray[t]? = (flatT d.toList)[t]? := by simp
    rw [e2, hg, List.getElem?_eq_getElem h5]
    have h2 : t < (flatK encT 5 d).size := by simpa using h
    rw [Array.getElem?_eq_getElem h2]
    congr 1
    have := get_flatK encT 5 d t h
    rw [getElem!_pos _ t h2] at this
    rw [this]
    have h3 : t / 5 < d.size := by omega
    rw [getElem!_pos d (t / 5) h3, getElem!_pos _ (t % 5) (by rw [encT_len]; omega)]
    rfl
  · rw [Array.getElem?_eq_none (by simp; omega), Array.getElem?_eq_none (by simp [flatT_len]; omega)]

/-- The total order, number by number. -/
def lexLt (a b : Tm) : Prop := a.d < b.d ∨ a.d = b.d ∧ (a.e < b.e ∨ a.e = b.e ∧ (a.x < b.x ∨ a.x = b.x ∧ (a.y < b.y ∨ a.y = b.y ∧ a.z < b.z)))
theorem order_lt (a b : Tm) : orderI a b < 0 ↔ lexLt a b := by
  unfold orderI lexLt
  rcases cmpI_cases a.d b.d with ⟨h, k⟩ | ⟨h, k⟩ | ⟨h, k⟩ <;> simp only [h] <;> first | (constructor <;> intro <;> first | omega | simp) | skip
  rcases cmpI_cases a.e b.e with ⟨h, k⟩ | ⟨h, k⟩ | ⟨h, k⟩ <;> simp only [h] <;> first | (constructor <;> intro <;> first | omega | simp) | skip
  rcases cmpI_cases a.x b.x with ⟨h, k⟩ | ⟨h, k⟩ | ⟨h, k⟩ <;> simp only [h] <;> first | (constructor <;> intro <;> first | omega | simp) | skip
  rcases cmpI_cases a.y b.y with ⟨h, k⟩ | ⟨h, k⟩ | ⟨h, k⟩ <;> simp only [h] <;> first | (constructor <;> intro <;> first | omega | simp) | skip
  rcases cmpI_cases a.z b.z with ⟨h, k⟩ | ⟨h, k⟩ | ⟨h, k⟩ <;> simp only [h] <;> (constructor <;> intro <;> first | omega | simp)
theorem ltOf_order (a b : Tm) : ltOf orderI a b = true ↔ lexLt a b := by rw [← order_lt]; simp [ltOf]
theorem lex_irrefl (a : Tm) : ¬ lexLt a a := by unfold lexLt; omega
theorem lex_trans {a b c : Tm} (h : lexLt a b) (k : lexLt b c) : lexLt a c := by unfold lexLt at *; omega
theorem lex_total (a b : Tm) : lexLt a b ∨ a = b ∨ lexLt b a := by
  by_cases h : a = b
  · exact .inr (.inl h)
  · have : ¬ (a.d = b.d ∧ a.e = b.e ∧ a.x = b.x ∧ a.y = b.y ∧ a.z = b.z) := fun ⟨h1, h2, h3, h4, h5⟩ => h (by cases a; cases b; simp_all)
    unfold lexLt; omega
theorem swoT : SWO (ltOf orderI) :=
  { irrefl := fun a => by
      cases h : ltOf orderI a a
      · rfl
      · exact absurd ((ltOf_order a a).1 h) (lex_irrefl a)
    trans := fun a b c h k => (ltOf_order a c).2 (lex_trans ((ltOf_order a b).1 h) ((ltOf_order b c).1 k))
    ntrans := fun a b c h k => by
      cases hh : ltOf orderI a c
      · rfl
      · have h1 : ¬ lexLt a b := fun x => by rw [(ltOf_order a b).2 x] at h; cases h
        have h2 : ¬ lexLt b c := fun x => by rw [(ltOf_order b c).2 x] at k; cases k
        have h3 := (ltOf_order a c).1 hh
        rcases lex_total a b with x | x | x
        · exact absurd x h1
        · subst x; exact absurd h3 h2
        · exact absurd (lex_trans x h3) h2 }

/-- Sorted: none stands ahead of one that is before it. -/
def SortedT (d : List Tm) : Prop := d.Pairwise fun a b => ¬ lexLt b a

/-- What is sorted is sorted in one way alone. -/
theorem sorted_unique : ∀ {d e : List Tm}, d.Perm e → SortedT d → SortedT e → d = e
  | [], e, hp, _, _ => by simpa using hp.length_eq.symm
  | a :: d, [], hp, _, _ => by simp at hp
  | a :: d, b :: e, hp, hd, he => by
    unfold SortedT at hd he
    rw [List.pairwise_cons] at hd he
    have hab : a = b := by
      have h1 : b ∈ a :: d := hp.symm.subset (by simp)
      have h2 : a ∈ b :: e := hp.subset (by simp)
      rcases List.mem_cons.1 h1 with h1 | h1
      · exact h1.symm
      · rcases List.mem_cons.1 h2 with h2 | h2
        · exact h2
        · have h3 := hd.1 b h1
          have h4 := he.1 a h2
          rcases lex_total a b with x | x | x
          · exact absurd x h4
          · exact x
          · exact absurd x h3
    subst hab
    rw [sorted_unique (List.perm_cons a |>.1 hp) hd.2 he.2]

end Go.Proofs.Ytbohgfcndclbjab
