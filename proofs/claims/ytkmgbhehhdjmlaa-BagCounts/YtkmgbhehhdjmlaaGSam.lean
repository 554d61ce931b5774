/-
  What bag.Same, bag.Join and the law's few do to the world; a row of rows.
-/
import Derived.Test.YtkmgbhehhdjmlaaGSrt
import Derived.Test.YtkmgbhehhdjmlaaGEq
namespace Go.Proofs.Ytkmgbhehhdjmlaa
set_option maxRecDepth 100000
open Go.RowKit Go.Sort
attribute [local go_sem ↓] eqRc
set_option linter.unusedVariables false

set_option maxHeartbeats 1000000 in
theorem same_len (s s' : Option Addr) (n m c c' : Nat) (w : World) (h : n ≠ m) :
    Calls Try.prog 25 #[.slice s n c, .slice s' m c'] w fun e w' => e = .returned (.bool false) ∧ Grow w w' := by
  have h1 : ¬ ((n : Int) = (m : Int)) := by omega
  go_enter Try.func25, Try.ntmps25
  go_wp2
  go_ret
  exact ⟨rfl, Grow.rfl' _⟩
set_option maxHeartbeats 1000000 in
theorem same_eq (s s' : Option Addr) (n c c' : Nat) (d e : List Rc) (p : Bool) (hp : p = true ↔ srt d = srt e) (w : World) (hbig : n ≤ 1000000) (h1 : IsRcs w s n c d) (h2 : IsRcs w s' n c' e) :
    Calls Try.prog 25 #[.slice s n c, .slice s' n c'] w fun e w' => e = .returned (.bool p) ∧ Grow w w' := by
  have H2 := hide h2
  have HP := hide hp
  have C1 := hide (sort_at s n c d w hbig h1)
  clear h1 h2 hp
  go_enter Try.func25, Try.ntmps25
  go_wp2_with fail
  refine (C1.out).mono ?_
  rintro e1 w1 ⟨s1, c1, rfl, hb, hI⟩
  have G1 := hide hb
  have I1 := hide hI
  have C2 := hide (sort_at s' n c' e w1 hbig (H2.out.later hb))
  clear hb hI C1
  go_wp2_with fail
  refine (C2.out).mono ?_
  rintro e2 w2 ⟨s2, c2, rfl, hb, hI⟩
  have G2 := hide (Grow.trans' G1.out hb)
  have C3 := hide (equR_any s1 s2 c1 c2 n n (srt d) (srt e) p HP.out w2 (by omega) (I1.out.later hb) hI)
  clear hb hI C2 I1 G1
  go_wp2_with fail
  refine (C3.out).mono ?_
  rintro e3 w3 ⟨rfl, hb⟩
  have G3 := hide (Grow.trans' G2.out hb)
  clear hb
  go_wp2_with fail
  go_ret
  exact ⟨rfl, G3.out⟩
theorem same_at (s s' : Option Addr) (n m c c' : Nat) (d e : List Rc) (p : Bool) (hp : p = true ↔ srt d = srt e) (w : World) (hbig : n ≤ 1000000) (h1 : IsRcs w s n c d) (h2 : IsRcs w s' m c' e) :
    Calls Try.prog 25 #[.slice s n c, .slice s' m c'] w fun e w' => e = .returned (.bool p) ∧ Grow w w' := by
  by_cases h : n = m
  · subst h
    exact same_eq s s' n c c' d e p hp w hbig h1 h2
  · have : p = false := by
      cases hp' : p
      · rfl
      · have := congrArg List.length (hp.1 hp')
        rw [srt_len, srt_len, h1.1, h2.1] at this
        exact absurd this h
    rw [this]
    exact same_len s s' n m c c' w h

/-- A block holds rows. -/
def RowsAt (w : World) (g : Nat) (ls : List (List Rc)) : Prop := ∀ j (h : j < ls.length), ∃ s n c, w.cell? ⟨g, j, none⟩ = some (.slice s n c) ∧ IsRcs w s n c ls[j]
theorem RowsAt.later {w w' : World} {g : Nat} {ls : List (List Rc)} (hg : Grow w w') (h : RowsAt w g ls) : RowsAt w' g ls := fun j hj => by
  obtain ⟨s, n, c, h1, h2⟩ := h j hj
  exact ⟨s, n, c, cell_later hg h1, h2.later hg⟩
theorem RowsAt.nil (w : World) (g : Nat) : RowsAt w g [] := fun j h => by simp at h
theorem RowsAt.two {w : World} {s1 s2 : Option Addr} {n1 n2 c1 c2 : Nat} {d1 d2 : List Rc} (h1 : IsRcs w s1 n1 c1 d1) (h2 : IsRcs w s2 n2 c2 d2) :
    RowsAt (w.alloc (.cells #[.slice s1 n1 c1, .slice s2 n2 c2] 22)) w.heap.size [d1, d2] := fun j h => by
  match j, h with
  | 0, _ => exact ⟨s1, n1, c1, by simp [go_sem], h1.later (Grow.alloc' _ _)⟩
  | 1, _ => exact ⟨s2, n2, c2, by simp [go_sem], h2.later (Grow.alloc' _ _)⟩
theorem RowsAt.three {w : World} {s1 s2 s3 : Option Addr} {n1 n2 n3 c1 c2 c3 : Nat} {d1 d2 d3 : List Rc} (h1 : IsRcs w s1 n1 c1 d1) (h2 : IsRcs w s2 n2 c2 d2) (h3 : IsRcs w s3 n3 c3 d3) :
    RowsAt (w.alloc (.cells #[.slice s1 n1 c1, .slice s2 n2 c2, .slice s3 n3 c3] 22)) w.heap.size [d1, d2, d3] := fun j h => by
  match j, h with
  | 0, _ => exact ⟨s1, n1, c1, by simp [go_sem], h1.later (Grow.alloc' _ _)⟩
  | 1, _ => exact ⟨s2, n2, c2, by simp [go_sem], h2.later (Grow.alloc' _ _)⟩
  | 2, _ => exact ⟨s3, n3, c3, by simp [go_sem], h3.later (Grow.alloc' _ _)⟩
theorem flat_take_len {α : Type} (ls : List (List α)) (k : Nat) : ((ls.take k).flatten).length ≤ ls.flatten.length := by
  have h := List.take_append_drop k ls
  have : (ls.take k ++ ls.drop k).flatten.length = ls.flatten.length := by rw [h]
  rw [List.flatten_append, List.length_append] at this
  omega
theorem flat_take_succ {α : Type} (ls : List (List α)) (k : Nat) (h : k < ls.length) : (ls.take k).flatten ++ ls[k] = (ls.take (k + 1)).flatten := by
  rw [← List.take_append_getElem h, List.flatten_append]
  simp
set_option maxHeartbeats 1000000 in
theorem join_at (a : Option Addr) (K cap : Nat) (ls : List (List Rc)) (w : World) (hK : ls.length = K) (hbig : ls.flatten.length ≤ 1000000) (hbk : K ≤ 1000) (hd : ls = [] ∨ ∃ g, a = some ⟨g, 0, none⟩ ∧ RowsAt w g ls) :
    Calls Try.prog 17 #[.slice a K cap] w fun e w' => ∃ s2 n2 c2, e = .returned (.slice s2 n2 c2) ∧ Grow w w' ∧ IsRcs w' s2 n2 c2 (srt ls.flatten) := by
  have HD := hide hd
  have HK := hide hK
  have HB := hide hbig
  clear hd hK hbig
  go_enter Try.func17, Try.ntmps17
  go_wp2_with fail
  go_loopw [3, 8] (fun v i wr => ∃ (k : Nat) (s : Option Addr) (m c : Nat), k ≤ K ∧ v = .slice s m c ∧ i = .int .i64 k ∧ Grow w wr ∧ OwnRV wr w.heap.size s m c (ls.take k).flatten) (fun _ i _ => K - (intOf i).toNat)
  case atStart => exact ⟨0, none, 0, 0, Nat.zero_le _, rfl, rfl, Grow.rfl' _, OwnRV.nil _ _⟩
  case round =>
    obtain ⟨k, s, m, c, hk, rfl, rfl, hg, hO⟩ := hrel
    have HG := hide hg
    have HO := hide hO
    have hm : m ≤ 1000000 := by rw [← hO.1]; exact Nat.le_trans (flat_take_len ls k) HB.out
    have hsz := hg.size
    clear hO
    by_cases hlt : k < K
    · have hkd : k < ls.length := by rw [HK.out]; exact hlt
      have hne : ¬ ls = [] := fun h => by rw [h] at hkd; simp at hkd
      obtain ⟨g, rfl, hr1⟩ := HD.out.resolve_left hne
      obtain ⟨s', m', c', hc, hI⟩ := (hr1.later hg) k hkd
      have hi1 : (0 : Int) ≤ (k : Int) := by omega
      have hi2 : (k : Int) < (K : Int) := by omega
      have hmm : m + m' ≤ 1000000 := by
        have h1 := HO.out.1
        have h2 := hI.1
        have h3 := flat_take_succ ls k hkd
        have h4 := flat_take_len ls (k + 1)
        rw [← h3, List.length_append] at h4
        have := HB.out
        omega
      have HI := hide hI
      have HS := hide (flat_take_succ ls k hkd)
      clear hne hr1 hI hg
      go_wp2_with (at_builtin; refine wpList_apd_rc rfl _ _ rfl w.heap.size s m c (ls.take k).flatten ls[k] rfl HO.out s' m' c' rfl HI.out hmm hsz ?_)
      intro s2 c2 w2 h2 gb
      have B2 := hide (show Grow w w2 from gb.grow HG.out (Nat.le_refl _))
      have O2 := hide h2
      rw [HS.out] at O2
      clear h2 gb hc
      go_wp2_with fail
      go_roundw
      case rel => exact ⟨k + 1, s2, m + m', c2, by omega, rfl, by go_num, B2.out, O2.out⟩
      case measure => simp [intOf]; omega
    · have hkn : k = K := by omega
      have hall : (ls.take k).flatten = ls.flatten := by rw [List.take_of_length_le (by rw [HK.out]; omega)]
      have C := hide (sortR_any s m c w.heap.size (ls.take k).flatten wr hm hsz HO.out)
      rw [hall] at C
      clear hg hall
      subst hkn
      go_wp2_with fail
      refine (C.out).mono ?_
      rintro e w2 ⟨rfl, hb, l', hp, hs, hI⟩
      rw [srt_of hp hs] at hI
      have G2 := hide (Below.trans HG.out hb)
      have I2 := hide hI
      clear hb hp hs hI
      go_wp2_with fail
      go_ret
      exact ⟨s, m, c, rfl, G2.out, I2.out⟩

set_option maxHeartbeats 400000 in
theorem few_at (s : Option Addr) (n cap : Nat) (d : List Rc) (w : World) (hd : IsRcs w s n cap d) :
    Calls Try.prog 9 #[.slice s n cap] w fun e w' => ∃ s' n', e = .returned (.slice s' n' cap) ∧ w' = w ∧ IsRcs w s' n' cap (d.take 150) ∧ n' ≤ 150 := by
  by_cases hn : n ≤ 150
  · have h1 : d.take 150 = d := List.take_of_length_le (by rw [hd.1]; exact hn)
    rw [h1]
    have HD := hide hd
    have h3 : ¬ (150 : Int) < (n : Int) := by omega
    clear hd h1
    go_enter Try.func9, Try.ntmps9
    go_wp2
    go_ret
    exact ⟨s, n, rfl, rfl, HD.out, hn⟩
  · have hne : ¬ d = [] := fun h => by rw [h] at hd; have := hd.1; simp at this; omega
    have h3 : (150 : Int) < (n : Int) := by omega
    have h4 : (150 : Int) ≤ (cap : Int) := by have := hd.2.1; omega
    have HD := hide (hd.take' 150 (by omega))
    obtain ⟨b, o, rfl, hr1⟩ := hd.2.2.resolve_left hne
    clear hd hr1 hne
    go_enter Try.func9, Try.ntmps9
    go_wp2
    go_ret
    exact ⟨some ⟨b, o, none⟩, 150, rfl, rfl, HD.out, Nat.le_refl _⟩

end Go.Proofs.Ytkmgbhehhdjmlaa
