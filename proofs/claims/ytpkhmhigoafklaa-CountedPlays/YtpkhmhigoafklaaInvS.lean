/-
  A region that does not draw its order, walked by what each operation's value is known by: as a region that draws, in the one order. Own text; it speaks of no program.
-/
import Derived.Test.YtpkhmhigoafklaaInvK
namespace Go.Proofs.Ytpkhmhigoafklaa
open Go.RowKit
set_option linter.unusedVariables false

section
variable {P : Program} {l : List Oper} {kill : Nat → Option Nat} {a : Act} {w : World} {F : Nat → Value → World → Prop} {Q : Exit → Act → World → Prop}

theorem wpOps_of_any (ht : topoFrom l 0 = true) : ∀ (r k : Nat) (listed : Array Bool) (a : Act) (w : World), k + r = l.length → listed.size = l.length → (∀ j, j < l.length → listed.getD j false = decide (j < k)) →
    wpAny P .any l.toArray Q r listed a w → wpOps P l.toArray Q (List.range' k r) a w := by
  intro r
  induction r with
  | zero => intro k listed a w _ _ _ h; simpa [wpOps] using h.2
  | succ r ih =>
    intro k listed a w hk hsz hl h
    obtain ⟨_, h1⟩ := h
    have hkl : k < l.length := by omega
    obtain ⟨o, ho⟩ : ∃ o, l[k]? = some o := ⟨l[k], List.getElem?_eq_getElem hkl⟩
    have hm : k ∈ Region.ready .any l.toArray listed := by
      refine mem_ready.2 ⟨?_, o, by simpa using ho, fun e he hb => ?_⟩
      · have := hl k hkl
        have hk' : k < listed.size := by omega
        simp [hk'] at this ⊢
        exact this
      · have h2 := topo_spec l 0 ht k o ho e he hb
        rw [hl e.on (by omega)]
        simp; omega
    rw [List.range'_succ, wpOps_cons]
    refine wpOp_mono (fun a w hh => ih (k + 1) (listed.setIfInBounds k true) a w (by omega) (by simp [hsz]) (fun j hj => ?_) hh) (h1 k hm)
    by_cases hjk : j = k
    · subst hjk
      have hk' : j < listed.size := by omega
      simp [hk']
    · rw [getD_set_ne false (Ne.symm hjk), hl j hj]
      simp only [decide_eq_decide]
      omega

/-- A REGION THAT DOES NOT DRAW. -/
theorem wp_region_invS {id : Nat} (F : Nat → Value → World → Prop) (kill : Nat → Option Nat) (hfit : fitB l a.tmps.size = true)
    (hstep : StepAllK P l kill a w F Q l 0) (hend : ∀ a' w', Grow w w' → Same l.toArray a a' → (∀ i, i < l.length → (∀ k, kill i = some k → ¬ k < l.length) → F i (valOf l.toArray a' i) w') → Q .normal a' w') :
    (Code.region id l.toArray false).wp P Q a w := by
  have ht : topoFrom l 0 = true := by
    have h := hfit
    simp only [fitB, Bool.and_eq_true] at h
    exact h.1.1.1
  refine wp_region ?_
  rw [List.range_eq_range', List.size_toArray]
  refine wpOps_of_any ht l.length 0 (Array.replicate l.length false) a w (by omega) (by simp) (fun j hj => by simp [hj]) ?_
  refine wpAny_invK hfit hstep hend l.length (Array.replicate l.length false) a w (by simp) ?_ (Grow.rfl' _) ⟨rfl, rfl, fun _ _ => rfl⟩ (fun i o _ hi => ?_) (fun i hi => ?_)
  · exact Nat.le_trans (List.countP_le_length) (by simp)
  · by_cases h : i < l.length <;> simp [h] at hi
  · by_cases h : i < l.length <;> simp [h] at hi
end

end Go.Proofs.Ytpkhmhigoafklaa
