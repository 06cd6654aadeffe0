/- A scope in which the run jumps back to one label, with a ghost number that each pass makes less; the label stands in the scope's straight code. No program is named here. -/
import Derived.WalkMore
import Derived.ScopeJumps
namespace Go.Proofs.Ytgmnokmchjeflaa
/-- What holds at every jump, and how much is left. -/
theorem least_of {J : Nat → Prop} (h : ∃ g, J g) : ∃ g, J g ∧ ∀ k, k < g → ¬ J k := by
  obtain ⟨g, hg⟩ := h
  induction g using Nat.strongRecOn with
  | _ g ih =>
    by_cases hk : ∃ k, k < g ∧ J k
    · obtain ⟨k, hlt, hJ⟩ := hk
      exact ih k hlt hJ
    · exact ⟨g, hg, fun k hlt hJ => hk ⟨k, hlt, hJ⟩⟩
open Classical in
theorem wp_scope_again {P : Program} {a : Act} {w : World} {Q : Exit → Act → World → Prop} {c X : Code} (l : Nat) (J : Nat → Act → World → Prop) (hf : findLabel c l = some (Code.seq Code.skip X))
    (first : (∀ a w, (∃ g, J g a w) → X.wp P (Exit.jump l (fun a w => ∃ g, J g a w) Q) a w) → c.wp P (Exit.jump l (fun a w => ∃ g, J g a w) Q) a w)
    (pass : ∀ g a w, J g a w → X.wp P (Exit.jump l (fun a' w' => ∃ g', g' < g ∧ J g' a' w') Q) a w) : (Code.scope c).wp P Q a w := by
  have hle : ∀ (a : Act) (w : World) (h : ∃ g, J g a w), J (Classical.choose (least_of h)) a w ∧ ∀ k, k < Classical.choose (least_of h) → ¬ J k a w := fun a w h => Classical.choose_spec (least_of h)
  have mono : ∀ a w, (∃ g, J g a w) → X.wp P (Exit.jump l (fun a w => ∃ g, J g a w) Q) a w := by
    rintro a w ⟨g, hg⟩
    refine wp_mono (pass g a w hg) ?_
    intro e a' w' he
    cases e with
    | goto l' => obtain ⟨rfl, g', _, hJ⟩ := he; exact ⟨rfl, g', hJ⟩
    | normal => exact he
    | exit id => exact he
    | ret => exact he
    | panic ch => exact he
    | outgrown => exact he
  refine wp_scope_jumps l (fun a w => ∃ g, J g a w) (fun a w => if h : ∃ g, J g a w then Classical.choose (least_of h) else 0) hf (first mono) ?_
  intro a w h
  refine wp_seq (wp_skip ?_)
  have hm := hle a w h
  refine wp_mono (pass _ a w hm.1) ?_
  intro e a' w' he
  cases e with
  | goto l' =>
    obtain ⟨rfl, g', hlt, hJ⟩ := he
    refine ⟨rfl, ⟨g', hJ⟩, ?_⟩
    have h' : ∃ g, J g a' w' := ⟨g', hJ⟩
    rw [dif_pos h', dif_pos h]
    have h2 := hle a' w' h'
    have h3 : ¬ g' < Classical.choose (least_of h') := fun hx => h2.2 g' hx hJ
    omega
  | normal => exact he
  | exit id => exact he
  | ret => exact he
  | panic ch => exact he
  | outgrown => exact he
end Go.Proofs.Ytgmnokmchjeflaa
