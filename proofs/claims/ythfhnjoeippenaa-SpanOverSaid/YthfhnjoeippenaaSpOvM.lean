/- Plain facts on words that go on: there is a next token. No program is named here. -/
import Derived.Test.YthfhnjoeippenaaPlainS
namespace Go.Proofs.Ythfhnjoeippenaa.Sp
open Gr (Sy Pr Gm okSy okPr Ok)
open Cf (Cm Ch Tb sym part)
theorem tok_range {g : Gm} (hg : Ok g) {l : List Sy} {w : List Int} (h : Cm g l w) : (∀ s ∈ l, okSy g s) → ∀ x ∈ w, 0 ≤ x ∧ x < g.terms := by
  induction h with
  | nil => intro _ x hx; exact absurd hx (by simp)
  | @tok s l w hs _ ih =>
    intro hl x hx
    rcases List.mem_cons.mp hx with e | hx
    · have h := hl s (List.mem_cons_self ..)
      rw [e]; exact ⟨h.1, h.2.2 hs⟩
    · exact ih (fun s hs => hl s (List.mem_cons_of_mem _ hs)) x hx
  | non _ hp _ _ _ ih1 ih2 =>
    intro hl x hx
    rcases List.mem_append.mp hx with hx | hx
    · exact ih1 (hg.2.2.2.2.2.2.2 _ hp).2.2.2 x hx
    · exact ih2 (fun s hs => hl s (List.mem_cons_of_mem _ hs)) x hx
theorem over_whole {g : Gm} (hg : Ok g) {xs : List Int} {T : Tb} (hs : Cf.Sound g xs T) {n : Nat} (h : T n 0 xs.length = true) (k : Nat) : (rowN g (xs.take k) 24).testBit n = true := by
  rw [rowN_over hg (by decide)]
  have h1 := (hs n 0 xs.length h).2.2
  rw [Cf.part_all] at h1
  exact ⟨xs.drop k, by rw [List.take_append_drop]; exact h1⟩
theorem over_end {g : Gm} {xs : List Int} {T : Tb} (hs : Cf.Sound g xs T) (hu : xs.length ≤ 24) {n k : Nat} (hn : n < 24) (hk : k ≤ xs.length) (h : T n 0 k = true) : (rowN g (xs.take k) n).testBit k = true := by
  rw [rowN_end hn (by rw [List.length_take]; omega)]
  have h1 := (hs n 0 k h).2.2
  rw [Cf.part_zero] at h1
  refine ⟨by rw [List.length_take]; omega, ?_⟩
  rw [List.take_of_length_le (by rw [List.length_take]; omega)]
  exact h1
theorem over_next {g : Gm} (hg : Ok g) {u : List Int} {n : Nat} (hn : n < 24) (hu : u.length ≤ 24) (h : (rowN g u 24).testBit n = true) (hne : (rowN g u n).testBit u.length = false) : ∃ t : Nat, (t : Int) < g.terms ∧ (rowN g (u ++ [(t : Int)]) 24).testBit n = true := by
  obtain ⟨v, hv⟩ := (rowN_over hg (by decide)).mp h
  cases v with
  | nil =>
    rw [List.append_nil] at hv
    have h2 : (rowN g u n).testBit u.length = true := (rowN_end hn hu).mpr ⟨Nat.le_refl _, by rw [List.take_length]; exact hv⟩
    rw [hne] at h2; cases h2
  | cons t v =>
    have hnn := no_non hg hv
    have hr := tok_range hg hv (fun s hs => by
      rw [List.mem_singleton] at hs
      subst hs
      exact ⟨hnn.1, fun _ => hnn.2, fun e => by cases e⟩) t (by simp)
    have ht : ((t.toNat : Nat) : Int) = t := Int.toNat_of_nonneg hr.1
    refine ⟨t.toNat, by omega, ?_⟩
    rw [rowN_over hg (by decide), ht]
    exact ⟨v, by rw [List.append_assoc]; exact hv⟩
end Go.Proofs.Ythfhnjoeippenaa.Sp
