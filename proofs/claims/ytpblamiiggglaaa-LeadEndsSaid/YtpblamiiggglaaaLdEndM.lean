/- The least and the greatest: no derivation stands ahead of the one, or behind the other. -/
import Derived.Test.YtpblamiiggglaaaLdByL
import Derived.Test.YtpblamiiggglaaaPlainT
namespace Go.Proofs.Ytpblamiiggglaaa
open Go.RowKit

theorem leadOf_cases (g : Gr.Gm) (u : List Int) (K : Nat) : (leadOf g u K = ([], 11) ∧ Ld.mayB K g u [⟨true, g.start⟩] 0 = false) ∨ (Ld.mayB K g u [⟨true, g.start⟩] 0 = true ∧ (leadOf g u K = ([], 5) ∨ ∃ m, leadOf g u K = (ns m, 0) ∧ Ld.lead K g (factP g) u 2000 0 [⟨true, g.start⟩] = some m)) := by
  unfold leadOf
  cases h : Ld.mayB K g u [⟨true, g.start⟩] 0 with
  | false => exact .inl ⟨if_neg (by decide), rfl⟩
  | true =>
    refine .inr ⟨rfl, ?_⟩
    rw [if_pos rfl]
    cases h2 : Ld.lead K g (factP g) u 2000 0 [⟨true, g.start⟩] with
    | none => exact .inl rfl
    | some m => exact .inr ⟨m, rfl, rfl⟩
theorem start_row {g : Gr.Gm} (hg : Gr.Ok g) : Ld.RowG g [⟨true, g.start⟩] := fun x hx => by
  rw [List.mem_singleton] at hx
  subst hx
  exact ⟨hg.2.2.2.2.1, fun _ => hg.2.2.2.2.2.1, fun e => by cases e⟩
/-- What ends may be. -/
theorem leads_codes (g : Gr.Gm) (u : List Int) : ((leadOf g u 0).2, (leadOf g u 1).2) = (11, 11) ∨ ((leadOf g u 0).2, (leadOf g u 1).2) = (5, 5) ∨ ((leadOf g u 0).2, (leadOf g u 1).2) = (5, 0) ∨ ((leadOf g u 0).2, (leadOf g u 1).2) = (0, 5) ∨ ((leadOf g u 0).2, (leadOf g u 1).2) = (0, 0) := by
  have e : Ld.mayB 0 g u [⟨true, g.start⟩] 0 = Ld.mayB 1 g u [⟨true, g.start⟩] 0 := by rw [Bool.eq_iff_iff, Ld.mayB_iff, Ld.mayB_iff, Ld.may_one (by decide), Ld.may_one (by decide)]
  rcases leadOf_cases g u 0 with ⟨h1, h2⟩ | ⟨h2, h1 | ⟨m, h1, _⟩⟩ <;> rcases leadOf_cases g u 1 with ⟨k1, k2⟩ | ⟨k2, k1 | ⟨m', k1, _⟩⟩ <;> rw [h1, k1] <;> rw [h2, k2] at e <;> simp at e ⊢
theorem leads_ends {g : Gr.Gm} {u : List Int} (hf : fitB g u = true) (h0 : (leadOf g u 0).2 = 0) (h1 : (leadOf g u 1).2 = 0) :
    Dv.less (leadOf g u 1).1 (leadOf g u 0).1 = false ∧ ∀ o : List Int, (Dv.replayOf (okB g) g o).2 = 0 → (Dv.replayOf (okB g) g o).1 = u → Dv.less o (leadOf g u 0).1 = false ∧ Dv.less (leadOf g u 1).1 o = false ∧ ((leadOf g u 0).1 = (leadOf g u 1).1 → (leadOf g u 0).1 = o) := by
  obtain ⟨hok, hv, _⟩ := fit_good hf
  have hfit := factP_fits hok hv
  have hrow := start_row hok
  rcases leadOf_cases g u 0 with ⟨e, _⟩ | ⟨m0, e | ⟨a, e0, l0⟩⟩
  · rw [e] at h0; cases h0
  · rw [e] at h0; cases h0
  rcases leadOf_cases g u 1 with ⟨e, _⟩ | ⟨m1, e | ⟨b, e1, l1⟩⟩
  · rw [e] at h1; cases h1
  · rw [e] at h1; cases h1
  rw [e0, e1]
  have m0 := Ld.mayB_iff.1 m0
  have m1 := Ld.mayB_iff.1 m1
  have least : ∀ o : List Nat, Dv.Dr g.prods o [⟨true, g.start⟩] u → Dv.less (Dv.ints o) (ns a) = false := fun o ho =>
    Ld.lead_least hok hv hfit (Nat.zero_le _) hrow m0 l0 (by rw [List.drop_zero]; exact ho)
  have great : ∀ o : List Nat, Dv.Dr g.prods o [⟨true, g.start⟩] u → Dv.less (ns b) (Dv.ints o) = false := fun o ho =>
    Ld.lead_greatest hok hv hfit (Nat.zero_le _) hrow m1 l1 (by rw [List.drop_zero]; exact ho)
  refine ⟨?_, fun o ho hu => ?_⟩
  · obtain ⟨v, hd, _, h3⟩ := Ld.lead_dr hok hv hfit (Nat.zero_le _) hrow m1 l1
    have h4 := h3 (by decide)
    rw [List.drop_zero] at h4
    subst h4
    exact least b hd
  · obtain ⟨_, _, m, rfl, hd⟩ := Dv.replay_ok ho
    rw [hu] at hd
    refine ⟨least m hd, great m hd, fun hab => ?_⟩
    have hab : ns a = ns b := hab
    show ns a = Dv.ints m
    have k1 := least m hd
    have k2 := great m hd
    rw [← hab] at k2
    apply Classical.byContradiction
    intro hne
    have := Dv.less_total _ _ hne k2
    rw [k1] at this
    cases this
end Go.Proofs.Ytpblamiiggglaaa
