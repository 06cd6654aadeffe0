/- The facts that a grammar has. -/
import Derived.Test.YtckckejgocbkkaaFactS
namespace Go.Proofs.Ytckckejgocbkkaa
open Go.RowKit

/-- The facts that a grammar has: none, if it may not be. -/
def factsOf (terms : Bool) (g : Gr.Gm) : List Fc := if okB g then fz (Rk.ranks terms g.prods g.nons.toNat) else []
theorem factsOf_no {terms : Bool} {g : Gr.Gm} (h : okB g = false) : factsOf terms g = [] := by unfold factsOf; rw [if_neg (by rw [h]; decide)]
theorem factsOf_ok {terms : Bool} {g : Gr.Gm} (h : okB g = true) : factsOf terms g = fz (Rk.ranks terms g.prods g.nons.toNat) := by unfold factsOf; rw [if_pos h]
theorem factsOf_len {terms : Bool} {g : Gr.Gm} (h : okB g = true) : (factsOf terms g).length = g.nons.toNat := by rw [factsOf_ok h, fz_len, Rk.ranks_length]
theorem factsOf_short (terms : Bool) (g : Gr.Gm) : (factsOf terms g).length ≤ 24 := by
  cases h : okB g with
  | true => rw [factsOf_len h]; obtain ⟨t, n, s, ps⟩ := g; have := ok_nons h; simp only; omega
  | false => rw [factsOf_no h]; simp
end Go.Proofs.Ytckckejgocbkkaa
