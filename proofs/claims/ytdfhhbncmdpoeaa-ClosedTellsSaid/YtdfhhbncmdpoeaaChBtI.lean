/- Which bits an item tells. -/
import Derived.Test.YtdfhhbncmdpoeaaItemC
import Derived.Laws.BitsAllLaws
namespace Go.Proofs.Ytdfhhbncmdpoeaa
open Go.RowKit

theorem bitN_is {g : Gr.Gm} (hg : Gr.Ok g) {x : Ch.Im} {p : Gr.Pr} (hp : g.prods[x.prod]? = some p) (hd : x.dot ≤ p.right.length) (k : Nat) :
    (bitN g x.ix).testBit k = true ↔ (∃ s, p.right[x.dot]? = some s ∧ s.non = false ∧ s.n = (k : Int)) ∨ (x.dot = p.right.length ∧ p.left = g.start ∧ x.frm = 0 ∧ k = 16) := by
  obtain ⟨xp, xd, xf⟩ := x
  simp only at hp hd
  simp only [Ch.Im.ix]
  rcases Nat.lt_or_ge xd p.right.length with h | h
  · have hs : p.right[xd]? = some p.right[xd] := List.getElem?_eq_getElem h
    rw [bitN_some hp hs]
    have hsy := (hg.2.2.2.2.2.2.2 p (List.mem_of_getElem? hp)).2.2.2 _ (List.getElem_mem h)
    generalize p.right[xd] = s at *
    cases hn : s.non with
    | true =>
      rw [if_pos rfl, Nat.zero_testBit]
      constructor
      · intro e; cases e
      · rintro (⟨s', h1, h2, _⟩ | ⟨h1, _⟩)
        · rw [hs] at h1; injection h1 with h1; subst h1; rw [hn] at h2; cases h2
        · omega
    | false =>
      rw [if_neg (by simp), Nat.testBit_two_pow, decide_eq_true_eq]
      constructor
      · intro e; exact .inl ⟨s, hs, hn, by have := hsy.1; omega⟩
      · rintro (⟨s', h1, h2, h3⟩ | ⟨h1, _⟩)
        · rw [hs] at h1; injection h1 with h1; subst h1; omega
        · omega
  · have hxd : xd = p.right.length := by omega
    subst hxd
    rw [bitN_none hp]
    by_cases h1 : p.left = g.start ∧ (xf : Int) = 0
    · rw [if_pos h1, show (65536 : Nat) = 2 ^ 16 from rfl, Nat.testBit_two_pow, decide_eq_true_eq]
      constructor
      · intro e; exact .inr ⟨rfl, h1.1, by omega, e.symm⟩
      · rintro (⟨s', h2, _⟩ | ⟨_, _, _, h2⟩)
        · rw [List.getElem?_eq_none (Nat.le_refl _)] at h2; cases h2
        · exact h2.symm
    · rw [if_neg h1, Nat.zero_testBit]
      constructor
      · intro e; cases e
      · rintro (⟨s', h2, _⟩ | ⟨_, h2, h3, _⟩)
        · rw [List.getElem?_eq_none (Nat.le_refl _)] at h2; cases h2
        · exact absurd ⟨h2, by omega⟩ h1
/-- Is a bit set? -/
theorem bit_at {z : Nat} (k : Nat) (hz : z < 4294967296) : bits .and .u32 ((z : Int) / 2 ^ k) 1 = (((z.testBit k).toNat : Nat) : Int) := by
  have e : (z : Int) / 2 ^ k = ((z / 2 ^ k : Nat) : Int) := by rw [Int.natCast_ediv, Int.natCast_pow]; rfl
  have hl : z / 2 ^ k < 4294967296 := Nat.lt_of_le_of_lt (Nat.div_le_self _ _) hz
  have h1 := u32_and_nat (z / 2 ^ k) 1 hl (by decide)
  rw [e]
  have hb : z / 2 ^ k % 2 = (z.testBit k).toNat := by
    rw [Nat.testBit_eq_decide_div_mod_eq]
    rcases Nat.mod_two_eq_zero_or_one (z / 2 ^ k) with h | h <;> rw [h] <;> rfl
  rw [Nat.and_one_is_mod, hb] at h1
  exact h1
end Go.Proofs.Ytdfhhbncmdpoeaa
