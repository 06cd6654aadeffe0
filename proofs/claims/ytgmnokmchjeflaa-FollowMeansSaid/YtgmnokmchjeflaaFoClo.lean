/- That what follows is closed, in bits. Plain facts; no program is named here. -/
import Derived.Test.YtgmnokmchjeflaaFoNum
import Derived.Laws.BitsAllLaws
namespace Go.Proofs.Ytgmnokmchjeflaa


theorem not_bit {b : Nat} (hb : b < 4294967296) (t : Nat) : (4294967295 - b).testBit t = (decide (t < 32) && !b.testBit t) := by
  have h := Nat.testBit_two_pow_sub_succ (n := 32) hb t
  rw [show 2 ^ 32 - (b + 1) = 4294967295 - b by omega] at h
  exact h
theorem andNot_zero {a b : Nat} (ha : a < 4294967296) (hb : b < 4294967296) (h : ∀ t, a.testBit t = true → b.testBit t = true) : bits .andNot .u32 (a : Int) (b : Int) = 0 := by
  rw [u32_andNot_nat a b ha hb]
  have e : a &&& (4294967295 - b) = 0 := by
    apply Nat.eq_of_testBit_eq
    intro t
    rw [Nat.testBit_and, not_bit hb, Nat.zero_testBit]
    cases h1 : a.testBit t with
    | false => rfl
    | true => rw [h t h1]; simp
  rw [e]; rfl
/-- Without the end. -/
def noEnd (x : Nat) : Nat := x &&& (4294967295 - 65536)
theorem andNot_end {x : Nat} (hx : x < 4294967296) : bits .andNot .u32 (x : Int) 65536 = (noEnd x : Int) := u32_andNot_nat x 65536 hx (by decide)
theorem noEnd_lt {x T : Nat} (h : ∀ t, x.testBit t = true → t < T ∨ t = 16) : noEnd x < 2 ^ T := by
  apply Nat.lt_pow_two_of_testBit
  intro t ht
  unfold noEnd
  rw [Nat.testBit_and, not_bit (by decide)]
  cases h1 : x.testBit t with
  | false => rfl
  | true =>
    rcases h t h1 with h2 | h2
    · omega
    · subst h2; rfl
theorem noEnd_shr {x T : Nat} (h : ∀ t, x.testBit t = true → t < T ∨ t = 16) : (noEnd x : Int) / 2 ^ T = 0 := by
  have h1 := noEnd_lt h
  refine Int.ediv_eq_zero_of_lt (by omega) ?_
  have h2 := Int.ofNat_lt.2 h1
  rw [Int.natCast_pow] at h2
  exact h2
theorem bit_one {x d : Nat} (hx : x < 4294967296) (h : x.testBit d = true) : bits .and .u32 ((x : Int) / 2 ^ d) 1 = 1 := by
  have e : (x : Int) / 2 ^ d = ((x / 2 ^ d : Nat) : Int) := by
    rw [Int.natCast_ediv, Int.natCast_pow]; rfl
  have hl : x / 2 ^ d < 4294967296 := Nat.lt_of_le_of_lt (Nat.div_le_self _ _) hx
  rw [e]
  have h1 := u32_and_nat (x / 2 ^ d) 1 hl (by decide)
  have h2 : x / 2 ^ d &&& 1 = 1 := by
    rw [Nat.and_one_is_mod]
    rw [Nat.testBit_eq_decide_div_mod_eq] at h
    exact of_decide_eq_true h
  rw [h2] at h1
  exact h1
section
open Gr (Sy Pr Gm Ok)
variable {g : Gm} {p : Pr} {k : Nat} {s : Sy}
theorem clo_first (hg : Ok g) (hp : p ∈ g.prods) (hs : p.right[k]? = some s) (hn : s.non = true) :
    (∀ t, (Fi.ofN (Fi.numR g) (Fi.nulls g) (p.right.drop (k + 1))).testBit t = true → ((Fi.numW g).getD s.n.toNat 0).testBit t = true) ∧
    (Fi.allNull (Fi.nulls g) (p.right.drop (k + 1)) = true → ∀ t, ((Fi.numW g).getD p.left.toNat 0).testBit t = true → ((Fi.numW g).getD s.n.toNat 0).testBit t = true) := by
  obtain ⟨hk, rfl⟩ := List.getElem?_eq_some_iff.1 hs
  have hr : p.right = p.right.take k ++ p.right[k] :: p.right.drop (k + 1) := by rw [← List.drop_eq_getElem_cons hk, List.take_append_drop]
  have hd := Fi.syOk_drop (Fi.syOk_prod hg hp) (k + 1)
  refine ⟨fun t h => ?_, fun ha t h => ?_⟩
  · rw [Fi.ofN_bit t (fun x hx => (hd x hx).1)] at h
    exact (Fi.follow_shut (Fi.follow_numW hg) hp hr hn t).1 h
  · exact (Fi.follow_shut (Fi.follow_numW hg) hp hr hn t).2 ha h
theorem clo_terms {T : Nat} (hg : Ok g) (hT : g.terms = (T : Int)) {n : Nat} (hn : n < g.nons.toNat) (t : Nat) (h : ((Fi.numW g).getD n 0).testBit t = true) : t < T ∨ t = 16 := by
  have h1 := Fi.follow_term hg (Fi.first_numR hg) (Fi.follow_numW hg) hn (t := t) h
  rw [hT] at h1
  omega
theorem clo_end (hg : Ok g) : ((Fi.numW g).getD g.start.toNat 0).testBit 16 = true := Fi.follow_end hg (Fi.follow_numW hg)
end
end Go.Proofs.Ytgmnokmchjeflaa
