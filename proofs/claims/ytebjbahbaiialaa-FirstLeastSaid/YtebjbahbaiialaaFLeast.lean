/- What each production's symbols begin with, put together, are just the sets. Plain facts; no program is named here. -/
import Derived.Test.YtebjbahbaiialaaFNum
namespace Go.Proofs.Ytebjbahbaiialaa.Fi
open Gr (Sy Pr Gm okSy okPr Ok)

/-- What the first k productions begin with, by nonterminals. -/
def allTo (g : Gm) (k : Nat) : List Nat := (g.prods.take k).foldl (fun F p => F.set p.left.toNat (F.getD p.left.toNat 0 ||| ofN (numR g) (nulls g) p.right)) (List.replicate g.nons.toNat 0)
theorem allTo_zero (g : Gm) : allTo g 0 = List.replicate g.nons.toNat 0 := rfl
theorem allTo_succ (g : Gm) {k : Nat} {p : Pr} (h : g.prods[k]? = some p) : allTo g (k + 1) = (allTo g k).set p.left.toNat ((allTo g k).getD p.left.toNat 0 ||| ofN (numR g) (nulls g) p.right) := by
  obtain ⟨hk, rfl⟩ := List.getElem?_eq_some_iff.1 h
  unfold allTo
  rw [List.take_succ_eq_append_getElem hk, List.foldl_append]
  rfl
theorem allTo_len (g : Gm) : ∀ k, (allTo g k).length = g.nons.toNat
  | 0 => by rw [allTo_zero, List.length_replicate]
  | k + 1 => by
    rcases Nat.lt_or_ge k g.prods.length with h | h
    · rw [allTo_succ g (List.getElem?_eq_getElem h), List.length_set, allTo_len g k]
    · have : allTo g (k + 1) = allTo g k := by unfold allTo; rw [List.take_of_length_le (by omega), List.take_of_length_le h]
      rw [this, allTo_len g k]
section
variable {g : Gm}
theorem allTo_lt (hg : Ok g) : ∀ {k : Nat}, k ≤ g.prods.length → ∀ n, (allTo g k).getD n 0 < 4294967296
  | 0, _, n => by rw [allTo_zero, getD_zero n fun x hx => (List.mem_replicate.1 hx).2]; decide
  | k + 1, hk, n => by
    have h : k < g.prods.length := by omega
    have ih := allTo_lt hg (k := k) (by omega)
    have hp : g.prods[k] ∈ g.prods := List.getElem_mem h
    rw [allTo_succ g (List.getElem?_eq_getElem h), getD_set (by rw [allTo_len]; exact (ok_nums hg hp).1)]
    split
    · exact Nat.or_lt_two_pow (n := 32) (ih _) (ofN_lt (numR_lt g) fun s hx e => ((syOk_prod hg hp) s hx).2.2 e)
    · exact ih n
theorem allTo_under (hg : Ok g) (t : Nat) : ∀ {k : Nat}, k ≤ g.prods.length → ∀ n, n < g.nons.toNat → tb (allTo g k) n t = true → tb (numR g) n t = true
  | 0, _, n, _, h => by unfold tb at h; rw [allTo_zero, getD_zero n fun x hx => (List.mem_replicate.1 hx).2, Nat.zero_testBit] at h; cases h
  | k + 1, hk, n, hn, h => by
    have hl : k < g.prods.length := by omega
    have ih := allTo_under hg t (k := k) (by omega) n hn
    have hp : g.prods[k] ∈ g.prods := List.getElem_mem hl
    unfold tb at h
    rw [allTo_succ g (List.getElem?_eq_getElem hl), getD_set (by rw [allTo_len]; exact (ok_nums hg hp).1)] at h
    split at h
    · rename_i e
      rw [Nat.testBit_or, Bool.or_eq_true] at h
      rcases h with h | h
      · rw [e] at h; exact ih h
      · rw [ofN_bit t (fun s hx => ((syOk_prod hg hp) s hx).1)] at h
        rw [← e]
        exact first_shut (first_numR hg) hp h
    · exact ih h
theorem allTo_over (hg : Ok g) (t : Nat) : ∀ {k : Nat}, k ≤ g.prods.length → ∀ i, i < k → ∀ p, g.prods[i]? = some p → of (tb (numR g)) (nulls g) p.right t = true → tb (allTo g k) p.left.toNat t = true
  | 0, _, i, hi, _, _, _ => absurd hi (by omega)
  | k + 1, hk, i, hi, p, hpi, ho => by
    have hl : k < g.prods.length := by omega
    have hp : g.prods[k] ∈ g.prods := List.getElem_mem hl
    unfold tb
    rw [allTo_succ g (List.getElem?_eq_getElem hl), getD_set (by rw [allTo_len]; exact (ok_nums hg hp).1)]
    by_cases e : i = k
    · subst e
      rw [List.getElem?_eq_getElem hl] at hpi
      injection hpi with hpi
      subst hpi
      rw [if_pos rfl, Nat.testBit_or, ofN_bit t (fun s hx => ((syOk_prod hg hp) s hx).1), ho, Bool.or_true]
    · have ih := allTo_over hg t (k := k) (by omega) i (by omega) p hpi ho
      split
      · rename_i e2
        rw [Nat.testBit_or, e2]
        unfold tb at ih
        rw [ih]; rfl
      · exact ih
theorem allTo_all (hg : Ok g) {n : Nat} (hn : n < g.nons.toNat) : (allTo g g.prods.length).getD n 0 = (numR g).getD n 0 := by
  apply Nat.eq_of_testBit_eq
  intro t
  show tb (allTo g g.prods.length) n t = tb (numR g) n t
  cases h : tb (numR g) n t with
  | true =>
    obtain ⟨p, hp, hpl, ho⟩ := first_from hg (first_numR hg) hn h
    obtain ⟨i, hi, rfl⟩ := List.getElem_of_mem hp
    rw [← hpl]
    exact allTo_over hg t (Nat.le_refl _) i hi _ (List.getElem?_eq_getElem hi) ho
  | false =>
    cases h2 : tb (allTo g g.prods.length) n t with
    | false => rfl
    | true => rw [allTo_under hg t (Nat.le_refl _) n hn h2] at h; cases h
theorem numR_terms (hg : Ok g) {n : Nat} (hn : n < g.nons.toNat) : (numR g).getD n 0 < 2 ^ g.terms.toNat := by
  apply Nat.lt_pow_two_of_testBit
  intro t ht
  cases h : ((numR g).getD n 0).testBit t with
  | false => rfl
  | true =>
    have h1 : tb (numR g) n t = true := h
    rw [tb_numR' hg hn] at h1
    have h2 := colR_term hg hn h1
    have h3 : (0 : Int) ≤ g.terms := hg.1
    omega
theorem ofN_one (n : Nat) : ofN (numR g) (nulls g) [⟨true, (n : Int)⟩] = (numR g).getD n 0 := by
  rw [ofN_cons, if_pos rfl]
  show (numR g).getD ((n : Int)).toNat 0 ||| (if nulls g ((n : Int)).toNat then 0 else 0) = _
  rw [Int.toNat_natCast, ite_self, Nat.or_zero]
end
end Go.Proofs.Ytebjbahbaiialaa.Fi
