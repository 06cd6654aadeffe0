/- The places at which nonterminals stand, one behind the other, and how sets are put together by them. Plain facts; no program is named here. -/
import Derived.Test.YtgmnokmchjeflaaFoNum
namespace Go.Proofs.Ytgmnokmchjeflaa.Fi
open Gr (Sy Pr Gm okSy okPr Ok)

/-- Where a nonterminal stands: which one, in a production of which one, with what all that stands behind it there begins, and whether that is nullable. -/
structure Pl where
  non : Nat
  left : Nat
  behind : Nat
  all : Bool
/-- The place k of the symbols r. -/
def plOne (g : Gm) (left : Nat) (r : List Sy) (k : Nat) : List Pl :=
  match r[k]? with
  | some s => if s.non then [⟨s.n.toNat, left, ofN (numR g) (nulls g) (r.drop (k + 1)), allNull (nulls g) (r.drop (k + 1))⟩] else []
  | none => []
def plPre (g : Gm) (left : Nat) (r : List Sy) (k : Nat) : List Pl := (List.range k).flatMap (plOne g left r)
def plProd (g : Gm) (i : Nat) : List Pl :=
  match g.prods[i]? with
  | some p => plPre g p.left.toNat p.right p.right.length
  | none => []
def plTo (g : Gm) (i : Nat) : List Pl := (List.range i).flatMap (plProd g)
/-- All places of a grammar. -/
def pls (g : Gm) : List Pl := plTo g g.prods.length

section
variable {g : Gm} {left : Nat} {r : List Sy}
theorem plOne_non {k : Nat} {s : Sy} (h : r[k]? = some s) (hn : s.non = true) : plOne g left r k = [⟨s.n.toNat, left, ofN (numR g) (nulls g) (r.drop (k + 1)), allNull (nulls g) (r.drop (k + 1))⟩] := by
  unfold plOne; rw [h]; show (if s.non then _ else _) = _; rw [if_pos hn]
theorem plOne_term {k : Nat} {s : Sy} (h : r[k]? = some s) (hn : s.non = false) : plOne g left r k = [] := by
  unfold plOne; rw [h]; show (if s.non then _ else _) = _; rw [if_neg (by rw [hn]; decide)]
theorem plOne_len (g : Gm) (left : Nat) (r : List Sy) (k : Nat) : (plOne g left r k).length ≤ 1 := by
  unfold plOne
  split
  · split <;> simp
  · simp
theorem plPre_zero (g : Gm) (left : Nat) (r : List Sy) : plPre g left r 0 = [] := rfl
theorem plPre_succ (g : Gm) (left : Nat) (r : List Sy) (k : Nat) : plPre g left r (k + 1) = plPre g left r k ++ plOne g left r k := by
  unfold plPre
  rw [List.range_succ, List.flatMap_append]
  simp
theorem plPre_len (g : Gm) (left : Nat) (r : List Sy) : ∀ k, (plPre g left r k).length ≤ k
  | 0 => by simp [plPre]
  | k + 1 => by
    rw [plPre_succ, List.length_append]
    have := plPre_len g left r k
    have := plOne_len g left r k
    omega
theorem plTo_zero (g : Gm) : plTo g 0 = [] := rfl
theorem plTo_succ {i : Nat} {p : Pr} (h : g.prods[i]? = some p) : plTo g (i + 1) = plTo g i ++ plPre g p.left.toNat p.right p.right.length := by
  unfold plTo
  rw [List.range_succ, List.flatMap_append]
  simp [plProd, h]
theorem plTo_len {m : Nat} (hm : ∀ p ∈ g.prods, p.right.length ≤ m) : ∀ {i : Nat}, i ≤ g.prods.length → (plTo g i).length ≤ m * i
  | 0, _ => by simp [plTo]
  | i + 1, h => by
    have hi : i < g.prods.length := by omega
    rw [plTo_succ (List.getElem?_eq_getElem hi), List.length_append, Nat.mul_succ]
    have h1 := plTo_len hm (i := i) (by omega)
    have h2 := plPre_len g g.prods[i].left.toNat g.prods[i].right g.prods[i].right.length
    have h3 := hm _ (List.getElem_mem hi)
    omega
theorem mem_pls {q : Pl} : q ∈ pls g ↔ ∃ (i k : Nat) (p : Pr) (s : Sy), g.prods[i]? = some p ∧ p.right[k]? = some s ∧ s.non = true ∧
    q = ⟨s.n.toNat, p.left.toNat, ofN (numR g) (nulls g) (p.right.drop (k + 1)), allNull (nulls g) (p.right.drop (k + 1))⟩ := by
  unfold pls plTo
  rw [List.mem_flatMap]
  constructor
  · rintro ⟨i, hi, hq⟩
    unfold plProd at hq
    split at hq
    · rename_i p hp
      unfold plPre at hq
      rw [List.mem_flatMap] at hq
      obtain ⟨k, _, hq⟩ := hq
      unfold plOne at hq
      split at hq
      · rename_i s hs
        split at hq
        · rename_i hn
          exact ⟨i, k, p, s, hp, hs, hn, by simpa using hq⟩
        · simp at hq
      · simp at hq
    · simp at hq
  · rintro ⟨i, k, p, s, hp, hs, hn, rfl⟩
    have hi : i < g.prods.length := by
      rcases Nat.lt_or_ge i g.prods.length with h | h
      · exact h
      · rw [List.getElem?_eq_none h] at hp; cases hp
    have hk : k < p.right.length := by
      rcases Nat.lt_or_ge k p.right.length with h | h
      · exact h
      · rw [List.getElem?_eq_none h] at hs; cases hs
    refine ⟨i, List.mem_range.2 hi, ?_⟩
    unfold plProd
    rw [hp]
    show _ ∈ plPre g p.left.toNat p.right p.right.length
    unfold plPre
    rw [List.mem_flatMap]
    exact ⟨k, List.mem_range.2 hk, by rw [plOne_non hs hn]; exact List.mem_cons_self ..⟩
/-- What a place's nonterminal has behind it is put in. -/
def plV (W : List Nat) (q : Pl) : Nat := W.getD q.non 0 ||| (q.behind ||| (if q.all then W.getD q.left 0 else 0))
theorem plV_beh {W : List Nat} {p : Pr} {s : Sy} {k : Nat} :
    plV W ⟨s.n.toNat, p.left.toNat, ofN (numR g) (nulls g) (p.right.drop (k + 1)), allNull (nulls g) (p.right.drop (k + 1))⟩ = W.getD s.n.toNat 0 ||| behN (numR g) W (nulls g) p.left.toNat (p.right.drop (k + 1)) := rfl
theorem pl_nums (hg : Ok g) {q : Pl} (hq : q ∈ pls g) : q.non < g.nons.toNat ∧ q.left < g.nons.toNat ∧ q.behind < 4294967296 := by
  obtain ⟨i, k, p, s, hp, hs, hn, rfl⟩ := mem_pls.1 hq
  have hpm : p ∈ g.prods := List.mem_of_getElem? hp
  have hsm : s ∈ p.right := List.mem_of_getElem? hs
  have h1 := ok_nums hg hpm
  have hsy := syOk_prod hg hpm
  refine ⟨h1.2.1 s hsm hn, h1.1, ofN_lt (numR_lt g) fun x hx e => (hsy x (List.mem_of_mem_drop hx)).2.2 e⟩
theorem UnderW.pl {W : List Nat} (hg : Ok g) (h : UnderW g W) {q : Pl} (hq : q ∈ pls g) : UnderW g (W.set q.non (plV W q)) := by
  obtain ⟨i, k, p, s, hp, hs, hn, rfl⟩ := mem_pls.1 hq
  exact h.put hg (List.mem_of_getElem? hp) hs hn
theorem plV_lt {W : List Nat} (hg : Ok g) (h : UnderW g W) {q : Pl} (hq : q ∈ pls g) : plV W q < 4294967296 := by
  unfold plV
  refine Nat.or_lt_two_pow (n := 32) (h.lt _) (Nat.or_lt_two_pow (n := 32) (pl_nums hg hq).2.2 ?_)
  split
  · exact h.lt _
  · decide
/-- Of the first j places nothing is to be put in. -/
def ShutP (g : Gm) (W : List Nat) (j : Nat) : Prop := ∀ i, i < j → ∀ q, (pls g)[i]? = some q → plV W q = W.getD q.non 0
theorem shutP_zero {W : List Nat} : ShutP g W 0 := fun i hi => absurd hi (by omega)
theorem shutP_succ {W : List Nat} {j : Nat} (h : ShutP g W j) {q : Pl} (hq : (pls g)[j]? = some q) (he : plV W q = W.getD q.non 0) : ShutP g W (j + 1) := by
  intro i hi q' hq'
  by_cases e : i = j
  · subst e; rw [hq] at hq'; injection hq' with hq'; subst hq'; exact he
  · exact h i (by omega) q' hq'
theorem shutP_all {W : List Nat} (h : ShutP g W (pls g).length) : ShutW g W g.prods.length 0 := by
  intro j q hj p s hp hs hn
  have hm := mem_pls.2 ⟨j, q, p, s, hp, hs, hn, rfl⟩
  obtain ⟨i, hi, he⟩ := List.getElem_of_mem hm
  have h1 := h i hi _ (List.getElem?_eq_getElem hi)
  rw [he] at h1
  exact h1
theorem UnderW.end_ {W : List Nat} (hg : Ok g) (h : UnderW g W) (hs : ShutP g W (pls g).length) : W = numW g := h.done hg (shutP_all hs)
end

/-- In two steps, as the code has it. -/
theorem plV_no {W : List Nat} {q : Pl} (h : q.all = false) : W.getD q.non 0 ||| q.behind = plV W q := by
  unfold plV
  rw [if_neg (by rw [h]; decide)]
  simp
theorem plV_yes {W : List Nat} {q : Pl} (hn : q.non < W.length) (h : q.all = true) :
    (W.set q.non (W.getD q.non 0 ||| q.behind)).getD q.non 0 ||| (W.set q.non (W.getD q.non 0 ||| q.behind)).getD q.left 0 = plV W q := by
  unfold plV
  rw [if_pos h, getD_set hn, getD_set hn, if_pos rfl]
  apply Nat.eq_of_testBit_eq
  intro t
  by_cases e : q.non = q.left
  · rw [if_pos e, ← e]
    simp only [Nat.testBit_or]
    cases (W.getD q.non 0).testBit t <;> cases q.behind.testBit t <;> rfl
  · rw [if_neg e]
    simp only [Nat.testBit_or, Bool.or_assoc]
theorem set_two {W : List Nat} {n a b : Nat} : (W.set n a).set n b = W.set n b := List.set_set ..
end Go.Proofs.Ytgmnokmchjeflaa.Fi
