/- Plain facts on what is reached. No program is named here. -/
import Derived.Test.YthjaidaibpdamaaKRnd
namespace Go.Proofs.Ythjaidaibpdamaa.Rc
open Gr (Sy Pr Gm okSy okPr Ok)
open Rk (Fs Pick rk rounds)

/-- Does a nonterminal stand in a production? -/
def stands (p : Pr) (n : Nat) : Bool := p.right.any fun s => s.non && decide (s.n = (n : Int))
/-- The first production of one that was reached in the round ahead, in which it stands. -/
def pick (ps : List Pr) : Pick := fun l r n => ps.findIdx? fun p => stands p n && decide (rk l p.left.toNat + 1 = r)
def base (nons start : Nat) : Fs := (List.replicate nons (0, 0)).set start (1, 0)
theorem base_length (nons start : Nat) : (base nons start).length = nons := by unfold base; rw [List.length_set, List.length_replicate]
theorem base_getD {nons start : Nat} (n : Nat) (hs : start < nons) : (base nons start).getD n (0, 0) = if n = start then (1, 0) else (0, 0) := by
  unfold base
  rw [List.getD_eq_getElem?_getD, List.getElem?_set]
  by_cases h : start = n
  · subst h
    rw [if_pos rfl, if_pos rfl, if_pos (by rw [List.length_replicate]; exact hs)]
    rfl
  · rw [if_neg h, if_neg (fun e => h e.symm), List.getElem?_replicate]
    split <;> rfl
theorem base_rk {nons start : Nat} (n : Nat) (hs : start < nons) : rk (base nons start) n = if n = start then 1 else 0 := by
  unfold rk
  rw [base_getD n hs]
  split <;> rfl
theorem base_le {nons start : Nat} (hs : start < nons) : ∀ n, rk (base nons start) n ≤ 1 := by
  intro n
  rw [base_rk n hs]
  split <;> omega
theorem pick_none (ps : List Pr) (l : Fs) (r r' n : Nat) (h : ∀ m, rk l m < r) (hr : r ≤ r') (hp : pick ps l r n = none) : pick ps l r' n = none := by
  unfold pick at hp ⊢
  rw [List.findIdx?_eq_none_iff] at hp ⊢
  intro p hm
  have h1 := hp p hm
  by_cases e : r = r'
  · subst e; exact h1
  · have := h p.left.toNat
    rw [decide_eq_false (by omega), Bool.and_false]
theorem pick_some {ps : List Pr} {l : Fs} {r n i : Nat} (h : pick ps l r n = some i) : ∃ p, ps[i]? = some p ∧ stands p n = true ∧ rk l p.left.toNat + 1 = r ∧
    ∀ j q, j < i → ps[j]? = some q → stands q n = true → rk l q.left.toNat + 1 ≠ r := by
  unfold pick at h
  rw [List.findIdx?_eq_some_iff_getElem] at h
  obtain ⟨hi, h1, h2⟩ := h
  rw [Bool.and_eq_true, decide_eq_true_eq] at h1
  refine ⟨ps[i], List.getElem?_eq_getElem hi, h1.1, h1.2, ?_⟩
  intro j q hj hq hs
  have hjl : j < ps.length := by omega
  rw [List.getElem?_eq_getElem hjl] at hq
  injection hq with hq
  have := h2 j hj
  rw [hq, hs, Bool.true_and] at this
  simpa using this

/-- The facts, round by round, and in the end. -/
def rounds' (ps : List Pr) (nons start k : Nat) : Fs := rounds (pick ps) (base nons start) 1 k
def reach (ps : List Pr) (nons start : Nat) : Fs := rounds' ps nons start (nons - 1)

section
variable (ps : List Pr) {nons start : Nat} (hs : start < nons)
include hs
omit hs in
theorem rounds'_length (k : Nat) : (rounds' ps nons start k).length = nons := by unfold rounds'; rw [Rk.rounds_length, base_length]
omit hs in
theorem reach_length : (reach ps nons start).length = nons := rounds'_length ps _
theorem settled' {k : Nat} (hk : nons ≤ k + 1) : rounds' ps nons start k = reach ps nons start := by
  refine Rk.settled_on (pick ps) (base nons start) 1 (base_le hs) (pick_none ps) (c := 1) ?_ (j := nons - 1) (by rw [base_length]; omega) (by omega)
  rw [base_length]
  apply Rk.cnt_pos hs
  rw [base_rk _ hs, if_pos rfl]
  rfl
/-- A round that finds nothing ends it. -/
theorem reach_of {k : Nat} (h : rounds' ps nons start (k + 1) = rounds' ps nons start k) : rounds' ps nons start k = reach ps nons start := by
  rcases Nat.lt_or_ge (k + 1) nons with h1 | h1
  · have := Rk.stable_on (pick ps) (base nons start) 1 (base_le hs) (pick_none ps) h (nons - 1 - k)
    rw [show k + (nons - 1 - k) = nons - 1 by omega] at this
    exact this.symm
  · exact settled' ps hs h1
theorem rank_le (n : Nat) : rk (reach ps nons start) n ≤ nons := by
  have := Rk.rk_le (pick ps) (base nons start) 1 (base_le hs) (nons - 1) n
  unfold reach rounds'
  omega
theorem rank_zero (n : Nat) (h : rk (reach ps nons start) n = 0) : (reach ps nons start).getD n (0, 0) = (0, 0) := by
  refine Rk.zero (pick ps) (base nons start) 1 ?_ _ n h
  intro n h
  rw [base_rk n hs] at h
  rw [base_getD n hs]
  split at h
  · exact absurd h (by decide)
  · rename_i h1; rw [if_neg h1]
theorem at_start : (reach ps nons start).getD start (0, 0) = (1, 0) := by
  have h0 : rk (rounds (pick ps) (base nons start) 1 0) start ≠ 0 := by
    show rk (base nons start) start ≠ 0
    rw [base_rk _ hs, if_pos rfl]; decide
  have := Rk.keep (pick ps) (base nons start) 1 h0 (nons - 1)
  rw [Nat.zero_add] at this
  unfold reach rounds'
  rw [this]
  show (base nons start).getD start (0, 0) = _
  rw [base_getD _ hs, if_pos rfl]
theorem rk_start : rk (reach ps nons start) start = 1 := by unfold rk; rw [at_start ps hs]
/-- The facts show: who isn't Start was reached from one that was a round ahead. -/
theorem shown {n : Nat} (hn : n ≠ start) (h : rk (reach ps nons start) n ≠ 0) :
    ∃ p, ps[((reach ps nons start).getD n (0, 0)).2]? = some p ∧ stands p n = true ∧ rk (reach ps nons start) p.left.toNat ≠ 0 ∧ rk (reach ps nons start) p.left.toNat + 1 = rk (reach ps nons start) n := by
  have h2 : 2 ≤ rk (reach ps nons start) n := by
    rcases Nat.lt_or_ge (rk (reach ps nons start) n) 2 with h2 | h2
    · exfalso
      have e := Rk.there (pick ps) (base nons start) 1 (base_le hs) (k := nons - 1) (j := 0) (n := n) h (by show rk (reach ps nons start) n ≤ 1 + 0; omega)
      have e3 : rk (base nons start) n = rk (reach ps nons start) n := by unfold rk reach rounds'; rw [← e]; rfl
      rw [base_rk n hs, if_neg hn] at e3
      exact h e3.symm
    · exact h2
  obtain ⟨k, er⟩ : ∃ k, rk (reach ps nons start) n = 1 + k + 1 := ⟨rk (reach ps nons start) n - 2, by omega⟩
  have e1 := Rk.early (pick ps) (base nons start) 1 (base_le hs) (nons - 1) n k er
  have h0 := e1.1 k (Nat.le_refl _)
  have e2 := e1.2 (k + 1) (by omega)
  have h1 : rk (rounds (pick ps) (base nons start) 1 (k + 1)) n ≠ 0 := by unfold rk; rw [e2]; exact h
  obtain ⟨i, hp, e3⟩ := Rk.new_rk (pick ps) (base nons start) 1 h0 h1
  obtain ⟨p, hi, hst, hr, _⟩ := pick_some hp
  have e4 : (reach ps nons start).getD n (0, 0) = (1 + k + 1, i) := by unfold reach rounds'; rw [← e2]; exact e3
  rw [e4]
  have hle : k ≤ nons - 1 := by have := rank_le ps hs n; omega
  have hne : rk (rounds (pick ps) (base nons start) 1 k) p.left.toNat ≠ 0 := by omega
  have := Rk.keep_rk (pick ps) (base nons start) 1 hle hne
  have e5 : rk (reach ps nons start) p.left.toNat = rk (rounds (pick ps) (base nons start) 1 k) p.left.toNat := this
  refine ⟨p, hi, hst, by rw [e5]; exact hne, ?_⟩
  rw [e5, er]
  omega
/-- Who stands in a production of who is reached is reached, a round behind at the latest. -/
theorem on {p : Pr} (hp : p ∈ ps) {n : Nat} (hn : n < nons) (hst : stands p n = true) (h : rk (reach ps nons start) p.left.toNat ≠ 0) :
    rk (reach ps nons start) n ≠ 0 ∧ rk (reach ps nons start) n ≤ rk (reach ps nons start) p.left.toNat + 1 := by
  obtain ⟨k, er⟩ : ∃ k, rk (reach ps nons start) p.left.toNat = 1 + k := ⟨rk (reach ps nons start) p.left.toNat - 1, by omega⟩
  have e := Rk.there (pick ps) (base nons start) 1 (base_le hs) (k := nons - 1) (j := k) (n := p.left.toNat) h (by show rk (reach ps nons start) _ ≤ 1 + k; omega)
  have e2 : rk (rounds (pick ps) (base nons start) 1 k) p.left.toNat = 1 + k := by rw [← er]; unfold rk; rw [e]; rfl
  have key : rk (rounds (pick ps) (base nons start) 1 (k + 1)) n ≠ 0 := by
    cases ep : pick ps (rounds (pick ps) (base nons start) 1 k) (1 + k + 1) n with
    | none =>
      unfold pick at ep
      rw [List.findIdx?_eq_none_iff] at ep
      have := ep p hp
      have e2 : rk (rounds (fun l r n => ps.findIdx? fun p => stands p n && decide (rk l p.left.toNat + 1 = r)) (base nons start) 1 k) p.left.toNat = 1 + k := e2
      rw [hst, e2] at this
      exact absurd this (by simp)
    | some i => exact Rk.got (pick ps) (base nons start) 1 (by rw [base_length]; exact hn) ep
  have hle := Rk.rk_le (pick ps) (base nons start) 1 (base_le hs) (k + 1) n
  have e3 : rk (reach ps nons start) n = rk (rounds (pick ps) (base nons start) 1 (k + 1)) n := by
    rcases Nat.lt_or_ge nons (k + 1 + 1) with h1 | h1
    · rw [← settled' ps hs (k := k + 1) (by omega)]; rfl
    · exact Rk.keep_rk (pick ps) (base nons start) 1 (by omega) key
  rw [e3]
  exact ⟨key, by omega⟩
/-- What shows that one is reached is right, and the rank is no greater. -/
theorem least {R : Nat → Int} (h1 : R start = 1) (h : ∀ n, n < nons → n ≠ start → 0 < R n → ∃ p ∈ ps, stands p n = true ∧ p.left.toNat < nons ∧ 0 < R p.left.toNat ∧ R p.left.toNat < R n) :
    ∀ (m n : Nat), n < nons → 0 < R n → (R n).toNat ≤ m → rk (reach ps nons start) n ≠ 0 ∧ (rk (reach ps nons start) n : Int) ≤ R n
  | 0, n, _, h0, hm => by omega
  | m + 1, n, hn, h0, hm => by
    by_cases e : n = start
    · subst e
      rw [rk_start ps hs]
      omega
    · obtain ⟨p, hp, hst, hl, h3, h4⟩ := h n hn e h0
      have ih := least h1 h m p.left.toNat hl h3 (by omega)
      have := on ps hs hp hn hst ih.1
      omega
end
end Go.Proofs.Ythjaidaibpdamaa.Rc
