/- Plain facts on a round nonterminal by nonterminal, in place; and on who is picked for it (reach). No program is named here. -/
import Derived.Test.YthhgjdnbeeadhaaMathA
namespace Go.Proofs.Ythhgjdnbeeadhaa.Rk

section
variable (pk : Pick) (l : Fs) (r : Nat)
/-- The round, as far as the first n nonterminals go. -/
def placed (n : Nat) : Fs := l.mapIdx fun m f => if m < n then next pk l r m f else f
theorem placed_length (n : Nat) : (placed pk l r n).length = l.length := List.length_mapIdx ..
theorem placed_get (n m : Nat) : (placed pk l r n)[m]? = (l[m]?).map fun f => if m < n then next pk l r m f else f := by unfold placed; rw [List.getElem?_mapIdx]
theorem placed_zero : placed pk l r 0 = l := by
  apply List.ext_getElem?
  intro m
  rw [placed_get]
  cases l[m]? with
  | none => rfl
  | some f => rw [Option.map_some, if_neg (by omega)]
theorem placed_end {n : Nat} (h : l.length ≤ n) : placed pk l r n = round pk l r := by
  apply List.ext_getElem?
  intro m
  unfold round
  rw [placed_get, List.getElem?_mapIdx]
  cases hm : l[m]? with
  | none => rfl
  | some f =>
    have : m < l.length := by
      rcases Nat.lt_or_ge m l.length with h | h
      · exact h
      · rw [List.getElem?_eq_none h] at hm; cases hm
    rw [Option.map_some, Option.map_some, if_pos (by omega)]
theorem placed_keep {n : Nat} (h : rk l n ≠ 0 ∨ pk l r n = none) : placed pk l r (n + 1) = placed pk l r n := by
  apply List.ext_getElem?
  intro m
  rw [placed_get, placed_get]
  cases hm : l[m]? with
  | none => rfl
  | some f =>
    simp only [Option.map_some]
    congr 1
    by_cases e : m = n
    · subst e
      rw [if_pos (by omega), if_neg (by omega)]
      rcases h with h | h
      · unfold rk at h
        rw [List.getD_eq_getElem?_getD, hm, Option.getD_some] at h
        exact next_keep h
      · exact next_none h
    · by_cases h1 : m < n
      · rw [if_pos (by omega), if_pos h1]
      · rw [if_neg (by omega), if_neg h1]
theorem placed_put {n i : Nat} (h0 : rk l n = 0) (hp : pk l r n = some i) (hn : n < l.length) : placed pk l r (n + 1) = (placed pk l r n).set n (r, i) := by
  apply List.ext_getElem?
  intro m
  rw [List.getElem?_set, placed_get, placed_get, placed_length]
  by_cases e : n = m
  · subst e
    rw [if_pos rfl, if_pos hn, List.getElem?_eq_getElem hn, Option.map_some, if_pos (by omega)]
    congr 1
    unfold rk at h0
    rw [List.getD_eq_getElem?_getD, List.getElem?_eq_getElem hn, Option.getD_some] at h0
    exact next_some h0 hp
  · rw [if_neg e]
    cases l[m]? with
    | none => rfl
    | some f =>
      simp only [Option.map_some]
      congr 1
      by_cases h1 : m < n
      · rw [if_pos (by omega), if_pos h1]
      · rw [if_neg (by omega), if_neg h1]
theorem placed_rk (n m : Nat) : rk (placed pk l r n) m = rk l m ∨ (rk l m = 0 ∧ rk (placed pk l r n) m = r) := by
  unfold rk
  rw [List.getD_eq_getElem?_getD, List.getD_eq_getElem?_getD, placed_get]
  cases h : l[m]? with
  | none => exact .inl rfl
  | some f =>
    simp only [Option.map_some, Option.getD_some]
    split
    · unfold next
      by_cases h1 : f.1 ≠ 0
      · rw [if_pos h1]; exact .inl rfl
      · rw [if_neg h1]
        split
        · exact .inr ⟨by omega, rfl⟩
        · exact .inl rfl
    · exact .inl rfl
/-- Whether a nonterminal is of just the round ahead is told alike while the round goes on. -/
theorem placed_ahead {n m : Nat} (hr : 2 ≤ r) : rk (placed pk l r n) m + 1 = r ↔ rk l m + 1 = r := by
  rcases placed_rk pk l r n m with e | ⟨e1, e2⟩
  · rw [e]
  · rw [e1, e2]; omega
/-- Who stands behind is as it was. -/
theorem placed_at {n m : Nat} (h : n ≤ m) : (placed pk l r n).getD m (0, 0) = l.getD m (0, 0) := by
  rw [List.getD_eq_getElem?_getD, List.getD_eq_getElem?_getD, placed_get]
  cases l[m]? with
  | none => rfl
  | some f => rw [Option.map_some, if_neg (by omega)]
end
end Go.Proofs.Ythhgjdnbeeadhaa.Rk

namespace Go.Proofs.Ythhgjdnbeeadhaa.Rc
open Gr (Sy Pr Gm okSy okPr Ok)
open Rk (Fs Pick rk rounds)

/-- Does production i stand for it? -/
def hit (ps : List Pr) (l : Fs) (r n i : Nat) : Prop := ∃ p, ps[i]? = some p ∧ stands p n = true ∧ rk l p.left.toNat + 1 = r
theorem pick_is {ps : List Pr} {l : Fs} {r n i : Nat} (h : hit ps l r n i) (ha : ∀ j, j < i → ¬ hit ps l r n j) : pick ps l r n = some i := by
  obtain ⟨p, hp, h1, h2⟩ := h
  obtain ⟨hi, he⟩ := List.getElem?_eq_some_iff.1 hp
  unfold pick
  rw [List.findIdx?_eq_some_iff_getElem]
  refine ⟨hi, by rw [he, h1, Bool.true_and]; exact decide_eq_true h2, fun j hj => ?_⟩
  intro hx
  rw [Bool.and_eq_true, decide_eq_true_eq] at hx
  exact ha j hj ⟨ps[j], List.getElem?_eq_getElem (by omega), hx.1, hx.2⟩
theorem pick_not {ps : List Pr} {l : Fs} {r n : Nat} (ha : ∀ j, j < ps.length → ¬ hit ps l r n j) : pick ps l r n = none := by
  unfold pick
  rw [List.findIdx?_eq_none_iff]
  intro p hp
  obtain ⟨j, hj, rfl⟩ := List.getElem_of_mem hp
  cases e : (stands ps[j] n && decide (rk l ps[j].left.toNat + 1 = r)) with
  | false => rfl
  | true =>
    rw [Bool.and_eq_true, decide_eq_true_eq] at e
    exact absurd ⟨ps[j], List.getElem?_eq_getElem hj, e.1, e.2⟩ (ha j hj)
theorem hits_succ {ps : List Pr} {l : Fs} {r n i : Nat} (ha : ∀ j, j < i → ¬ hit ps l r n j) (h : ¬ hit ps l r n i) : ∀ j, j < i + 1 → ¬ hit ps l r n j := fun j hj => by
  by_cases e : j = i
  · subst e; exact h
  · exact ha j (by omega)
/-- Of the rounds: what the next one is, and that ranks in it are less than its own. -/
theorem rounds'_succ (ps : List Pr) (nons start k : Nat) : rounds' ps nons start (k + 1) = Rk.round (pick ps) (rounds' ps nons start k) (k + 2) := by
  unfold rounds'
  rw [Rk.rounds_succ, show 1 + k + 1 = k + 2 by omega]
theorem rounds'_lt (ps : List Pr) {nons start : Nat} (hs : start < nons) (k : Nat) : ∀ n, rk (rounds' ps nons start k) n < k + 2 := by
  intro n
  have := Rk.rk_le (pick ps) (base nons start) 1 (base_le hs) k n
  unfold rounds'
  omega
theorem turned_lt (ps : List Pr) {nons start : Nat} (hs : start < nons) (k : Nat) (h : rounds' ps nons start (k + 1) ≠ rounds' ps nons start k) : k + 1 < nons := by
  rcases Nat.lt_or_ge (k + 1) nons with h1 | h1
  · exact h1
  · exact absurd (by rw [settled' ps hs (k := k + 1) (by omega), settled' ps hs h1]) h
end Go.Proofs.Ythhgjdnbeeadhaa.Rc
