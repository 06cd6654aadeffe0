/- Whether a grammar is sound: which nonterminal is the least that is not, and why. Plain facts; no program is named here. -/
import Derived.Test.YthhgjdnbeeadhaaMathA
namespace Go.Proofs.Ythhgjdnbeeadhaa.Sd
open Gr (Gm Ok)

/-- The least number below n of which f is so. -/
def least (n : Nat) (f : Nat → Bool) : Option Nat := (List.range n).find? f
section
variable {n : Nat} {f : Nat → Bool}
theorem least_none : least n f = none ↔ ∀ i, i < n → f i = false := by
  unfold least
  rw [List.find?_eq_none]
  constructor
  · intro h i hi
    simpa using h i (List.mem_range.2 hi)
  · intro h i hi
    rw [h i (List.mem_range.1 hi)]
    decide
theorem least_some {i : Nat} : least n f = some i ↔ i < n ∧ f i = true ∧ ∀ j, j < i → f j = false := by
  unfold least
  rw [List.find?_range_eq_some]
  constructor
  · rintro ⟨h1, h2, h3⟩
    exact ⟨List.mem_range.1 h2, h1, fun j hj => by simpa using h3 j hj⟩
  · rintro ⟨h1, h2, h3⟩
    exact ⟨h2, List.mem_range.2 h1, fun j hj => by simpa using h3 j hj⟩
theorem least_at {i : Nat} (hi : i < n) (h : f i = true) (hb : ∀ j, j < i → f j = false) : least n f = some i := least_some.2 ⟨hi, h, hb⟩
theorem below_snoc {i : Nat} (h : ∀ j, j < i → f j = false) (hi : f i = false) : ∀ j, j < i + 1 → f j = false := fun j hj => by
  rcases Nat.lt_or_ge j i with h1 | h1
  · exact h j h1
  · obtain rfl : j = i := by omega
    exact hi
end
/-- Of the nonterminal no word comes; it is not reached; it is left-recursive. -/
def deadB (g : Gm) (i : Nat) : Bool := decide (Rk.rk (Rk.ranks true g.prods g.nons.toNat) i = 0)
def aloneB (g : Gm) (i : Nat) : Bool := decide (Rk.rk (Rc.reach g.prods g.nons.toNat g.start.toNat) i = 0)
def leftB (g : Gm) (i : Nat) : Bool := decide (0 < (Lf.told g.prods (Fi.nulls g) g.nons.toNat i).length)
/-- What is told of a grammar that may be: the nonterminal, and why. -/
def faultOf (g : Gm) : Nat × Nat := match least g.nons.toNat (deadB g) with
  | some i => (i, 8)
  | none => match least g.nons.toNat (aloneB g) with
    | some i => (i, 9)
    | none => match least g.nons.toNat (leftB g) with
      | some i => (i, 10)
      | none => (0, 0)
section
variable {g : Gm}
theorem fault_dead {i : Nat} (h : least g.nons.toNat (deadB g) = some i) : faultOf g = (i, 8) := by unfold faultOf; rw [h]
theorem fault_alone {i : Nat} (h1 : least g.nons.toNat (deadB g) = none) (h : least g.nons.toNat (aloneB g) = some i) : faultOf g = (i, 9) := by unfold faultOf; rw [h1]; dsimp only; rw [h]
theorem fault_left {i : Nat} (h1 : least g.nons.toNat (deadB g) = none) (h2 : least g.nons.toNat (aloneB g) = none) (h : least g.nons.toNat (leftB g) = some i) : faultOf g = (i, 10) := by
  unfold faultOf; rw [h1]; dsimp only; rw [h2]; dsimp only; rw [h]
theorem fault_none (h1 : least g.nons.toNat (deadB g) = none) (h2 : least g.nons.toNat (aloneB g) = none) (h : least g.nons.toNat (leftB g) = none) : faultOf g = (0, 0) := by
  unfold faultOf; rw [h1]; dsimp only; rw [h2]; dsimp only; rw [h]
/-- Is a grammar that may be sound? -/
def Sound (g : Gm) : Prop := ∀ i, i < g.nons.toNat → deadB g i = false ∧ aloneB g i = false ∧ leftB g i = false
theorem sound_iff : (faultOf g).2 = 0 ↔ Sound g := by
  unfold faultOf Sound
  cases h1 : least g.nons.toNat (deadB g) with
  | some i =>
    obtain ⟨hi, hx, _⟩ := least_some.1 h1
    exact ⟨fun h => absurd h (by show ¬ (8 : Nat) = 0; decide), fun h => by rw [(h i hi).1] at hx; cases hx⟩
  | none =>
    dsimp only
    cases h2 : least g.nons.toNat (aloneB g) with
    | some i =>
      obtain ⟨hi, hx, _⟩ := least_some.1 h2
      exact ⟨fun h => absurd h (by show ¬ (9 : Nat) = 0; decide), fun h => by rw [(h i hi).2.1] at hx; cases hx⟩
    | none =>
      dsimp only
      cases h3 : least g.nons.toNat (leftB g) with
      | some i =>
        obtain ⟨hi, hx, _⟩ := least_some.1 h3
        exact ⟨fun h => absurd h (by show ¬ (10 : Nat) = 0; decide), fun h => by rw [(h i hi).2.2] at hx; cases hx⟩
      | none => exact ⟨fun _ i hi => ⟨least_none.1 h1 i hi, least_none.1 h2 i hi, least_none.1 h3 i hi⟩, fun _ => rfl⟩
theorem fault_zero (h : (faultOf g).2 = 0) : (faultOf g).1 = 0 := by
  unfold faultOf at h ⊢
  cases h1 : least g.nons.toNat (deadB g) with
  | some i => rw [h1] at h; exact absurd h (by show ¬ (8 : Nat) = 0; decide)
  | none =>
    rw [h1] at h
    dsimp only at h ⊢
    cases h2 : least g.nons.toNat (aloneB g) with
    | some i => rw [h2] at h; exact absurd h (by show ¬ (9 : Nat) = 0; decide)
    | none =>
      rw [h2] at h
      dsimp only at h ⊢
      cases h3 : least g.nons.toNat (leftB g) with
      | some i => rw [h3] at h; exact absurd h (by show ¬ (10 : Nat) = 0; decide)
      | none => rfl
end
/-- What may be told. -/
theorem fault_cases (g : Gm) : (∃ i, faultOf g = (i, 8) ∧ i < g.nons.toNat ∧ deadB g i = true) ∨
    (∃ i, faultOf g = (i, 9) ∧ i < g.nons.toNat ∧ aloneB g i = true ∧ deadB g i = false) ∨
    (∃ i, faultOf g = (i, 10) ∧ i < g.nons.toNat ∧ leftB g i = true ∧ aloneB g i = false) ∨ (faultOf g = (0, 0) ∧ Sound g) := by
  cases h1 : least g.nons.toNat (deadB g) with
  | some i =>
    obtain ⟨hi, hx, _⟩ := least_some.1 h1
    exact .inl ⟨i, fault_dead h1, hi, hx⟩
  | none =>
    cases h2 : least g.nons.toNat (aloneB g) with
    | some i =>
      obtain ⟨hi, hx, _⟩ := least_some.1 h2
      exact .inr (.inl ⟨i, fault_alone h1 h2, hi, hx, least_none.1 h1 i hi⟩)
    | none =>
      cases h3 : least g.nons.toNat (leftB g) with
      | some i =>
        obtain ⟨hi, hx, _⟩ := least_some.1 h3
        exact .inr (.inr (.inl ⟨i, fault_left h1 h2 h3, hi, hx, least_none.1 h2 i hi⟩))
      | none => exact .inr (.inr (.inr ⟨fault_none h1 h2 h3, fun i hi => ⟨least_none.1 h1 i hi, least_none.1 h2 i hi, least_none.1 h3 i hi⟩⟩))
/-- Is all fine below j? -/
def goodB (g : Gm) (i : Nat) : Bool := !deadB g i && (!aloneB g i && !leftB g i)
def allGood (g : Gm) (j : Nat) : Bool := (List.range j).all (goodB g)
theorem allGood_zero (g : Gm) : allGood g 0 = true := rfl
theorem allGood_succ (g : Gm) (j : Nat) : allGood g (j + 1) = (allGood g j && goodB g j) := by
  unfold allGood
  rw [List.range_succ, List.all_append, List.all_cons, List.all_nil, Bool.and_true]
theorem sound_good {g : Gm} (h : Sound g) : allGood g g.nons.toNat = true := by
  unfold allGood
  rw [List.all_eq_true]
  intro i hi
  obtain ⟨h1, h2, h3⟩ := h i (List.mem_range.1 hi)
  unfold goodB
  rw [h1, h2, h3]; rfl
/-- Of each nonterminal of a sound grammar a word comes. -/
theorem Sound.lives {g : Gm} (hg : Ok g) (h : Sound g) {n : Nat} (hn : n < g.nons.toNat) : ∃ w, Cf.Cm g [⟨true, (n : Int)⟩] w := by
  have := (h n hn).1
  unfold deadB at this
  exact (Rk.some_iff hg n).1 (of_decide_eq_false this)
theorem left_is {g : Gm} (hg : Ok g) {n : Nat} : leftB g n = true ↔ Lf.LeftRec g.prods (Fi.nulls g) n := by
  unfold leftB
  rw [decide_eq_true_eq, Lf.told_iff hg]
end Go.Proofs.Ythhgjdnbeeadhaa.Sd
/- The three kinds of what may be wrong, in their order. Plain facts. -/
namespace Go.Proofs.Ythhgjdnbeeadhaa.Sd
open Gr (Gm Ok)

/-- Kind k, of a nonterminal. -/
def kind (g : Gm) (k : Nat) : Nat → Bool := if k = 0 then deadB g else if k = 1 then aloneB g else leftB g
/-- The kinds below k are nowhere. -/
def NoneTo (g : Gm) (k : Nat) : Prop := ∀ q, q < k → ∀ i, i < g.nons.toNat → kind g q i = false
theorem NoneTo.zero (g : Gm) : NoneTo g 0 := fun q hq => absurd hq (by omega)
theorem NoneTo.succ {g : Gm} {k : Nat} (h : NoneTo g k) (hk : ∀ i, i < g.nons.toNat → kind g k i = false) : NoneTo g (k + 1) := fun q hq i hi => by
  rcases Nat.lt_or_ge q k with h1 | h1
  · exact h q h1 i hi
  · obtain rfl : q = k := by omega
    exact hk i hi
theorem NoneTo.least {g : Gm} {k q : Nat} (h : NoneTo g k) (hq : q < k) : Sd.least g.nons.toNat (kind g q) = none := least_none.2 (h q hq)
/-- The first kind that is somewhere, and the least nonterminal. -/
theorem fault_kind {g : Gm} {k j : Nat} (hk : k < 3) (h : NoneTo g k) (hj : j < g.nons.toNat) (hy : kind g k j = true) (hb : ∀ q, q < j → kind g k q = false) : faultOf g = (j, 8 + k) := by
  have hl := least_at hj hy hb
  match k, hk with
  | 0, _ => exact fault_dead hl
  | 1, _ => exact fault_alone (h.least (q := 0) (by omega)) hl
  | 2, _ => exact fault_left (h.least (q := 0) (by omega)) (h.least (q := 1) (by omega)) hl
theorem fault_no {g : Gm} (h : NoneTo g 3) : faultOf g = (0, 0) := fault_none (h.least (q := 0) (by omega)) (h.least (q := 1) (by omega)) (h.least (q := 2) (by omega))
end Go.Proofs.Ythhgjdnbeeadhaa.Sd
