/- Plain facts on rounds in place: production by production, from the front (into what there is), and from behind (into a copy). No program is named here. -/
import Derived.Test.YtmdepbgcgkifpaaMathA
namespace Go.Proofs.Ytmdepbgcgkifpaa.Rk
open Gr (Sy Pr Gm okSy okPr Ok)

section
variable (terms : Bool) (ps : List Pr) (l : Fs) (r : Nat)

theorem round_at (pk : Pick) (n : Nat) : (round pk l r)[n]? = (l[n]?).map (next pk l r n) := by unfold round; rw [List.getElem?_mapIdx]
/-- The round, as far as the first k productions go. -/
def roundTo (k : Nat) : Fs := round (pick terms (ps.take k)) l r
theorem roundTo_length (k : Nat) : (roundTo terms ps l r k).length = l.length := round_length ..
theorem roundTo_zero : roundTo terms ps l r 0 = l := by
  apply List.ext_getElem?
  intro n
  unfold roundTo
  rw [round_at]
  cases l[n]? with
  | none => rfl
  | some f => rw [Option.map_some, next_none (by unfold pick; rfl)]
theorem roundTo_all {k : Nat} (h : ps.length ≤ k) : roundTo terms ps l r k = round (pick terms ps) l r := by
  unfold roundTo; rw [List.take_of_length_le h]
theorem roundTo_rk (k n : Nat) : rk (roundTo terms ps l r k) n = rk l n ∨ (rk l n = 0 ∧ rk (roundTo terms ps l r k) n = r) := by
  unfold rk roundTo
  rw [List.getD_eq_getElem?_getD, List.getD_eq_getElem?_getD, round_at]
  cases h : l[n]? with
  | none => exact .inl rfl
  | some f =>
    simp only [Option.map_some, Option.getD_some]
    unfold next
    by_cases h1 : f.1 ≠ 0
    · rw [if_pos h1]; exact .inl rfl
    · rw [if_neg h1]
      split
      · exact .inr ⟨by omega, rfl⟩
      · exact .inl rfl
theorem below_to (h : ∀ n, rk l n < r) (k : Nat) (p : Pr) : below terms (roundTo terms ps l r k) r p = below terms l r p := by
  unfold below
  congr 1
  funext s
  unfold okS
  split
  · congr 1
    apply propext
    have h1 := h s.n.toNat
    rcases roundTo_rk terms ps l r k s.n.toNat with e | ⟨e1, e2⟩
    · rw [e]
    · rw [e1, e2]
      constructor
      · rintro ⟨_, h⟩; omega
      · rintro ⟨h, _⟩; exact absurd rfl h
  · rfl
theorem pick_succ {k : Nat} (hk : k < ps.length) (n : Nat) : pick terms (ps.take (k + 1)) l r n =
    (pick terms (ps.take k) l r n).or (if decide (ps[k].left = (n : Int)) && below terms l r ps[k] then some k else none) := by
  unfold pick
  rw [List.take_succ_eq_append_getElem hk, List.findIdx?_append]
  congr 1
  rw [List.findIdx?_cons]
  split
  · simp [Nat.min_eq_left (Nat.le_of_lt hk)]
  · simp
theorem next_same {pk pk' : Pick} {n : Nat} {f : Nat × Nat} (h : f.1 ≠ 0 ∨ pk l r n = pk' l r n) : next pk l r n f = next pk' l r n f := by
  unfold next
  by_cases h1 : f.1 ≠ 0
  · rw [if_pos h1, if_pos h1]
  · rw [if_neg h1, if_neg h1]
    rcases h with h | h
    · exact absurd h h1
    · rw [h]
theorem roundTo_skip (h : ∀ n, rk l n < r) {k n : Nat} (hk : k < ps.length) (hl : ps[k].left = (n : Int)) (hs : rk (roundTo terms ps l r k) n ≠ 0 ∨ below terms (roundTo terms ps l r k) r ps[k] = false) :
    roundTo terms ps l r (k + 1) = roundTo terms ps l r k := by
  rw [below_to terms ps l r h] at hs
  apply List.ext_getElem?
  intro m
  have e : (roundTo terms ps l r k)[m]? = (l[m]?).map (next (pick terms (ps.take k)) l r m) := round_at ..
  have e' : (roundTo terms ps l r (k + 1))[m]? = (l[m]?).map (next (pick terms (ps.take (k + 1))) l r m) := round_at ..
  rw [e, e']
  cases hm : l[m]? with
  | none => rfl
  | some f =>
    simp only [Option.map_some]
    congr 1
    apply next_same
    by_cases h1 : f.1 ≠ 0
    · exact .inl h1
    · right
      rw [pick_succ terms ps l r hk]
      split
      · rename_i hc
        rw [Bool.and_eq_true, decide_eq_true_eq] at hc
        have hmn : m = n := by have := hc.1; omega
        subst hmn
        rcases hs with hs | hs
        · cases ep : pick terms (ps.take k) l r m with
          | some i => rfl
          | none =>
            exfalso
            apply hs
            unfold rk
            rw [List.getD_eq_getElem?_getD, e, hm, Option.map_some, next_none ep, Option.getD_some]
            omega
        · rw [hs] at hc; exact absurd hc.2 (by decide)
      · cases pick terms (ps.take k) l r m <;> rfl
theorem roundTo_put (h : ∀ n, rk l n < r) {k n : Nat} (hk : k < ps.length) (hl : ps[k].left = (n : Int)) (h0 : rk (roundTo terms ps l r k) n = 0) (hb : below terms (roundTo terms ps l r k) r ps[k] = true) (hn : n < l.length) :
    roundTo terms ps l r (k + 1) = (roundTo terms ps l r k).set n (r, k) := by
  have hr := h n
  rw [below_to terms ps l r h] at hb
  apply List.ext_getElem?
  intro m
  have e : ∀ m, (roundTo terms ps l r k)[m]? = (l[m]?).map (next (pick terms (ps.take k)) l r m) := fun m => round_at ..
  have e' : (roundTo terms ps l r (k + 1))[m]? = (l[m]?).map (next (pick terms (ps.take (k + 1))) l r m) := round_at ..
  rw [List.getElem?_set, e, e', roundTo_length]
  by_cases hmn : n = m
  · subst hmn
    rw [if_pos rfl, if_pos hn, List.getElem?_eq_getElem hn, Option.map_some]
    congr 1
    have h1 : l[n].1 = 0 := by
      rcases roundTo_rk terms ps l r k n with e2 | ⟨e2, _⟩
      · rw [h0] at e2
        unfold rk at e2
        rw [List.getD_eq_getElem?_getD, List.getElem?_eq_getElem hn, Option.getD_some] at e2
        exact e2.symm
      · unfold rk at e2
        rw [List.getD_eq_getElem?_getD, List.getElem?_eq_getElem hn, Option.getD_some] at e2
        exact e2
    apply next_some h1
    rw [pick_succ terms ps l r hk, if_pos (by rw [decide_eq_true hl, hb]; rfl)]
    cases ep : pick terms (ps.take k) l r n with
    | none => rfl
    | some i =>
      exfalso
      unfold rk at h0
      rw [List.getD_eq_getElem?_getD, e, List.getElem?_eq_getElem hn, Option.map_some, Option.getD_some, next_some h1 ep] at h0
      have h0 : r = 0 := h0
      omega
  · rw [if_neg hmn]
    cases hm : l[m]? with
    | none => rfl
    | some f =>
      simp only [Option.map_some]
      congr 1
      apply next_same
      right
      rw [pick_succ terms ps l r hk, if_neg (by rw [Bool.and_eq_true, decide_eq_true_eq]; rintro ⟨h1, _⟩; apply hmn; omega)]
      cases pick terms (ps.take k) l r m <;> rfl
/-- A fact that was put in is one that was not there. -/
theorem put_ne {m : Fs} {n k : Nat} (h0 : rk m n = 0) (hr : 0 < r) (hn : n < m.length) : m.set n (r, k) ≠ m := by
  intro e
  have : rk (m.set n (r, k)) n = r := by unfold rk; rw [List.getD_eq_getElem?_getD, List.getElem?_set, if_pos rfl, if_pos hn]; rfl
  rw [e] at this
  omega
/-- From behind: the first of those from i on. -/
def pickFrom (i : Nat) : Pick := fun l r n => (pick terms (ps.drop i) l r n).map (· + i)
theorem pickFrom_zero : pickFrom terms ps 0 = pick terms ps := by
  funext l r n
  unfold pickFrom
  rw [List.drop_zero]
  cases pick terms ps l r n <;> rfl
theorem pickFrom_all {i : Nat} (h : ps.length ≤ i) (n : Nat) : pickFrom terms ps i l r n = none := by
  unfold pickFrom pick
  rw [List.drop_of_length_le h]
  rfl
theorem pickFrom_succ {i : Nat} (hi : i < ps.length) (n : Nat) : pickFrom terms ps i l r n = if decide (ps[i].left = (n : Int)) && below terms l r ps[i] then some i else pickFrom terms ps (i + 1) l r n := by
  unfold pickFrom pick
  rw [List.drop_eq_getElem_cons hi, List.findIdx?_cons]
  split
  · simp
  · rw [Option.map_map]
    congr 1
    funext j
    simp [Nat.add_comm, Nat.add_left_comm]
/-- The copy, where the loops stand at nonterminal n, with the productions from i on behind. -/
def copyAt (n i : Nat) : Fs := l.mapIdx fun m f => if m < n then next (pick terms ps) l r m f else if m = n then next (pickFrom terms ps i) l r m f else f
theorem copyAt_length (n i : Nat) : (copyAt terms ps l r n i).length = l.length := List.length_mapIdx ..
theorem copyAt_get (n i m : Nat) : (copyAt terms ps l r n i)[m]? = (l[m]?).map fun f => if m < n then next (pick terms ps) l r m f else if m = n then next (pickFrom terms ps i) l r m f else f := by
  unfold copyAt; rw [List.getElem?_mapIdx]
theorem copyAt_start : copyAt terms ps l r 0 ps.length = l := by
  apply List.ext_getElem?
  intro m
  rw [copyAt_get]
  cases l[m]? with
  | none => rfl
  | some f =>
    simp only [Option.map_some]
    rw [if_neg (by omega)]
    split
    · rw [next_none (pickFrom_all terms ps l r (Nat.le_refl _) _)]
    · rfl
theorem copyAt_turn (n : Nat) : copyAt terms ps l r n 0 = copyAt terms ps l r (n + 1) ps.length := by
  apply List.ext_getElem?
  intro m
  rw [copyAt_get, copyAt_get]
  cases l[m]? with
  | none => rfl
  | some f =>
    simp only [Option.map_some]
    congr 1
    rw [pickFrom_zero]
    by_cases h1 : m < n
    · rw [if_pos h1, if_pos (by omega)]
    · rw [if_neg h1]
      by_cases h2 : m = n
      · rw [if_pos h2, if_pos (by omega)]
      · rw [if_neg h2, if_neg (by omega)]
        split
        · rw [next_none (pickFrom_all terms ps l r (Nat.le_refl _) _)]
        · rfl
theorem copyAt_end {n : Nat} (h : l.length ≤ n) (i : Nat) : copyAt terms ps l r n i = round (pick terms ps) l r := by
  apply List.ext_getElem?
  intro m
  rw [copyAt_get, round_at]
  cases hm : l[m]? with
  | none => rfl
  | some f =>
    have : m < l.length := by
      rcases Nat.lt_or_ge m l.length with h | h
      · exact h
      · rw [List.getElem?_eq_none h] at hm; cases hm
    simp only [Option.map_some]
    rw [if_pos (by omega)]
theorem copyAt_skip {n i : Nat} (hi : i < ps.length) (h : rk l n ≠ 0 ∨ ps[i].left ≠ (n : Int) ∨ below terms l r ps[i] = false) : copyAt terms ps l r n i = copyAt terms ps l r n (i + 1) := by
  apply List.ext_getElem?
  intro m
  rw [copyAt_get, copyAt_get]
  cases hm : l[m]? with
  | none => rfl
  | some f =>
    simp only [Option.map_some]
    congr 1
    split
    · rfl
    · split
      · rename_i e
        subst e
        apply next_same
        rcases h with h | h | h
        · left
          unfold rk at h
          rw [List.getD_eq_getElem?_getD, hm, Option.getD_some] at h
          exact h
        · right; rw [pickFrom_succ terms ps l r hi, if_neg (by rw [decide_eq_false h]; simp)]
        · right; rw [pickFrom_succ terms ps l r hi, if_neg (by rw [h]; simp)]
      · rfl
theorem copyAt_put {n i : Nat} (hi : i < ps.length) (h0 : rk l n = 0) (hl : ps[i].left = (n : Int)) (hb : below terms l r ps[i] = true) (hn : n < l.length) : copyAt terms ps l r n i = (copyAt terms ps l r n (i + 1)).set n (r, i) := by
  apply List.ext_getElem?
  intro m
  rw [List.getElem?_set, copyAt_get, copyAt_get, copyAt_length]
  by_cases hmn : n = m
  · subst hmn
    rw [if_pos rfl, if_pos hn, List.getElem?_eq_getElem hn, Option.map_some]
    rw [if_neg (by omega), if_pos rfl]
    congr 1
    apply next_some
    · unfold rk at h0
      rw [List.getD_eq_getElem?_getD, List.getElem?_eq_getElem hn, Option.getD_some] at h0
      exact h0
    · rw [pickFrom_succ terms ps l r hi, if_pos (by rw [decide_eq_true hl, hb]; rfl)]
  · rw [if_neg hmn]
    cases hm : l[m]? with
    | none => rfl
    | some f =>
      simp only [Option.map_some]
      congr 1
      split
      · rfl
      · rw [if_neg (fun e => hmn e.symm), if_neg (fun e => hmn e.symm)]
end

/-- Of the rounds: what the next one is, and that ranks in it are less than its own. -/
theorem rounds'_succ (terms : Bool) (ps : List Pr) (nons k : Nat) : rounds' terms ps nons (k + 1) = round (pick terms ps) (rounds' terms ps nons k) (k + 1) := by
  unfold rounds'
  rw [rounds_succ, Nat.zero_add]
theorem rounds'_lt (terms : Bool) (ps : List Pr) (nons k : Nat) : ∀ n, rk (rounds' terms ps nons k) n < k + 1 := by
  intro n
  have := rk_le (pick terms ps) (zeros nons) 0 (zeros_le nons) k n
  unfold rounds'
  omega
theorem rounds'_zero (terms : Bool) (ps : List Pr) (nons : Nat) : rounds' terms ps nons 0 = zeros nons := rfl
/-- A round that turns something is one of the first. -/
theorem turned_lt (terms : Bool) (ps : List Pr) (nons k : Nat) (h : rounds' terms ps nons (k + 1) ≠ rounds' terms ps nons k) : k < nons := by
  rcases Nat.lt_or_ge k nons with h1 | h1
  · exact h1
  · exact absurd (by rw [settled' terms ps nons (k + 1) (by omega), settled' terms ps nons k h1]) h
end Go.Proofs.Ytmdepbgcgkifpaa.Rk
