/- Plain facts on what is found round by round. No program is named here. -/
import Derived.Test.YtgmnokmchjeflaaHMath
namespace Go.Proofs.Ytgmnokmchjeflaa.Rk

/-- How many of the first numbers are so. -/
def cnt (N : Nat) (f : Nat → Bool) : Nat := (List.range N).countP f
theorem cnt_le (N : Nat) (f : Nat → Bool) : cnt N f ≤ N := by
  have := List.countP_le_length (p := f) (l := List.range N)
  rw [List.length_range] at this
  exact this
theorem cnt_succ (N : Nat) (f : Nat → Bool) : cnt (N + 1) f = cnt N f + (if f N = true then 1 else 0) := by
  unfold cnt
  rw [List.range_succ, List.countP_append]
  congr 1
  rw [List.countP_cons, List.countP_nil, Nat.zero_add]
theorem cnt_mono {f g : Nat → Bool} : ∀ N, (∀ n, n < N → f n = true → g n = true) → cnt N f ≤ cnt N g
  | 0, _ => Nat.le_refl _
  | N + 1, h => by
    rw [cnt_succ, cnt_succ]
    have := cnt_mono N (fun n hn => h n (by omega))
    by_cases e : f N = true
    · rw [if_pos e, if_pos (h N (by omega) e)]; omega
    · rw [if_neg e]; omega
theorem cnt_lt {f g : Nat → Bool} : ∀ N, (∀ n, n < N → f n = true → g n = true) → ∀ m, m < N → f m = false → g m = true → cnt N f < cnt N g
  | 0, _, m, hm, _, _ => absurd hm (by omega)
  | N + 1, h, m, hm, hf, hg => by
    rw [cnt_succ, cnt_succ]
    have h0 := cnt_mono N (fun n hn => h n (by omega))
    by_cases e : m = N
    · subst e
      rw [if_pos hg, if_neg (by rw [hf]; decide)]; omega
    · have := cnt_lt N (fun n hn => h n (by omega)) m (by omega) hf hg
      by_cases e : f N = true
      · rw [if_pos e, if_pos (h N (by omega) e)]; omega
      · rw [if_neg e]; omega
theorem cnt_pos {f : Nat → Bool} {N m : Nat} (hm : m < N) (h : f m = true) : 1 ≤ cnt N f := by
  have := cnt_lt (f := fun _ => false) (g := f) N (fun _ _ h => absurd h (by decide)) m hm rfl h
  omega

/-- What only grows, and stays once it has stayed, stays from round N - c on, if it is of N things, of which c are there at the beginning. -/
theorem settle (N c : Nat) (s : Nat → Nat → Bool) (h0 : c ≤ cnt N (s 0)) (mono : ∀ k n, n < N → s k n = true → s (k + 1) n = true)
    (stab : ∀ k, (∀ n, n < N → s (k + 1) n = s k n) → ∀ n, n < N → s (k + 2) n = s (k + 1) n) : ∀ k, N ≤ k + c → ∀ n, n < N → s (k + 1) n = s k n := by
  have grow : ∀ k, (∀ n, n < N → s (k + 1) n = s k n) ∨ cnt N (s k) < cnt N (s (k + 1)) := by
    intro k
    by_cases h : ∀ n, n < N → s (k + 1) n = s k n
    · exact .inl h
    · right
      obtain ⟨m, hm⟩ := Classical.not_forall.mp h
      obtain ⟨h1, h2⟩ := Classical.not_imp.mp hm
      cases e : s k m with
      | true => exact absurd (by rw [e]; exact mono k m h1 e) h2
      | false =>
        cases e2 : s (k + 1) m with
        | false => exact absurd (by rw [e, e2]) h2
        | true => exact cnt_lt N (mono k) m h1 e e2
  have stay : ∀ j, (∀ n, n < N → s (j + 1) n = s j n) → ∀ i, ∀ n, n < N → s (j + i + 1) n = s (j + i) n := by
    intro j hj i
    induction i with
    | zero => exact hj
    | succ i ih => exact stab (j + i) ih
  have early : ∀ k, (∃ j, j ≤ k ∧ ∀ n, n < N → s (j + 1) n = s j n) ∨ k + 1 + c ≤ cnt N (s (k + 1)) := by
    intro k
    induction k with
    | zero =>
      rcases grow 0 with h | h
      · exact .inl ⟨0, Nat.le_refl _, h⟩
      · right; show 0 + 1 + c ≤ cnt N (s 1); have h : cnt N (s 0) < cnt N (s 1) := h; omega
    | succ k ih =>
      rcases ih with ⟨j, hj, h⟩ | ih
      · exact .inl ⟨j, by omega, h⟩
      · rcases grow (k + 1) with h | h
        · exact .inl ⟨k + 1, Nat.le_refl _, h⟩
        · right; have h : cnt N (s (k + 1)) < cnt N (s (k + 1 + 1)) := h; omega
  intro k hk n hn
  rcases early k with ⟨j, hj, h⟩ | h
  · have := stay j h (k - j) n hn
    rwa [show j + (k - j) = k by omega] at this
  · have := cnt_le N (s (k + 1)); omega

/-- Facts: of each nonterminal a rank, and a production. -/
abbrev Fs := List (Nat × Nat)
def rk (l : Fs) (n : Nat) : Nat := (l.getD n (0, 0)).1
theorem rk_out {l : Fs} {n : Nat} (h : l.length ≤ n) : rk l n = 0 := by
  unfold rk; rw [List.getD_eq_getElem?_getD, List.getElem?_eq_none h]; rfl
theorem rk_lt {l : Fs} {n : Nat} (h : rk l n ≠ 0) : n < l.length := by
  rcases Nat.lt_or_ge n l.length with h1 | h1
  · exact h1
  · exact absurd (rk_out h1) h
theorem ext_getD {a b : Fs} (hl : a.length = b.length) (h : ∀ n, n < a.length → a.getD n (0, 0) = b.getD n (0, 0)) : a = b := by
  apply List.ext_getElem hl
  intro n h1 h2
  have := h n h1
  rw [List.getD_eq_getElem?_getD, List.getD_eq_getElem?_getD, List.getElem?_eq_getElem h1, List.getElem?_eq_getElem h2] at this
  exact this

/-- What is picked for a nonterminal, by what there is, in a round. -/
abbrev Pick := Fs → Nat → Nat → Option Nat
def next (pk : Pick) (l : Fs) (r n : Nat) (f : Nat × Nat) : Nat × Nat :=
  if f.1 ≠ 0 then f else match pk l r n with
    | some i => (r, i)
    | none => f
def round (pk : Pick) (l : Fs) (r : Nat) : Fs := l.mapIdx (next pk l r)
/-- Round by round, from what there is in round b. -/
def rounds (pk : Pick) (base : Fs) (b : Nat) : Nat → Fs
  | 0 => base
  | k + 1 => round pk (rounds pk base b k) (b + k + 1)
theorem rounds_succ (pk : Pick) (base : Fs) (b k : Nat) : rounds pk base b (k + 1) = round pk (rounds pk base b k) (b + k + 1) := rfl
theorem round_length (pk : Pick) (l : Fs) (r : Nat) : (round pk l r).length = l.length := List.length_mapIdx ..
theorem rounds_length (pk : Pick) (base : Fs) (b : Nat) : ∀ k, (rounds pk base b k).length = base.length
  | 0 => rfl
  | k + 1 => by rw [rounds_succ, round_length]; exact rounds_length pk base b k
theorem getD_round (pk : Pick) (l : Fs) (r n : Nat) (hn : n < l.length) : (round pk l r).getD n (0, 0) = next pk l r n (l.getD n (0, 0)) := by
  unfold round
  rw [List.getD_eq_getElem?_getD, List.getD_eq_getElem?_getD, List.getElem?_mapIdx, List.getElem?_eq_getElem hn]
  rfl
theorem next_keep {pk : Pick} {l : Fs} {r n : Nat} {f : Nat × Nat} (h : f.1 ≠ 0) : next pk l r n f = f := by unfold next; rw [if_pos h]
theorem next_some {pk : Pick} {l : Fs} {r n i : Nat} {f : Nat × Nat} (h : f.1 = 0) (hp : pk l r n = some i) : next pk l r n f = (r, i) := by
  unfold next; rw [if_neg (by omega), hp]
theorem next_none {pk : Pick} {l : Fs} {r n : Nat} {f : Nat × Nat} (hp : pk l r n = none) : next pk l r n f = f := by
  unfold next; rw [hp]; split <;> rfl

section
variable (pk : Pick) (base : Fs) (b : Nat)

/-- What has a rank keeps it. -/
theorem keep_succ {k n : Nat} (h : rk (rounds pk base b k) n ≠ 0) : (rounds pk base b (k + 1)).getD n (0, 0) = (rounds pk base b k).getD n (0, 0) := by
  rw [rounds_succ, getD_round _ _ _ _ (rk_lt h)]
  exact next_keep h
theorem keep {k n : Nat} (h : rk (rounds pk base b k) n ≠ 0) : ∀ i, (rounds pk base b (k + i)).getD n (0, 0) = (rounds pk base b k).getD n (0, 0)
  | 0 => rfl
  | i + 1 => by
    have e := keep h i
    have h2 : rk (rounds pk base b (k + i)) n ≠ 0 := by unfold rk; rw [e]; exact h
    have := keep_succ pk base b h2
    rw [e] at this
    exact this
theorem keep_rk {k j n : Nat} (hkj : k ≤ j) (h : rk (rounds pk base b k) n ≠ 0) : rk (rounds pk base b j) n = rk (rounds pk base b k) n := by
  have := keep pk base b h (j - k)
  rw [show k + (j - k) = j by omega] at this
  unfold rk
  rw [this]
/-- Ranks are no more than the rounds. -/
theorem rk_le (hb : ∀ n, rk base n ≤ b) : ∀ k n, rk (rounds pk base b k) n ≤ b + k
  | 0, n => hb n
  | k + 1, n => by
    have ih := rk_le hb k n
    rcases Nat.lt_or_ge n (rounds pk base b k).length with h | h
    · unfold rk at ih ⊢
      rw [rounds_succ, getD_round _ _ _ _ h]
      by_cases h1 : ((rounds pk base b k).getD n (0, 0)).1 = 0
      · cases e : pk (rounds pk base b k) (b + k + 1) n with
        | some i => rw [next_some h1 e]; exact Nat.le_refl _
        | none => rw [next_none e]; omega
      · rw [next_keep h1]; omega
    · rw [rk_out (by rw [rounds_succ, round_length]; exact h)]; omega
/-- What gets its rank in a round gets that round's. -/
theorem new_rk {k n : Nat} (h0 : rk (rounds pk base b k) n = 0) (h1 : rk (rounds pk base b (k + 1)) n ≠ 0) :
    ∃ i, pk (rounds pk base b k) (b + k + 1) n = some i ∧ (rounds pk base b (k + 1)).getD n (0, 0) = (b + k + 1, i) := by
  have hn := rk_lt h1
  rw [rounds_length] at hn
  have e := getD_round pk (rounds pk base b k) (b + k + 1) n (by rw [rounds_length]; exact hn)
  cases ep : pk (rounds pk base b k) (b + k + 1) n with
  | some i => exact ⟨i, rfl, by rw [rounds_succ, e, next_some h0 ep]⟩
  | none =>
    rw [next_none ep] at e
    exact absurd (show rk (rounds pk base b (k + 1)) n = 0 by unfold rk; rw [rounds_succ, e]; exact h0) h1
/-- Who is picked has a rank behind it. -/
theorem got {k n i : Nat} (hn : n < base.length) (hp : pk (rounds pk base b k) (b + k + 1) n = some i) : rk (rounds pk base b (k + 1)) n ≠ 0 := by
  by_cases h0 : rk (rounds pk base b k) n = 0
  · have e := getD_round pk (rounds pk base b k) (b + k + 1) n (by rw [rounds_length]; exact hn)
    rw [next_some h0 hp] at e
    unfold rk
    rw [rounds_succ, e]
    simp
  · rw [keep_rk pk base b (Nat.le_succ k) h0]; exact h0
/-- A rank above b is found in its own round: not earlier, and it stays. -/
theorem early (hb : ∀ n, rk base n ≤ b) : ∀ k n j, rk (rounds pk base b k) n = b + j + 1 → (∀ i, i ≤ j → rk (rounds pk base b i) n = 0) ∧ ∀ i, j < i → (rounds pk base b i).getD n (0, 0) = (rounds pk base b k).getD n (0, 0)
  | 0, n, j, h => by have : rk base n = b + j + 1 := h; have := hb n; omega
  | k + 1, n, j, h => by
    by_cases h0 : rk (rounds pk base b k) n = 0
    · obtain ⟨i, _, e⟩ := new_rk pk base b h0 (by rw [h]; omega)
      have er : b + j + 1 = b + k + 1 := by rw [← h]; unfold rk; rw [e]
      obtain rfl : j = k := by omega
      constructor
      · intro i hi
        by_cases h3 : rk (rounds pk base b i) n = 0
        · exact h3
        · have := keep_rk pk base b (show i ≤ j by omega) h3
          rw [h0] at this; exact absurd this.symm h3
      · intro i hi
        have := keep pk base b (k := j + 1) (n := n) (by rw [h]; omega) (i - (j + 1))
        rw [show j + 1 + (i - (j + 1)) = i by omega] at this
        exact this
    · have e := keep_succ pk base b h0
      have h2 : rk (rounds pk base b k) n = b + j + 1 := by rw [← h]; unfold rk; rw [e]
      rw [e]
      exact early hb k n j h2
/-- All that has a rank up to that of a round is there in it. -/
theorem there (hb : ∀ n, rk base n ≤ b) : ∀ {k j n : Nat}, rk (rounds pk base b k) n ≠ 0 → rk (rounds pk base b k) n ≤ b + j → (rounds pk base b j).getD n (0, 0) = (rounds pk base b k).getD n (0, 0) := by
  intro k j n h0 hj
  rcases Nat.lt_or_ge b (rk (rounds pk base b k) n) with h | h
  · have := (early pk base b hb k n (rk (rounds pk base b k) n - b - 1) (by omega)).2 j (by omega)
    exact this
  · -- a rank of the base
    have key : ∀ k, rk (rounds pk base b k) n ≠ 0 → rk (rounds pk base b k) n ≤ b → rk base n ≠ 0 := by
      intro k
      induction k with
      | zero => intro h _; exact h
      | succ k ih =>
        intro h1 h2
        by_cases h3 : rk (rounds pk base b k) n = 0
        · obtain ⟨i, _, e⟩ := new_rk pk base b h3 h1
          unfold rk at h2
          rw [e] at h2
          have h2 : b + k + 1 ≤ b := h2
          omega
        · have e := keep_rk pk base b (Nat.le_succ k) h3
          exact ih h3 (by have e : rk (rounds pk base b (k + 1)) n = _ := e; omega)
    have hbase := key k h0 h
    have e1 := keep pk base b (k := 0) (n := n) hbase k
    have e2 := keep pk base b (k := 0) (n := n) hbase j
    rw [Nat.zero_add] at e1 e2
    rw [e1, e2]
/-- Once nobody gets a rank, nobody does any more. -/
theorem stable {k : Nat} (h : ∀ n, n < base.length → decide (rk (rounds pk base b (k + 1)) n ≠ 0) = decide (rk (rounds pk base b k) n ≠ 0)) : rounds pk base b (k + 1) = rounds pk base b k := by
  apply ext_getD (by rw [rounds_length, rounds_length])
  intro n h1
  rw [rounds_length] at h1
  have hn := h n h1
  by_cases h3 : rk (rounds pk base b k) n = 0
  · have h4 : rk (rounds pk base b (k + 1)) n = 0 := by
      by_cases h4 : rk (rounds pk base b (k + 1)) n = 0
      · exact h4
      · rw [decide_eq_true h4, decide_eq_false (by omega)] at hn; exact absurd hn (by decide)
    rw [rounds_succ, getD_round _ _ _ _ (by rw [rounds_length]; exact h1)]
    cases ep : pk (rounds pk base b k) (b + k + 1) n with
    | none => exact next_none ep
    | some i => exact absurd h4 (got pk base b h1 ep)
  · exact keep_succ pk base b h3
theorem none_of {k : Nat} (h : rounds pk base b (k + 1) = rounds pk base b k) {n : Nat} (hn : n < base.length) (h0 : rk (rounds pk base b k) n = 0) : pk (rounds pk base b k) (b + k + 1) n = none := by
  cases ep : pk (rounds pk base b k) (b + k + 1) n with
  | none => rfl
  | some i => exact absurd (by rw [h]; exact h0) (got pk base b hn ep)
theorem stable_on (hb : ∀ n, rk base n ≤ b) (hpk : ∀ l r r' n, (∀ m, rk l m < r) → r ≤ r' → pk l r n = none → pk l r' n = none)
    {k : Nat} (h : rounds pk base b (k + 1) = rounds pk base b k) : ∀ i, rounds pk base b (k + i) = rounds pk base b k
  | 0 => rfl
  | i + 1 => by
    have ih := stable_on hb hpk h i
    show round pk (rounds pk base b (k + i)) (b + (k + i) + 1) = _
    rw [ih]
    have hl := rounds_length pk base b k
    apply ext_getD (by rw [round_length])
    intro n hn
    rw [round_length, hl] at hn
    rw [getD_round pk _ _ _ (by rw [hl]; exact hn)]
    by_cases h4 : rk (rounds pk base b k) n = 0
    · apply next_none
      apply hpk _ (b + k + 1) _ _ _ (by omega) (none_of pk base b h hn h4)
      intro m
      have := rk_le pk base b hb k m
      omega
    · exact next_keep h4
/-- From as many rounds on as there are nonterminals without a rank nothing turns. -/
theorem settled (hb : ∀ n, rk base n ≤ b) (hpk : ∀ l r r' n, (∀ m, rk l m < r) → r ≤ r' → pk l r n = none → pk l r' n = none)
    {c : Nat} (hc : c ≤ cnt base.length (fun n => decide (rk base n ≠ 0))) : ∀ k, base.length ≤ k + c → rounds pk base b (k + 1) = rounds pk base b k := by
  intro k hk
  apply stable pk base b
  apply settle base.length c (fun k n => decide (rk (rounds pk base b k) n ≠ 0)) hc _ _ k hk
  · intro k n hn h
    have h := of_decide_eq_true h
    apply decide_eq_true
    rw [keep_rk pk base b (Nat.le_succ k) h]
    exact h
  · intro k h n hn
    have e1 := stable pk base b h
    have e2 := stable_on pk base b hb hpk e1 2
    show decide (rk (rounds pk base b (k + 2)) n ≠ 0) = decide (rk (rounds pk base b (k + 1)) n ≠ 0)
    rw [e2, e1]
theorem settled_on (hb : ∀ n, rk base n ≤ b) (hpk : ∀ l r r' n, (∀ m, rk l m < r) → r ≤ r' → pk l r n = none → pk l r' n = none)
    {c : Nat} (hc : c ≤ cnt base.length (fun n => decide (rk base n ≠ 0))) {j k : Nat} (hj : base.length ≤ j + c) (hk : j ≤ k) : rounds pk base b k = rounds pk base b j := by
  have := stable_on pk base b hb hpk (settled pk base b hb hpk hc j hj) (k - j)
  rwa [show j + (k - j) = k by omega] at this
/-- What has no rank has production 0. -/
theorem zero (hz : ∀ n, rk base n = 0 → base.getD n (0, 0) = (0, 0)) : ∀ k n, rk (rounds pk base b k) n = 0 → (rounds pk base b k).getD n (0, 0) = (0, 0)
  | 0, n, h => hz n h
  | k + 1, n, h => by
    have h0 : rk (rounds pk base b k) n = 0 := by
      by_cases h0 : rk (rounds pk base b k) n = 0
      · exact h0
      · rw [keep_rk pk base b (Nat.le_succ k) h0] at h; exact h
    have ih := zero hz k n h0
    rcases Nat.lt_or_ge n base.length with hn | hn
    · cases ep : pk (rounds pk base b k) (b + k + 1) n with
      | none =>
        rw [rounds_succ, getD_round pk _ _ n (by rw [rounds_length]; exact hn), next_none ep, ih]
      | some i => exact absurd h (got pk base b hn ep)
    · rw [List.getD_eq_getElem?_getD, List.getElem?_eq_none (by rw [rounds_length]; exact hn)]; rfl
end
end Go.Proofs.Ytgmnokmchjeflaa.Rk
