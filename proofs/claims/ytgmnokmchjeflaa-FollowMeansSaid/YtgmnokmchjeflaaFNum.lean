/- Sets of terminals as numbers: what symbols begin with, how sets are put together over and over. Plain facts; no program is named here. -/
import Derived.Test.YtgmnokmchjeflaaFMath
namespace Go.Proofs.Ytgmnokmchjeflaa.Fi
open Gr (Sy Pr Gm okSy okPr Ok)

/-- The number of bools, the first one the lowest. -/
def numL : List Bool → Nat
  | [] => 0
  | b :: l => 2 * numL l + b.toNat
theorem numL_cons (b : Bool) (l : List Bool) : numL (b :: l) = 2 * numL l + b.toNat := rfl
theorem numL_half (b : Bool) (l : List Bool) : numL (b :: l) / 2 = numL l := by
  rw [numL_cons]
  cases b
  · show (2 * numL l + 0) / 2 = _; omega
  · show (2 * numL l + 1) / 2 = _; omega
theorem numL_bit : ∀ (l : List Bool) (t : Nat), (numL l).testBit t = l.getD t false
  | [], t => by unfold numL; rw [Nat.zero_testBit]; rfl
  | b :: l, 0 => by
    rw [Nat.testBit_zero, numL_cons]
    cases b
    · show decide ((2 * numL l + 0) % 2 = 1) = false; exact decide_eq_false (by omega)
    · show decide ((2 * numL l + 1) % 2 = 1) = true; exact decide_eq_true (by omega)
  | b :: l, t + 1 => by
    rw [Nat.testBit_succ, numL_half, numL_bit l t]; rfl
theorem numL_lt : ∀ l : List Bool, numL l < 2 ^ l.length
  | [] => by decide
  | b :: l => by
    have ih := numL_lt l
    rw [numL_cons, List.length_cons, Nat.pow_succ]
    cases b
    · show 2 * numL l + 0 < _; omega
    · show 2 * numL l + 1 < _; omega

/-- A table of numbers: is this terminal in that nonterminal's? -/
def tb (F : List Nat) : Tb := fun n t => (F.getD n 0).testBit t
/-- Of symbols, as a number. -/
def ofN (F : List Nat) (nl : Nat → Bool) : List Sy → Nat
  | [] => 0
  | s :: l => if s.non then F.getD s.n.toNat 0 ||| (if nl s.n.toNat then ofN F nl l else 0) else 2 ^ s.n.toNat
theorem ofN_cons (F : List Nat) (nl : Nat → Bool) (s : Sy) (l : List Sy) : ofN F nl (s :: l) = if s.non then F.getD s.n.toNat 0 ||| (if nl s.n.toNat then ofN F nl l else 0) else 2 ^ s.n.toNat := rfl
theorem ofN_bit {F : List Nat} {nl : Nat → Bool} (t : Nat) : ∀ {l : List Sy}, (∀ s ∈ l, 0 ≤ s.n) → (ofN F nl l).testBit t = of (tb F) nl l t
  | [], _ => by unfold ofN of; exact Nat.zero_testBit _
  | s :: l, h => by
    have ih := ofN_bit (F := F) (nl := nl) t (l := l) (fun x hx => h x (List.mem_cons_of_mem _ hx))
    have h0 := h s (List.mem_cons_self ..)
    rw [ofN_cons, of_cons]
    cases e : s.non with
    | true =>
      rw [if_pos rfl, if_pos rfl, Nat.testBit_or]
      cases nl s.n.toNat with
      | true => rw [if_pos rfl, ih]; rfl
      | false => rw [if_neg (by decide), Nat.zero_testBit]; rfl
    | false =>
      rw [if_neg (by decide), if_neg (by decide), Nat.testBit_two_pow]
      apply decide_eq_decide.2
      omega
theorem ofN_lt {F : List Nat} {nl : Nat → Bool} (hF : ∀ n, F.getD n 0 < 4294967296) : ∀ {l : List Sy}, (∀ s ∈ l, s.non = false → s.n < 16) → ofN F nl l < 4294967296
  | [], _ => by unfold ofN; decide
  | s :: l, h => by
    have ih := ofN_lt (nl := nl) hF (l := l) (fun x hx => h x (List.mem_cons_of_mem _ hx))
    rw [ofN_cons]
    cases e : s.non with
    | true =>
      rw [if_pos rfl]
      have h1 := hF s.n.toNat
      refine Nat.or_lt_two_pow (n := 32) h1 ?_
      split
      · exact ih
      · decide
    | false =>
      rw [if_neg (by decide)]
      have := h s (List.mem_cons_self ..) e
      exact Nat.lt_of_le_of_lt (Nat.pow_le_pow_right (by decide) (show s.n.toNat ≤ 16 by omega)) (by decide)

/-- What symbols of a grammar are. -/
def SyOk (N : Nat) (l : List Sy) : Prop := ∀ x ∈ l, 0 ≤ x.n ∧ (x.non = true → x.n < (N : Int)) ∧ (x.non = false → x.n < 16)
theorem syOk_prod {g : Gm} (hg : Ok g) {p : Pr} (hp : p ∈ g.prods) : SyOk g.nons.toNat p.right := by
  intro x hx
  obtain ⟨_, h1, h2⟩ := ok_nums hg hp
  have h3 := (hg.2.2.2.2.2.2.2 p hp).2.2.2 x hx
  have h4 : g.terms ≤ 16 := hg.2.1
  have h5 : (1 : Int) ≤ g.nons := hg.2.2.1
  refine ⟨h3.1, fun e => ?_, fun e => ?_⟩
  · have := h3.2.1 e; omega
  · have := (h2 x hx e).2; omega

/-- Numbers on their way to the least sets. -/
structure Under (g : Gm) (nl : Nat → Bool) (F : List Nat) : Prop where
  len_ : F.length = g.nons.toNat
  lt : ∀ n, F.getD n 0 < 4294967296
  under : ∀ t x, Shut (fSteps g.prods nl t) x → ∀ n, n < g.nons.toNat → tb F n t = true → x n = true
theorem getD_zero {F : List Nat} (n : Nat) (h : ∀ x ∈ F, x = 0) : F.getD n 0 = 0 := by
  rw [List.getD_eq_getElem?_getD]
  rcases Nat.lt_or_ge n F.length with hn | hn
  · rw [List.getElem?_eq_getElem hn]; exact h _ (List.getElem_mem hn)
  · rw [List.getElem?_eq_none hn]; rfl
theorem Under.zeros (g : Gm) (nl : Nat → Bool) : Under g nl (List.replicate g.nons.toNat 0) := by
  have hz : ∀ n, (List.replicate g.nons.toNat 0).getD n 0 = 0 := fun n => getD_zero n fun x hx => (List.mem_replicate.1 hx).2
  refine ⟨List.length_replicate .., fun n => by rw [hz]; decide, fun t x _ n _ h => ?_⟩
  unfold tb at h
  rw [hz, Nat.zero_testBit] at h; cases h
theorem getD_set {F : List Nat} {m n v : Nat} (hm : m < F.length) : (F.set m v).getD n 0 = if m = n then v else F.getD n 0 := by
  rw [List.getD_eq_getElem?_getD, List.getD_eq_getElem?_getD, List.getElem?_set]
  by_cases e : m = n
  · rw [if_pos e, if_pos hm, if_pos e]; rfl
  · rw [if_neg e, if_neg e]
section
variable {g : Gm} {nl : Nat → Bool} {F : List Nat}
theorem Under.put (hg : Ok g) (h : Under g nl F) {p : Pr} (hp : p ∈ g.prods) : Under g nl (F.set p.left.toNat (F.getD p.left.toNat 0 ||| ofN F nl p.right)) := by
  have hm : p.left.toNat < F.length := by rw [h.len_]; exact (ok_nums hg hp).1
  have hs := syOk_prod hg hp
  have hb : ofN F nl p.right < 4294967296 := ofN_lt h.lt fun s hx e => (hs s hx).2.2 e
  refine ⟨by rw [List.length_set]; exact h.len_, fun n => ?_, fun t x hx n hn ht => ?_⟩
  · rw [getD_set hm]
    split
    · exact Nat.or_lt_two_pow (n := 32) (h.lt _) hb
    · exact h.lt n
  · unfold tb at ht
    rw [getD_set hm] at ht
    split at ht
    · rename_i e
      rw [Nat.testBit_or, Bool.or_eq_true] at ht
      rcases ht with ht | ht
      · rw [e] at ht; exact h.under t x hx n hn ht
      · rw [ofN_bit t (fun s hx => (hs s hx).1)] at ht
        have := hx (p.left.toNat, fun c => of (fun n _ => c n) nl p.right t) (by unfold fSteps; exact List.mem_map.mpr ⟨p, hp, rfl⟩)
        rw [← e]
        apply this
        show of (fun n _ => x n) nl p.right t = true
        exact of_mono (F := tb F) (G := fun n _ => x n) (t := t) (N := g.nons.toNat) (fun n hn hb => h.under t x hx n hn hb) (ok_nums hg hp).2.1 ht
    · exact h.under t x hx n hn ht
/-- Of the first k productions nothing is to be put in. -/
def ShutTo (g : Gm) (nl : Nat → Bool) (F : List Nat) (k : Nat) : Prop := ∀ i, i < k → ∀ p, g.prods[i]? = some p → F.getD p.left.toNat 0 ||| ofN F nl p.right = F.getD p.left.toNat 0
theorem shutTo_zero : ShutTo g nl F 0 := fun i hi => absurd hi (by omega)
theorem shutTo_succ {k : Nat} (h : ShutTo g nl F k) {p : Pr} (hp : g.prods[k]? = some p) (he : F.getD p.left.toNat 0 ||| ofN F nl p.right = F.getD p.left.toNat 0) : ShutTo g nl F (k + 1) := by
  intro i hi q hq
  by_cases e : i = k
  · subst e; rw [hp] at hq; injection hq with hq; subst hq; exact he
  · exact h i (by omega) q hq
theorem Under.least (hg : Ok g) (h : Under g nl F) (hs : ShutTo g nl F g.prods.length) : First g nl (tb F) := by
  intro t
  refine ⟨?_, fun n _ e => (by cases e), fun x hx _ n hn hb => h.under t x hx n hn hb⟩
  intro s hs2 hv
  unfold fSteps at hs2
  rw [List.mem_map] at hs2
  obtain ⟨p, hp, rfl⟩ := hs2
  obtain ⟨i, hi, rfl⟩ := List.getElem_of_mem hp
  have he := hs i hi _ (List.getElem?_eq_getElem hi)
  have hv : of (fun n _ => tb F n t) nl g.prods[i].right t = true := hv
  rw [of_col, ← ofN_bit t (fun s hx => ((syOk_prod hg hp) s hx).1)] at hv
  show (F.getD g.prods[i].left.toNat 0).testBit t = true
  rw [← he, Nat.testBit_or, hv, Bool.or_true]
end

/-- The sets of a grammar, as bools, and as numbers. -/
def colR (g : Gm) (t : Nat) : Nat → Bool := over (fSteps g.prods (nulls g) t) (fun _ => false) (g.nons.toNat + 1)
def setR (g : Gm) (n : Nat) : List Bool := (List.range 32).map fun t => colR g t n
def numR (g : Gm) : List Nat := (List.range g.nons.toNat).map fun n => numL (setR g n)
theorem setR_len (g : Gm) (n : Nat) : (setR g n).length = 32 := by simp [setR]
theorem numR_len (g : Gm) : (numR g).length = g.nons.toNat := by simp [numR]
theorem numR_at (g : Gm) {n : Nat} (h : n < g.nons.toNat) : (numR g).getD n 0 = numL (setR g n) := by
  unfold numR
  rw [List.getD_eq_getElem?_getD, List.getElem?_map, List.getElem?_range h]; rfl
theorem numR_lt (g : Gm) (n : Nat) : (numR g).getD n 0 < 4294967296 := by
  rcases Nat.lt_or_ge n g.nons.toNat with h | h
  · rw [numR_at g h]; have := numL_lt (setR g n); rw [setR_len] at this; exact this
  · rw [List.getD_eq_getElem?_getD, List.getElem?_eq_none (by rw [numR_len]; exact h)]; decide
theorem setR_bit (g : Gm) (n t : Nat) : (setR g n).getD t false = (decide (t < 32) && colR g t n) := by
  unfold setR
  rw [List.getD_eq_getElem?_getD, List.getElem?_map]
  rcases Nat.lt_or_ge t 32 with h | h
  · rw [List.getElem?_range h, decide_eq_true h]; rfl
  · rw [List.getElem?_eq_none (by rw [List.length_range]; exact h), decide_eq_false (by omega)]; rfl
theorem tb_numR (g : Gm) {n : Nat} (h : n < g.nons.toNat) (t : Nat) : tb (numR g) n t = (decide (t < 32) && colR g t n) := by
  unfold tb
  rw [numR_at g h, numL_bit, setR_bit]
theorem colR_least {g : Gm} (hg : Ok g) (t : Nat) : Least g.nons.toNat (fSteps g.prods (nulls g) t) (fun _ => false) (colR g t) := least_over (fMono hg (nulls g) t) _ (by omega)
theorem first_colR {g : Gm} (hg : Ok g) : First g (nulls g) (fun n t => colR g t n) := fun t => colR_least hg t
theorem colR_term {g : Gm} (hg : Ok g) {n t : Nat} (hn : n < g.nons.toNat) (h : colR g t n = true) : (t : Int) < g.terms := first_term hg (first_colR hg) hn h
theorem tb_numR' {g : Gm} (hg : Ok g) {n : Nat} (h : n < g.nons.toNat) (t : Nat) : tb (numR g) n t = colR g t n := by
  rw [tb_numR g h]
  cases e : colR g t n with
  | false => simp
  | true =>
    have h1 := colR_term hg h e
    have h2 : g.terms ≤ 16 := hg.2.1
    rw [decide_eq_true (by omega)]; rfl
theorem first_numR {g : Gm} (hg : Ok g) : First g (nulls g) (tb (numR g)) := by
  intro t
  obtain ⟨h1, h2, h3⟩ := colR_least hg t
  refine ⟨shut_same (fMono hg (nulls g) t) (fun n hn => (tb_numR' hg hn t).symm) h1, fun n _ e => (by cases e), fun x hx hc n hn hb => ?_⟩
  have hb : tb (numR g) n t = true := hb
  rw [tb_numR' hg hn t] at hb
  exact h3 x hx hc n hn hb
/-- What is put together till nothing is new are just these. -/
theorem Under.done {g : Gm} {F : List Nat} (hg : Ok g) (h : Under g (nulls g) F) (hs : ShutTo g (nulls g) F g.prods.length) : F = numR g := by
  apply List.ext_getElem?
  intro n
  rcases Nat.lt_or_ge n g.nons.toNat with hn | hn
  · have h1 : n < F.length := by rw [h.len_]; exact hn
    have h2 : n < (numR g).length := by rw [numR_len]; exact hn
    rw [List.getElem?_eq_getElem h1, List.getElem?_eq_getElem h2]
    congr 1
    have e1 : F[n] = F.getD n 0 := by rw [List.getD_eq_getElem?_getD, List.getElem?_eq_getElem h1]; rfl
    have e2 : (numR g)[n] = (numR g).getD n 0 := by rw [List.getD_eq_getElem?_getD, List.getElem?_eq_getElem h2]; rfl
    rw [e1, e2]
    apply Nat.eq_of_testBit_eq
    intro t
    exact first_same (h.least hg hs) (first_numR hg) hn t
  · rw [List.getElem?_eq_none (by rw [h.len_]; exact hn), List.getElem?_eq_none (by rw [numR_len]; exact hn)]

/-- How many places are filled. -/
def fullN (N : Nat) (F : List Nat) : Nat := Rk.cnt (N * 32) fun i => (F.getD (i / 32) 0).testBit (i % 32)
theorem fullN_le (N : Nat) (F : List Nat) : fullN N F ≤ N * 32 := Rk.cnt_le _ _
theorem fullN_lt {N : Nat} {F : List Nat} {m v : Nat} (hl : F.length = N) (hm : m < N) (hF : F.getD m 0 < 4294967296) (hv : v < 4294967296) (hne : F.getD m 0 ||| v ≠ F.getD m 0) : fullN N F < fullN N (F.set m (F.getD m 0 ||| v)) := by
  obtain ⟨t, ht⟩ : ∃ t, (F.getD m 0 ||| v).testBit t ≠ (F.getD m 0).testBit t := by
    apply Classical.byContradiction
    intro h
    exact hne (Nat.eq_of_testBit_eq fun t => Classical.byContradiction fun h2 => h ⟨t, h2⟩)
  have e0 : (F.getD m 0).testBit t = false := by
    rw [Nat.testBit_or] at ht
    cases e : (F.getD m 0).testBit t with
    | false => rfl
    | true => rw [e] at ht; exact absurd rfl ht
  have e1 : (F.getD m 0 ||| v).testBit t = true := by
    rw [e0] at ht
    cases e : (F.getD m 0 ||| v).testBit t with
    | true => rfl
    | false => rw [e] at ht; exact absurd rfl ht
  have ht32 : t < 32 := by
    rcases Nat.lt_or_ge t 32 with h | h
    · exact h
    · have hlt : F.getD m 0 ||| v < 2 ^ 32 := Nat.or_lt_two_pow (n := 32) hF hv
      rw [Nat.testBit_lt_two_pow (Nat.lt_of_lt_of_le hlt (Nat.pow_le_pow_right (by decide) h))] at e1
      cases e1
  have hm' : m < F.length := by omega
  unfold fullN
  have d1 : (m * 32 + t) / 32 = m := by omega
  have d2 : (m * 32 + t) % 32 = t := by omega
  refine Rk.cnt_lt _ (fun i _ hi => ?_) (m * 32 + t) (by omega) (by rw [d1, d2]; exact e0) (by rw [d1, d2, getD_set hm', if_pos rfl]; exact e1)
  rw [getD_set hm']
  split
  · rename_i e; rw [Nat.testBit_or, e, hi]; rfl
  · exact hi
end Go.Proofs.Ytgmnokmchjeflaa.Fi
