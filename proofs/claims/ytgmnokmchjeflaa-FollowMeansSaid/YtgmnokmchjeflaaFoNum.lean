/- What follows, as numbers: how the sets are put together over and over, place by place; what stands behind in rows of symbols. Plain facts; no program is named here. -/
import Derived.Test.YtgmnokmchjeflaaFNum
namespace Go.Proofs.Ytgmnokmchjeflaa.Fi
open Gr (Sy Pr Gm okSy okPr Ok)

/-- What a place puts in: what stands behind it, and all of the nonterminal's, if nothing need. -/
def behN (F W : List Nat) (nl : Nat → Bool) (left : Nat) (l : List Sy) : Nat := ofN F nl l ||| (if allNull nl l then W.getD left 0 else 0)
def beh (F : Tb) (nl : Nat → Bool) (W : Tb) (left : Nat) (l : List Sy) (t : Nat) : Bool := of F nl l t || (allNull nl l && W left t)
theorem behN_bit {F W : List Nat} {nl : Nat → Bool} {left : Nat} {l : List Sy} (t : Nat) (h : ∀ s ∈ l, 0 ≤ s.n) : (behN F W nl left l).testBit t = beh (tb F) nl (tb W) left l t := by
  unfold behN beh
  rw [Nat.testBit_or, ofN_bit t h]
  cases allNull nl l with
  | true => rw [if_pos rfl, Bool.true_and]; rfl
  | false => rw [if_neg (by decide), Nat.zero_testBit, Bool.false_and]
theorem behN_lt {F W : List Nat} {nl : Nat → Bool} {left : Nat} {l : List Sy} (hF : ∀ n, F.getD n 0 < 4294967296) (hW : ∀ n, W.getD n 0 < 4294967296) (h : ∀ s ∈ l, s.non = false → s.n < 16) : behN F W nl left l < 4294967296 := by
  unfold behN
  refine Nat.or_lt_two_pow (n := 32) (ofN_lt hF h) ?_
  split
  · exact hW left
  · decide

/-- The steps of the first k places. -/
def wPre (F : Tb) (nl : Nat → Bool) (t left : Nat) : List Sy → Nat → List St
  | _, 0 => []
  | [], _ + 1 => []
  | s :: l, k + 1 => (if s.non then [(s.n.toNat, fun c => of F nl l t || (allNull nl l && c left))] else []) ++ wPre F nl t left l k
theorem wPre_zero (F : Tb) (nl : Nat → Bool) (t left : Nat) (r : List Sy) : wPre F nl t left r 0 = [] := by cases r <;> rfl
theorem wPre_all (F : Tb) (nl : Nat → Bool) (t left : Nat) : ∀ {r : List Sy} {k : Nat}, r.length ≤ k → wPre F nl t left r k = wStepsOf F nl t left r
  | [], 0, _ => rfl
  | [], _ + 1, _ => rfl
  | s :: l, 0, h => by simp at h
  | s :: l, k + 1, h => by
    show (if s.non then _ else []) ++ wPre F nl t left l k = (if s.non then _ else []) ++ wStepsOf F nl t left l
    rw [wPre_all F nl t left (by simpa using h)]
theorem wPre_succ (F : Tb) (nl : Nat → Bool) (t left : Nat) : ∀ {r : List Sy} {k : Nat} {s : Sy}, r[k]? = some s →
    wPre F nl t left r (k + 1) = wPre F nl t left r k ++ (if s.non then [(s.n.toNat, fun c => of F nl (r.drop (k + 1)) t || (allNull nl (r.drop (k + 1)) && c left))] else [])
  | [], _, _, h => by simp at h
  | x :: l, 0, s, h => by
    have e : x = s := by simpa using h
    subst e
    show (if x.non then _ else []) ++ wPre F nl t left l 0 = [] ++ _
    rw [wPre_zero, List.append_nil, List.nil_append]
    rfl
  | x :: l, k + 1, s, h => by
    have ih := wPre_succ F nl t left (r := l) (k := k) (s := s) (by simpa using h)
    show (if x.non then _ else []) ++ wPre F nl t left l (k + 1) = ((if x.non then _ else []) ++ wPre F nl t left l k) ++ _
    rw [ih, List.append_assoc]
    rfl
/-- The table behind r rounds, i productions more, and k places more. -/
def wTab (g : Gm) (F : Tb) (nl : Nat → Bool) (r i k : Nat) : Tb := fun n t =>
  let p := g.prods.getD i ⟨0, []⟩
  run ((wSteps (g.prods.take i) F nl t) ++ wPre F nl t p.left.toNat p.right k) (over (wSteps g.prods F nl t) (wBase g.start.toNat t) r) n
theorem wSteps_succ (ps : List Pr) (F : Tb) (nl : Nat → Bool) (t : Nat) {i : Nat} {p : Pr} (h : ps[i]? = some p) : wSteps (ps.take (i + 1)) F nl t = wSteps (ps.take i) F nl t ++ wStepsOf F nl t p.left.toNat p.right := by
  obtain ⟨hi, rfl⟩ := List.getElem?_eq_some_iff.1 h
  unfold wSteps
  rw [List.take_succ_eq_append_getElem hi, List.flatMap_append]
  simp
section
variable {g : Gm} {F : Tb} {nl : Nat → Bool} {r i k : Nat} {p : Pr}
theorem wTab_zero (g : Gm) (F : Tb) (nl : Nat → Bool) (r : Nat) : wTab g F nl r 0 0 = fun n t => over (wSteps g.prods F nl t) (wBase g.start.toNat t) r n := by
  funext n t
  unfold wTab
  simp only [List.take_zero, wPre_zero, List.append_nil]
  rfl
theorem wTab_base (g : Gm) (F : Tb) (nl : Nat → Bool) : wTab g F nl 0 0 0 = fun n t => wBase g.start.toNat t n := by rw [wTab_zero]; rfl
/-- Behind all places of a production stands the next one. -/
theorem wTab_next (hp : g.prods[i]? = some p) (hk : p.right.length ≤ k) : wTab g F nl r i k = wTab g F nl r (i + 1) 0 := by
  funext n t
  unfold wTab
  have e : g.prods.getD i ⟨0, []⟩ = p := by rw [List.getD_eq_getElem?_getD, hp]; rfl
  simp only [e, wPre_zero, List.append_nil]
  rw [wPre_all F nl t _ hk, wSteps_succ g.prods F nl t hp]
theorem wTab_round (hi : g.prods.length ≤ i) : wTab g F nl r i 0 = wTab g F nl (r + 1) 0 0 := by
  rw [wTab_zero]
  funext n t
  unfold wTab
  simp only [wPre_zero, List.append_nil]
  rw [List.take_of_length_le hi]
  rfl
/-- A terminal puts nothing in. -/
theorem wTab_term (hp : g.prods[i]? = some p) {s : Sy} (hs : p.right[k]? = some s) (hn : s.non = false) : wTab g F nl r i (k + 1) = wTab g F nl r i k := by
  funext n t
  unfold wTab
  have e : g.prods.getD i ⟨0, []⟩ = p := by rw [List.getD_eq_getElem?_getD, hp]; rfl
  simp only [e]
  rw [wPre_succ F nl t _ hs, hn]
  simp
/-- A nonterminal puts in what is behind it. -/
theorem wTab_non (hp : g.prods[i]? = some p) {s : Sy} (hs : p.right[k]? = some s) (hn : s.non = true) (n t : Nat) :
    wTab g F nl r i (k + 1) n t = (wTab g F nl r i k n t || (decide (n = s.n.toNat) && beh F nl (wTab g F nl r i k) p.left.toNat (p.right.drop (k + 1)) t)) := by
  have e : g.prods.getD i ⟨0, []⟩ = p := by rw [List.getD_eq_getElem?_getD, hp]; rfl
  unfold wTab
  simp only [e]
  rw [wPre_succ F nl t _ hs, if_pos hn, ← List.append_assoc, run_append, run_cons, run_nil]
  rfl
end

/-- The sets, as bools and as numbers. -/
def colW (g : Gm) (t : Nat) : Nat → Bool := over (wSteps g.prods (tb (numR g)) (nulls g) t) (wBase g.start.toNat t) (g.nons.toNat + 1)
def setW (g : Gm) (n : Nat) : List Bool := (List.range 32).map fun t => colW g t n
def numW (g : Gm) : List Nat := (List.range g.nons.toNat).map fun n => numL (setW g n)
theorem setW_len (g : Gm) (n : Nat) : (setW g n).length = 32 := by simp [setW]
theorem numW_len (g : Gm) : (numW g).length = g.nons.toNat := by simp [numW]
theorem numW_at (g : Gm) {n : Nat} (h : n < g.nons.toNat) : (numW g).getD n 0 = numL (setW g n) := by
  unfold numW
  rw [List.getD_eq_getElem?_getD, List.getElem?_map, List.getElem?_range h]; rfl
theorem numW_lt (g : Gm) (n : Nat) : (numW g).getD n 0 < 4294967296 := by
  rcases Nat.lt_or_ge n g.nons.toNat with h | h
  · rw [numW_at g h]; have := numL_lt (setW g n); rw [setW_len] at this; exact this
  · rw [List.getD_eq_getElem?_getD, List.getElem?_eq_none (by rw [numW_len]; exact h)]; decide
theorem colW_least {g : Gm} (hg : Ok g) (t : Nat) : Least g.nons.toNat (wSteps g.prods (tb (numR g)) (nulls g) t) (wBase g.start.toNat t) (colW g t) := least_over (wMono hg (tb (numR g)) (nulls g) t) _ (by omega)
theorem follow_colW {g : Gm} (hg : Ok g) : Follow g (tb (numR g)) (nulls g) (fun n t => colW g t n) := fun t => colW_least hg t
theorem colW_term {g : Gm} (hg : Ok g) {n t : Nat} (hn : n < g.nons.toNat) (h : colW g t n = true) : (t : Int) < g.terms ∨ t = 16 := follow_term hg (first_numR hg) (follow_colW hg) hn h
theorem colW_wTab (g : Gm) (n t : Nat) : wTab g (tb (numR g)) (nulls g) (g.nons.toNat + 1) 0 0 n t = colW g t n := by rw [wTab_zero]; rfl
theorem tb_numW {g : Gm} (hg : Ok g) {n : Nat} (h : n < g.nons.toNat) (t : Nat) : tb (numW g) n t = colW g t n := by
  have e : (setW g n).getD t false = (decide (t < 32) && colW g t n) := by
    unfold setW
    rw [List.getD_eq_getElem?_getD, List.getElem?_map]
    rcases Nat.lt_or_ge t 32 with h | h
    · rw [List.getElem?_range h, decide_eq_true h]; rfl
    · rw [List.getElem?_eq_none (by rw [List.length_range]; exact h), decide_eq_false (by omega)]; rfl
  unfold tb
  rw [numW_at g h, numL_bit, e]
  cases e : colW g t n with
  | false => simp
  | true =>
    have h1 := colW_term hg h e
    have h2 : g.terms ≤ 16 := hg.2.1
    rw [decide_eq_true (by omega)]; rfl
theorem follow_numW {g : Gm} (hg : Ok g) : Follow g (tb (numR g)) (nulls g) (tb (numW g)) := by
  intro t
  obtain ⟨h1, h2, h3⟩ := colW_least hg t
  refine ⟨shut_same (wMono hg (tb (numR g)) (nulls g) t) (fun n hn => (tb_numW hg hn t).symm) h1, fun n hn e => ?_, fun x hx hc n hn hb => ?_⟩
  · show tb (numW g) n t = true
    rw [tb_numW hg hn t]; exact h2 n hn e
  · have hb : tb (numW g) n t = true := hb
    rw [tb_numW hg hn t] at hb
    exact h3 x hx hc n hn hb

/-- Numbers on their way to the least sets. -/
structure UnderW (g : Gm) (W : List Nat) : Prop where
  len_ : W.length = g.nons.toNat
  lt : ∀ n, W.getD n 0 < 4294967296
  base : tb W g.start.toNat 16 = true
  under : ∀ n, n < g.nons.toNat → ∀ t, tb W n t = true → tb (numW g) n t = true
theorem start_lt {g : Gm} (hg : Ok g) : g.start.toNat < g.nons.toNat := by
  have h1 := hg.2.2.2.2.1
  have h2 := hg.2.2.2.2.2.1
  omega
theorem UnderW.begin_ {g : Gm} (hg : Ok g) : UnderW g ((List.replicate g.nons.toNat 0).set g.start.toNat 65536) := by
  have hl : g.start.toNat < (List.replicate g.nons.toNat 0).length := by rw [List.length_replicate]; exact start_lt hg
  have hz : ∀ n, (List.replicate g.nons.toNat 0).getD n 0 = 0 := fun n => getD_zero n fun x hx => (List.mem_replicate.1 hx).2
  refine ⟨by rw [List.length_set, List.length_replicate], fun n => ?_, ?_, fun n hn t h => ?_⟩
  · rw [getD_set hl]
    split
    · decide
    · rw [hz]; decide
  · unfold tb; rw [getD_set hl, if_pos rfl]; rfl
  · unfold tb at h
    rw [getD_set hl] at h
    split at h
    · rename_i e
      have h2 : (2 ^ 16).testBit t = true := h
      rw [Nat.testBit_two_pow] at h2
      have h3 := of_decide_eq_true h2
      subst h3
      rw [← e]
      exact follow_end hg (follow_numW hg)
    · rw [hz, Nat.zero_testBit] at h; cases h
section
variable {g : Gm} {W : List Nat}
theorem syOk_drop {N : Nat} {l : List Sy} (h : SyOk N l) (k : Nat) : SyOk N (l.drop k) := fun x hx => h x (List.mem_of_mem_drop hx)
theorem UnderW.put (hg : Ok g) (h : UnderW g W) {p : Pr} (hp : p ∈ g.prods) {k : Nat} {s : Sy} (hs : p.right[k]? = some s) (hn : s.non = true) :
    UnderW g (W.set s.n.toNat (W.getD s.n.toNat 0 ||| behN (numR g) W (nulls g) p.left.toNat (p.right.drop (k + 1)))) := by
  obtain ⟨hk, rfl⟩ := List.getElem?_eq_some_iff.1 hs
  have hsy := syOk_prod hg hp
  have hm : p.right[k].n.toNat < g.nons.toNat := (ok_nums hg hp).2.1 _ (List.getElem_mem hk) hn
  have hml : p.right[k].n.toNat < W.length := by rw [h.len_]; exact hm
  have hd := syOk_drop hsy (k + 1)
  have hb := behN_lt (nl := nulls g) (left := p.left.toNat) (numR_lt g) h.lt (l := p.right.drop (k + 1)) (fun s hx e => (hd s hx).2.2 e)
  have hsp : p.right = p.right.take k ++ p.right[k] :: p.right.drop (k + 1) := by rw [← List.drop_eq_getElem_cons hk, List.take_append_drop]
  refine ⟨by rw [List.length_set]; exact h.len_, fun n => ?_, ?_, fun n hnn t ht => ?_⟩
  · rw [getD_set hml]
    split
    · exact Nat.or_lt_two_pow (n := 32) (h.lt _) hb
    · exact h.lt n
  · unfold tb
    rw [getD_set hml]
    split
    · rename_i e
      rw [Nat.testBit_or, e]
      have := h.base
      unfold tb at this
      rw [this]; rfl
    · exact h.base
  · unfold tb at ht
    rw [getD_set hml] at ht
    split at ht
    · rename_i e
      rw [Nat.testBit_or, Bool.or_eq_true] at ht
      rcases ht with ht | ht
      · rw [e] at ht; exact h.under n hnn t ht
      · rw [behN_bit t (fun s hx => (hd s hx).1)] at ht
        unfold beh at ht
        have hsh := follow_shut (follow_numW hg) hp hsp hn t
        rw [← e]
        rcases Bool.or_eq_true_iff.mp ht with h1 | h1
        · exact hsh.1 h1
        · rw [Bool.and_eq_true] at h1
          exact hsh.2 h1.1 (h.under _ (ok_nums hg hp).1 t h1.2)
    · exact h.under n hnn t ht
/-- Of the first i productions, and the first k places of the next one, nothing is to be put in. -/
def ShutW (g : Gm) (W : List Nat) (i k : Nat) : Prop := ∀ j q, (j < i ∨ (j = i ∧ q < k)) → ∀ p s, g.prods[j]? = some p → p.right[q]? = some s → s.non = true →
  W.getD s.n.toNat 0 ||| behN (numR g) W (nulls g) p.left.toNat (p.right.drop (q + 1)) = W.getD s.n.toNat 0
theorem shutW_zero : ShutW g W 0 0 := fun j q h => by omega
theorem shutW_place {i k : Nat} {p : Pr} {s : Sy} (h : ShutW g W i k) (hp : g.prods[i]? = some p) (hs : p.right[k]? = some s)
    (he : s.non = true → W.getD s.n.toNat 0 ||| behN (numR g) W (nulls g) p.left.toNat (p.right.drop (k + 1)) = W.getD s.n.toNat 0) : ShutW g W i (k + 1) := by
  intro j q hj p' s' hp' hs' hn
  by_cases e : j = i ∧ q = k
  · obtain ⟨rfl, rfl⟩ := e
    rw [hp] at hp'; injection hp' with hp'; subst hp'
    rw [hs] at hs'; injection hs' with hs'; subst hs'
    exact he hn
  · exact h j q (by omega) p' s' hp' hs' hn
theorem shutW_next {i k : Nat} {p : Pr} (h : ShutW g W i k) (hp : g.prods[i]? = some p) (hk : p.right.length ≤ k) : ShutW g W (i + 1) 0 := by
  intro j q hj p' s' hp' hs' hn
  rcases Nat.lt_or_ge j i with h1 | h1
  · exact h j q (.inl h1) p' s' hp' hs' hn
  · have e : j = i := by omega
    subst e
    rw [hp] at hp'; injection hp' with hp'; subst hp'
    have hq : q < p.right.length := by
      rcases Nat.lt_or_ge q p.right.length with h2 | h2
      · exact h2
      · rw [List.getElem?_eq_none h2] at hs'; cases hs'
    exact h j q (.inr ⟨rfl, by omega⟩) p s' hp hs' hn
theorem UnderW.follow (hg : Ok g) (h : UnderW g W) (hs : ShutW g W g.prods.length 0) : Follow g (tb (numR g)) (nulls g) (tb W) := by
  intro t
  refine ⟨?_, fun n hn e => ?_, fun x hx hc n hn hb => ?_⟩
  · intro st hst hv
    unfold wSteps at hst
    rw [List.mem_flatMap] at hst
    obtain ⟨p, hp, hst⟩ := hst
    obtain ⟨pre, s, l, e1, e2, rfl⟩ := wStepsOf_mem.mp hst
    obtain ⟨i, hi, rfl⟩ := List.getElem_of_mem hp
    have hk : g.prods[i].right[pre.length]? = some s := by rw [e1]; simp
    have hd : g.prods[i].right.drop (pre.length + 1) = l := by
      rw [e1, List.drop_append]; simp
    have he := hs i pre.length (.inl hi) _ s (List.getElem?_eq_getElem hi) hk e2
    rw [hd] at he
    have hsy : ∀ x ∈ l, 0 ≤ x.n := fun x hx => ((syOk_prod hg hp) x (by rw [e1]; simp [hx])).1
    have hv : (of (tb (numR g)) (nulls g) l t || (allNull (nulls g) l && tb W g.prods[i].left.toNat t)) = true := hv
    show (W.getD s.n.toNat 0).testBit t = true
    rw [← he, Nat.testBit_or, behN_bit t hsy]
    have hv2 : beh (tb (numR g)) (nulls g) (tb W) g.prods[i].left.toNat l t = true := hv
    rw [hv2, Bool.or_true]
  · have h1 := of_decide_eq_true e
    obtain ⟨rfl, rfl⟩ := h1
    exact h.base
  · have h1 := h.under n hn t hb
    exact (follow_numW hg t).2.2 x hx hc n hn h1
theorem UnderW.done (hg : Ok g) (h : UnderW g W) (hs : ShutW g W g.prods.length 0) : W = numW g := by
  apply List.ext_getElem?
  intro n
  rcases Nat.lt_or_ge n g.nons.toNat with hn | hn
  · have h1 : n < W.length := by rw [h.len_]; exact hn
    have h2 : n < (numW g).length := by rw [numW_len]; exact hn
    rw [List.getElem?_eq_getElem h1, List.getElem?_eq_getElem h2]
    congr 1
    have e1 : W[n] = W.getD n 0 := by rw [List.getD_eq_getElem?_getD, List.getElem?_eq_getElem h1]; rfl
    have e2 : (numW g)[n] = (numW g).getD n 0 := by rw [List.getD_eq_getElem?_getD, List.getElem?_eq_getElem h2]; rfl
    rw [e1, e2]
    apply Nat.eq_of_testBit_eq
    intro t
    exact follow_same (h.follow hg hs) (follow_numW hg) hn t
  · rw [List.getElem?_eq_none (by rw [h.len_]; exact hn), List.getElem?_eq_none (by rw [numW_len]; exact hn)]
end
end Go.Proofs.Ytgmnokmchjeflaa.Fi
