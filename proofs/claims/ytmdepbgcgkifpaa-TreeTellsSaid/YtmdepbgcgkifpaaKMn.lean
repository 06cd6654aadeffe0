/- Facts (a rank, a production) as cells; what a production must lean on, as bools; what a grammar that may be is like. No type of facts is named here. -/
import Derived.Test.YtmdepbgcgkifpaaRows
import Derived.Test.YtmdepbgcgkifpaaGMem
import Derived.Test.YtmdepbgcgkifpaaKIn
import Derived.OwnWalk
namespace Go.Proofs.Ytmdepbgcgkifpaa
open Go.RowKit


theorem prs_drew {w : World} {B : Nat} {A : Option Addr} {ps : List Gr.Pr} (h : Prs w B A ps) : Prs w.drew B A ps := h
theorem le_drew {B : Nat} {w : World} (h : B ≤ w.heap.size) : B ≤ w.drew.heap.size := h
theorem bl_size {a b : World} (h : Bl a b) : a.heap.size ≤ b.heap.size := Below.size h
/-- A fact, as ints. -/
structure Fc where
  rank : Int
  prod : Int
deriving DecidableEq
/-- Facts as cells. -/
def fcRow : List Fc → List Value := row2 (fun f => .int .i64 f.rank) (fun f => .int .i64 f.prod)
theorem fcRow_len (l : List Fc) : (fcRow l).length = l.length * 2 := row2_len l
theorem fcRow_one (l : List Fc) : ∀ u ∈ fcRow l, u.oneCell' = true := row2_one l (fun _ => rfl) (fun _ => rfl)
theorem fcRow_at (l : List Fc) (i : Nat) (h : i < l.length) : (fcRow l)[i * 2]? = some (.int .i64 l[i].rank) ∧ (fcRow l)[i * 2 + 1]? = some (.int .i64 l[i].prod) := row2_at l i h
theorem Rd.fact {w : World} {B : Nat} {A : Option Addr} {l : List Fc} (h : Rd w B A (fcRow l)) {i : Nat} (hi : i < l.length) :
    ∃ b off, A = some ⟨b, off, none⟩ ∧ b < B ∧ w.cell? ⟨b, off + i * 2, none⟩ = some (.int .i64 l[i].rank) ∧ w.cell? ⟨b, off + i * 2 + 1, none⟩ = some (.int .i64 l[i].prod) := Rd.two h hi
theorem fcRow_set : ∀ (l : List Fc) (n : Nat) (f : Fc), fcRow (l.set n f) = ((fcRow l).set (n * 2) (.int .i64 f.rank)).set (n * 2 + 1) (.int .i64 f.prod)
  | [], _, _ => rfl
  | x :: l, 0, f => rfl
  | x :: l, n + 1, f => by
    have ih := fcRow_set l n f
    show Value.int .i64 x.rank :: Value.int .i64 x.prod :: fcRow (l.set n f) = _
    rw [ih, show (n + 1) * 2 = n * 2 + 1 + 1 by omega]
    rfl
/-- Facts of the mathematics, as ints. -/
def fz (l : Rk.Fs) : List Fc := l.map fun f => ⟨f.1, f.2⟩
theorem fz_len (l : Rk.Fs) : (fz l).length = l.length := by simp [fz]
theorem fz_set (l : Rk.Fs) (n r i : Nat) : fz (l.set n (r, i)) = (fz l).set n ⟨r, i⟩ := by simp [fz, List.map_set]
theorem fz_rank (l : Rk.Fs) (n : Nat) (h : n < (fz l).length) : (fz l)[n].rank = (Rk.rk l n : Int) := by
  have h' : n < l.length := by rwa [fz_len] at h
  unfold Rk.rk
  rw [List.getD_eq_getElem?_getD, List.getElem?_eq_getElem h']
  simp [fz]
theorem fz_prod (l : Rk.Fs) (n : Nat) (h : n < (fz l).length) : (fz l)[n].prod = ((l.getD n (0, 0)).2 : Int) := by
  have h' : n < l.length := by rwa [fz_len] at h
  rw [List.getD_eq_getElem?_getD, List.getElem?_eq_getElem h']
  simp [fz]
theorem fz_zeros (n : Nat) : fcRow (fz (Rk.zeros n)) = (madeCells (Value.cells (.agg #[.int .i64 0, .int .i64 0])) (n * 2)).toList := by
  apply List.ext_getElem?
  intro j
  have e : (madeCells (Value.cells (.agg #[.int .i64 0, .int .i64 0])) (n * 2)).toList[j]? = if j < n * 2 then some (.int .i64 0) else none := by
    have hc : Value.cells (.agg #[.int .i64 0, .int .i64 0]) = #[.int .i64 0, .int .i64 0] := by rfl
    rw [hc]
    by_cases hj : j < n * 2
    · rw [if_pos hj]
      rcases Nat.mod_two_eq_zero_or_one j with hm | hm <;> simp [madeCells, hj, hm]
    · rw [if_neg hj]; simp [madeCells, hj]
  rw [e]
  split
  · rename_i hj
    have hi : j / 2 < (fz (Rk.zeros n)).length := by rw [fz_len]; unfold Rk.zeros; rw [List.length_replicate]; omega
    have h := fcRow_at (fz (Rk.zeros n)) (j / 2) hi
    rw [fz_rank, fz_prod, Rk.rk_zeros, Rk.zeros_getD] at h
    rcases Nat.mod_two_eq_zero_or_one j with hm | hm
    · rw [show j = j / 2 * 2 by omega]; exact h.1
    · rw [show j = j / 2 * 2 + 1 by omega]; exact h.2
  · rename_i hj
    rw [List.getElem?_eq_none (by rw [fcRow_len, fz_len]; unfold Rk.zeros; rw [List.length_replicate]; omega)]

/-- The rank of a nonterminal, by facts. -/
def rkz (l : List Fc) (n : Nat) : Int := match l[n]? with
  | some f => f.rank
  | none => 0
theorem rkz_at {l : List Fc} {n : Nat} (h : n < l.length) : rkz l n = l[n].rank := by unfold rkz; rw [List.getElem?_eq_getElem h]
theorem rkz_fz (l : Rk.Fs) (n : Nat) : rkz (fz l) n = (Rk.rk l n : Int) := by
  rcases Nat.lt_or_ge n l.length with h | h
  · rw [rkz_at (by rw [fz_len]; exact h), fz_rank]
  · unfold rkz
    rw [List.getElem?_eq_none (by rw [fz_len]; exact h), Rk.rk_out h]
    rfl
/-- May a symbol, may symbols stand in a production that tells a rank? -/
def leanS (terms : Bool) (l : List Fc) (r : Int) (s : Gr.Sy) : Bool := if s.non then decide (1 ≤ rkz l s.n.toNat ∧ rkz l s.n.toNat < r) else terms
def leansB (terms : Bool) (l : List Fc) (r : Int) (right : List Gr.Sy) : Bool := right.all (leanS terms l r)
section
variable {terms : Bool} {l : List Fc} {r : Int} {right : List Gr.Sy}
theorem leansB_one {k : Nat} (hk : k < right.length) (h : leanS terms l r right[k] = false) : leansB terms l r right = false := by
  rw [Bool.eq_false_iff]
  intro e
  unfold leansB at e
  rw [List.all_eq_true] at e
  have := e _ (List.getElem_mem hk)
  rw [h] at this; cases this
theorem leansB_all (h : ∀ s ∈ right, leanS terms l r s = true) : leansB terms l r right = true := List.all_eq_true.2 h
theorem leanS_term {n : Int} : leanS terms l r ⟨false, n⟩ = terms := rfl
theorem leanS_yes {m : Nat} (hm : m < l.length) (h1 : 1 ≤ l[m].rank) (h2 : l[m].rank < r) : leanS terms l r ⟨true, (m : Int)⟩ = true := by
  have e := rkz_at hm
  unfold leanS
  rw [if_pos rfl]
  apply decide_eq_true
  show 1 ≤ rkz l m ∧ rkz l m < r
  omega
theorem leanS_no {m : Nat} (hm : m < l.length) (h : l[m].rank < 1 ∨ r ≤ l[m].rank) : leanS terms l r ⟨true, (m : Int)⟩ = false := by
  have e := rkz_at hm
  unfold leanS
  rw [if_pos rfl]
  apply decide_eq_false
  show ¬ (1 ≤ rkz l m ∧ rkz l m < r)
  omega
end
theorem leansB_fz (terms : Bool) (l : Rk.Fs) (r : Nat) (p : Gr.Pr) : leansB terms (fz l) (r : Int) p.right = Rk.below terms l r p := by
  unfold leansB Rk.below
  congr 1
  funext s
  unfold leanS Rk.okS
  split
  · rw [rkz_fz]
    congr 1
    apply propext
    constructor
    · rintro ⟨h1, h2⟩; exact ⟨by omega, by omega⟩
    · rintro ⟨h1, h2⟩; exact ⟨by omega, by omega⟩
  · rfl
/-- The symbols of a production of a grammar that may be: the numbers of its nonterminals. -/
theorem ok_syms {t n s : Int} {ps : List Gr.Pr} (h : okB ⟨t, n, s, ps⟩ = true) {k : Nat} (hk : k < ps.length) : (0 ≤ ps[k].left ∧ ps[k].left < n) ∧ ps[k].right.length ≤ 8 ∧ ∀ x ∈ ps[k].right, x.non = true → 0 ≤ x.n ∧ x.n < n := by
  obtain ⟨_, _, _, _, _, _, _, h8⟩ := (okB_iff _).1 h
  obtain ⟨h1, h2, h3, h4⟩ := h8 _ (List.getElem_mem hk)
  refine ⟨⟨h1, h2⟩, h3, fun x hx hn => ?_⟩
  have h5 := h4 x hx
  unfold Gr.okSy at h5
  simpa [hn] using h5
theorem ok_nons {t n s : Int} {ps : List Gr.Pr} (h : okB ⟨t, n, s, ps⟩ = true) : 1 ≤ n ∧ n ≤ 24 ∧ ps.length ≤ 60 := by
  obtain ⟨_, _, h3, h4, _, _, h7, _⟩ := (okB_iff _).1 h
  exact ⟨h3, h4, h7⟩
end Go.Proofs.Ytmdepbgcgkifpaa
