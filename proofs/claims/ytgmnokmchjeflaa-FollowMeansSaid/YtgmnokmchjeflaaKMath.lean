/- Plain facts on ranks. No program is named here. -/
import Derived.Test.YtgmnokmchjeflaaKRnd
namespace Go.Proofs.Ytgmnokmchjeflaa.Rk
open Gr (Sy Pr Gm okSy okPr Ok)

def okS (terms : Bool) (l : Fs) (r : Nat) (s : Sy) : Bool := if s.non then decide (rk l s.n.toNat ≠ 0 ∧ rk l s.n.toNat < r) else terms
def below (terms : Bool) (l : Fs) (r : Nat) (p : Pr) : Bool := p.right.all (okS terms l r)
/-- The first production of a nonterminal that has only what is below. -/
def pick (terms : Bool) (ps : List Pr) : Pick := fun l r n => ps.findIdx? fun p => decide (p.left = (n : Int)) && below terms l r p
def zeros (nons : Nat) : Fs := List.replicate nons (0, 0)
theorem zeros_getD (nons n : Nat) : (zeros nons).getD n (0, 0) = (0, 0) := by
  unfold zeros
  rw [List.getD_eq_getElem?_getD, List.getElem?_replicate]
  split <;> rfl
theorem rk_zeros (nons n : Nat) : rk (zeros nons) n = 0 := by unfold rk; rw [zeros_getD]
theorem zeros_le (nons : Nat) : ∀ n, rk (zeros nons) n ≤ 0 := fun n => by rw [rk_zeros]; exact Nat.le_refl _
theorem zeros_length (nons : Nat) : (zeros nons).length = nons := List.length_replicate ..
/-- The facts, round by round. -/
def rounds' (terms : Bool) (ps : List Pr) (nons k : Nat) : Fs := rounds (pick terms ps) (zeros nons) 0 k
def ranks (terms : Bool) (ps : List Pr) (nons : Nat) : Fs := rounds' terms ps nons nons

section
variable (terms : Bool) (ps : List Pr) (nons : Nat)
theorem okS_more {l : Fs} {r r' : Nat} (h : ∀ n, rk l n < r) (hr : r ≤ r') (s : Sy) : okS terms l r' s = okS terms l r s := by
  unfold okS
  split
  · have := h s.n.toNat
    congr 1
    apply propext
    constructor
    · rintro ⟨h1, _⟩; exact ⟨h1, this⟩
    · rintro ⟨h1, _⟩; exact ⟨h1, by omega⟩
  · rfl
theorem pick_more {l : Fs} {r r' n : Nat} (h : ∀ n, rk l n < r) (hr : r ≤ r') : pick terms ps l r' n = pick terms ps l r n := by
  unfold pick below
  congr 1
  funext p
  congr 1
  apply congrArg (p.right.all)
  funext s
  exact okS_more terms h hr s
theorem pick_none (l : Fs) (r r' n : Nat) (h : ∀ m, rk l m < r) (hr : r ≤ r') (hp : pick terms ps l r n = none) : pick terms ps l r' n = none := by
  rw [pick_more terms ps h hr]; exact hp
theorem ranks_length : (ranks terms ps nons).length = nons := by unfold ranks rounds'; rw [rounds_length, zeros_length]
theorem rounds'_length (k : Nat) : (rounds' terms ps nons k).length = nons := by unfold rounds'; rw [rounds_length, zeros_length]
theorem settled' : ∀ k, nons ≤ k → rounds' terms ps nons k = ranks terms ps nons := by
  intro k hk
  exact settled_on (pick terms ps) (zeros nons) 0 (zeros_le nons) (pick_none terms ps) (Nat.zero_le _) (j := nons) (by rw [zeros_length]; omega) hk
/-- A round that finds nothing ends it: what is there are the facts. -/
theorem ranks_of {k : Nat} (h : rounds' terms ps nons (k + 1) = rounds' terms ps nons k) : rounds' terms ps nons k = ranks terms ps nons := by
  rcases Nat.lt_or_ge k nons with h1 | h1
  · have := stable_on (pick terms ps) (zeros nons) 0 (zeros_le nons) (pick_none terms ps) h (nons - k)
    rw [show k + (nons - k) = nons by omega] at this
    exact this.symm
  · exact settled' terms ps nons k h1
theorem rank_le (n : Nat) : rk (ranks terms ps nons) n ≤ nons := by
  have := rk_le (pick terms ps) (zeros nons) 0 (zeros_le nons) nons n
  unfold ranks rounds'
  omega
/-- What has no rank has production 0. -/
theorem rank_zero (n : Nat) (h : rk (ranks terms ps nons) n = 0) : (ranks terms ps nons).getD n (0, 0) = (0, 0) :=
  zero (pick terms ps) (zeros nons) 0 (fun n _ => zeros_getD nons n) nons n h
theorem pick_some (ps : List Pr) (terms : Bool) {l : Fs} {r n i : Nat} (h : pick terms ps l r n = some i) : ∃ p, ps[i]? = some p ∧ p.left = (n : Int) ∧ (∀ s ∈ p.right, okS terms l r s = true) ∧
    ∀ j q, j < i → ps[j]? = some q → q.left = (n : Int) → below terms l r q = false := by
  unfold pick at h
  rw [List.findIdx?_eq_some_iff_getElem] at h
  obtain ⟨hi, h1, h2⟩ := h
  rw [Bool.and_eq_true, decide_eq_true_eq] at h1
  refine ⟨ps[i], List.getElem?_eq_getElem hi, h1.1, List.all_eq_true.mp h1.2, ?_⟩
  intro j q hj hq hl
  have hjl : j < ps.length := by omega
  rw [List.getElem?_eq_getElem hjl] at hq
  injection hq with hq
  have := h2 j hj
  rw [hq] at this
  rw [decide_eq_true hl, Bool.true_and] at this
  simpa using this
/-- The facts show. -/
theorem shown (n : Nat) (h : rk (ranks terms ps nons) n ≠ 0) : ∃ p, ps[((ranks terms ps nons).getD n (0, 0)).2]? = some p ∧ p.left = (n : Int) ∧ ∀ s ∈ p.right, okS terms (ranks terms ps nons) (rk (ranks terms ps nons) n) s = true := by
  obtain ⟨k, er⟩ : ∃ k, rk (ranks terms ps nons) n = 0 + k + 1 := ⟨rk (ranks terms ps nons) n - 1, by omega⟩
  have e1 := early (pick terms ps) (zeros nons) 0 (zeros_le nons) nons n k er
  have h0 := e1.1 k (Nat.le_refl _)
  have e2 := e1.2 (k + 1) (by omega)
  have h1 : rk (rounds (pick terms ps) (zeros nons) 0 (k + 1)) n ≠ 0 := by unfold rk; rw [e2]; exact h
  obtain ⟨i, hp, e3⟩ := new_rk (pick terms ps) (zeros nons) 0 h0 h1
  obtain ⟨p, hi, hl, hs, _⟩ := pick_some ps terms hp
  have e4 : (ranks terms ps nons).getD n (0, 0) = (0 + k + 1, i) := by unfold ranks rounds'; rw [← e2]; exact e3
  rw [e4]
  refine ⟨p, hi, hl, ?_⟩
  intro s hsm
  rw [er]
  have := hs s hsm
  unfold okS at this ⊢
  split
  · rename_i hn
    rw [if_pos hn] at this
    obtain ⟨h3, h4⟩ := of_decide_eq_true this
    have hle : k ≤ nons := by have := rank_le terms ps nons n; omega
    have := keep_rk (pick terms ps) (zeros nons) 0 hle h3
    apply decide_eq_true
    show rk (rounds (pick terms ps) (zeros nons) 0 nons) s.n.toNat ≠ 0 ∧ rk (rounds (pick terms ps) (zeros nons) 0 nons) s.n.toNat < 0 + k + 1
    rw [this]
    exact ⟨h3, h4⟩
  · rename_i hn
    rw [if_neg hn] at this
    exact this
/-- Who has a production of such as have ranks, has one: in the round behind the last of them at the latest. -/
theorem closed_at {p : Pr} (hp : p ∈ ps) {n : Nat} (hl : p.left = (n : Int)) (hn : n < nons) {r : Nat} (h : ∀ s ∈ p.right, okS terms (ranks terms ps nons) (r + 1) s = true) :
    rk (ranks terms ps nons) n ≠ 0 ∧ rk (ranks terms ps nons) n ≤ r + 1 := by
  have hb : below terms (rounds' terms ps nons r) (0 + r + 1) p = true := by
    apply List.all_eq_true.mpr
    intro s hs
    have := h s hs
    unfold okS at this ⊢
    split
    · rename_i hn
      rw [if_pos hn] at this
      obtain ⟨h3, h4⟩ := of_decide_eq_true this
      have e := there (pick terms ps) (zeros nons) 0 (zeros_le nons) (k := nons) (j := r) h3 (by show rk (ranks terms ps nons) _ ≤ 0 + r; omega)
      have e2 : rk (rounds' terms ps nons r) s.n.toNat = rk (ranks terms ps nons) s.n.toNat := by unfold rk rounds'; rw [e]; rfl
      rw [e2]
      exact decide_eq_true ⟨h3, by omega⟩
    · rename_i hn
      rw [if_neg hn] at this
      exact this
  have key : rk (rounds (pick terms ps) (zeros nons) 0 (r + 1)) n ≠ 0 := by
    cases ep : pick terms ps (rounds (pick terms ps) (zeros nons) 0 r) (0 + r + 1) n with
    | none =>
      unfold pick at ep
      rw [List.findIdx?_eq_none_iff] at ep
      have := ep p hp
      have hb : below terms (rounds (fun l r n => ps.findIdx? fun p => decide (p.left = (n : Int)) && below terms l r p) (zeros nons) 0 r) (0 + r + 1) p = true := hb
      rw [hb, decide_eq_true hl] at this
      exact absurd this (by decide)
    | some i => exact got (pick terms ps) (zeros nons) 0 (by rw [zeros_length]; exact hn) ep
  have hle := rk_le (pick terms ps) (zeros nons) 0 (zeros_le nons) (r + 1) n
  have e : rk (ranks terms ps nons) n = rk (rounds (pick terms ps) (zeros nons) 0 (r + 1)) n := by
    rcases Nat.lt_or_ge nons (r + 1) with h1 | h1
    · rw [← settled' terms ps nons (r + 1) (by omega)]; rfl
    · exact keep_rk (pick terms ps) (zeros nons) 0 h1 key
  rw [e]
  exact ⟨key, by omega⟩
theorem closed {p : Pr} (hp : p ∈ ps) {n : Nat} (hl : p.left = (n : Int)) (hn : n < nons) (h : ∀ s ∈ p.right, (s.non = true → rk (ranks terms ps nons) s.n.toNat ≠ 0) ∧ (s.non = false → terms = true)) :
    rk (ranks terms ps nons) n ≠ 0 := by
  refine (closed_at terms ps nons hp hl hn (r := nons) ?_).1
  intro s hs
  obtain ⟨h1, h2⟩ := h s hs
  unfold okS
  cases e : s.non with
  | true =>
    rw [if_pos rfl]
    have := rank_le terms ps nons s.n.toNat
    exact decide_eq_true ⟨h1 e, by omega⟩
  | false => rw [if_neg (by decide)]; exact h2 e

/-- Facts show, whoever made them: R tells the rank of a nonterminal. -/
def Shows (R : Nat → Int) : Prop := ∀ n, n < nons → 0 < R n → ∃ p ∈ ps, p.left = (n : Int) ∧ ∀ s ∈ p.right, (s.non = true → 0 < R s.n.toNat ∧ R s.n.toNat < R n ∧ s.n.toNat < nons) ∧ (s.non = false → terms = true)
/-- What shows a rank is right: there is one, and none that is greater. -/
theorem shows_least {R : Nat → Int} (h : Shows terms ps nons R) : ∀ (m : Nat) (n : Nat), n < nons → 0 < R n → (R n).toNat ≤ m → rk (ranks terms ps nons) n ≠ 0 ∧ (rk (ranks terms ps nons) n : Int) ≤ R n
  | 0, n, _, h0, hm => by omega
  | m + 1, n, hn, h0, hm => by
    obtain ⟨p, hp, hl, hs⟩ := h n hn h0
    have key := closed_at terms ps nons hp hl hn (r := (R n).toNat - 1) (by
      intro s hsm
      obtain ⟨h1, h2⟩ := hs s hsm
      unfold okS
      cases e : s.non with
      | true =>
        rw [if_pos rfl]
        obtain ⟨h3, h4, h5⟩ := h1 e
        have ih := shows_least h m s.n.toNat h5 h3 (by omega)
        exact decide_eq_true ⟨ih.1, by omega⟩
      | false => rw [if_neg (by decide)]; exact h2 e)
    refine ⟨key.1, ?_⟩
    have := key.2
    omega
end

section
variable {g : Gm}
open Cf (Cm Pos)

/-- Of whom a word comes has a rank with terminals; of whom nothing may come, one without. -/
theorem cm_ranks (hg : Ok g) {l : List Sy} {w : List Int} (h : Cm g l w) : ∀ s ∈ l, s.non = true → rk (ranks true g.prods g.nons.toNat) s.n.toNat ≠ 0 := by
  induction h with
  | nil => intro s hs; exact absurd hs (by simp)
  | tok hs _ ih =>
    intro x hx hn
    rcases List.mem_cons.mp hx with rfl | hx
    · rw [hs] at hn; exact absurd hn (by decide)
    · exact ih x hx hn
  | @non s l u v p hs hp hl hr _ ih1 ih2 =>
    intro x hx hn
    rcases List.mem_cons.mp hx with rfl | hx
    · have hok := hg.2.2.2.2.2.2.2 p hp
      have h0 : 0 ≤ p.left := hok.1
      have h1 : p.left < g.nons := hok.2.1
      have e : p.left = ((x.n.toNat : Nat) : Int) := by rw [← hl, Int.toNat_of_nonneg h0]
      refine closed true g.prods g.nons.toNat hp e (by omega) ?_
      intro s hs
      exact ⟨ih1 s hs, fun _ => rfl⟩
    · exact ih2 x hx hn
theorem cm_null (hg : Ok g) {l : List Sy} {w : List Int} (h : Cm g l w) : w = [] → ∀ s ∈ l, s.non = true ∧ rk (ranks false g.prods g.nons.toNat) s.n.toNat ≠ 0 := by
  induction h with
  | nil => intro _ s hs; exact absurd hs (by simp)
  | tok hs _ ih => intro e; exact absurd e (by simp)
  | @non s l u v p hs hp hl hr _ ih1 ih2 =>
    intro e x hx
    have eu : u = [] := (List.append_eq_nil_iff.mp e).1
    have ev : v = [] := (List.append_eq_nil_iff.mp e).2
    rcases List.mem_cons.mp hx with rfl | hx
    · refine ⟨hs, ?_⟩
      have hok := hg.2.2.2.2.2.2.2 p hp
      have h0 : 0 ≤ p.left := hok.1
      have h1 : p.left < g.nons := hok.2.1
      have e : p.left = ((x.n.toNat : Nat) : Int) := by rw [← hl, Int.toNat_of_nonneg h0]
      refine closed false g.prods g.nons.toNat hp e (by omega) ?_
      intro s hs
      have := ih1 eu s hs
      exact ⟨fun _ => this.2, fun hf => by rw [this.1] at hf; exact absurd hf (by decide)⟩
    · exact ih2 ev x hx
/-- Of symbols that all have a rank something comes: with terminals a word, without them nothing. -/
theorem ranks_cm (hg : Ok g) (terms : Bool) : ∀ (m : Nat) (n : Nat), rk (ranks terms g.prods g.nons.toNat) n ≠ 0 → rk (ranks terms g.prods g.nons.toNat) n ≤ m → ∃ w, Cm g [⟨true, (n : Int)⟩] w ∧ (terms = false → w = [])
  | 0, n, h0, hm => by omega
  | m + 1, n, h0, hm => by
    obtain ⟨p, hi, hl, hs⟩ := shown terms g.prods g.nons.toNat n h0
    have hp : p ∈ g.prods := List.mem_of_getElem? hi
    have hpos := (Cf.ok_pos hg hp).2
    have all : ∀ l : List Sy, (∀ s ∈ l, s ∈ p.right) → ∃ w, Cm g l w ∧ (terms = false → w = []) := by
      intro l
      induction l with
      | nil => intro _; exact ⟨[], .nil, fun _ => rfl⟩
      | cons s l ih =>
        intro hl
        obtain ⟨v, hv, hv0⟩ := ih (fun x hx => hl x (List.mem_cons_of_mem _ hx))
        have hsm := hl s (List.mem_cons_self ..)
        have hso := hs s hsm
        unfold okS at hso
        cases e : s.non with
        | true =>
          rw [if_pos e] at hso
          obtain ⟨h3, h4⟩ := of_decide_eq_true hso
          obtain ⟨u, hu, hu0⟩ := ranks_cm hg terms m s.n.toNat h3 (by omega)
          rw [Int.toNat_of_nonneg (hpos s hsm)] at hu
          have es : s = ⟨true, s.n⟩ := by rw [← e]
          refine ⟨u ++ v, ?_, ?_⟩
          · have := hu.append hv
            rw [← es] at this
            exact this
          · intro ht; rw [hu0 ht, hv0 ht]; rfl
        | false =>
          rw [if_neg (by rw [e]; decide)] at hso
          exact ⟨s.n :: v, .tok e hv, fun ht => by rw [ht] at hso; exact absurd hso (by decide)⟩
    obtain ⟨w, hw, hw0⟩ := all p.right (fun _ h => h)
    exact ⟨w, Cm.one.mpr ⟨p, hp, hl, hw⟩, hw0⟩
theorem null_iff (hg : Ok g) (n : Nat) : rk (ranks false g.prods g.nons.toNat) n ≠ 0 ↔ Cm g [⟨true, (n : Int)⟩] [] := by
  constructor
  · intro h
    obtain ⟨w, hw, h0⟩ := ranks_cm hg false _ n h (Nat.le_refl _)
    rw [h0 rfl] at hw
    exact hw
  · intro h
    have := (cm_null hg h rfl _ (List.mem_cons_self ..)).2
    have e : (((n : Nat) : Int)).toNat = n := Int.toNat_natCast n
    rwa [e] at this
theorem some_iff (hg : Ok g) (n : Nat) : rk (ranks true g.prods g.nons.toNat) n ≠ 0 ↔ ∃ w, Cm g [⟨true, (n : Int)⟩] w := by
  constructor
  · intro h
    obtain ⟨w, hw, _⟩ := ranks_cm hg true _ n h (Nat.le_refl _)
    exact ⟨w, hw⟩
  · rintro ⟨w, h⟩
    have := cm_ranks hg h _ (List.mem_cons_self ..) rfl
    have e : (((n : Nat) : Int)).toNat = n := Int.toNat_natCast n
    rwa [e] at this
end
end Go.Proofs.Ytgmnokmchjeflaa.Rk
