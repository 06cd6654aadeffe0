/- What the reference asks of closed sets, and what is asked: the same. -/
import Derived.Test.YtdfhhbncmdpoeaaClMth
import Derived.Test.YtdfhhbncmdpoeaaPlainS
namespace Go.Proofs.Ytdfhhbncmdpoeaa
open Go.RowKit

/-- The sets that came in, place by place. -/
def rowI (L : List (List Ix)) (a : Nat) : List Ch.Im := (L.getD a []).map Ix.im
def Wanted (g : Gr.Gm) (xs : List Int) (L : List (List Ix)) (a : Nat) (y : Ch.Im) : Prop := ∀ z ∈ (Ch.outI g xs (rowI L) a y).1, (Ch.outI g xs (rowI L) a y).2 < L.length → z ∈ rowI L (Ch.outI g xs (rowI L) a y).2
theorem row_ix {g : Gr.Gm} {m : Nat} {L : List (List Ix)} (h : keepB g m L = true) {a : Nat} {l : List Ix} (hl : L[a]? = some l) : rowI L a = l.map Ix.im ∧ (rowI L a).map Ch.Im.ix = l := by
  have e : L.getD a [] = l := by rw [List.getD_eq_getElem?_getD, hl]; rfl
  unfold rowI
  rw [e]
  refine ⟨rfl, ?_⟩
  rw [List.map_map]
  have h2 : l.map (Ch.Im.ix ∘ Ix.im) = l.map id := List.map_congr_left fun x hx => by
    obtain ⟨y, rfl, _, _⟩ := standB_iff.1 ((keepB_ok h).2.2.2 _ l hl x hx)
    show (y.ix.im).ix = y.ix
    rw [ix_im]
  rw [h2, List.map_id]
theorem mem_row {g : Gr.Gm} {m : Nat} {L : List (List Ix)} (h : keepB g m L = true) {a : Nat} {y : Ch.Im} : (a, y) ∈ putS (doneS L L.length 0) ↔ a < L.length ∧ y ∈ rowI L a := by
  rw [kept_all h]
  constructor
  · rintro ⟨l, hl, hy⟩
    refine ⟨Ch.lt_of_get hl, ?_⟩
    rw [(row_ix h hl).1]
    exact List.mem_map.2 ⟨_, hy, ix_im y⟩
  · rintro ⟨ha, hy⟩
    have hl : L[a]? = some L[a] := List.getElem?_eq_getElem ha
    refine ⟨_, hl, ?_⟩
    have h2 := (row_ix h hl).2
    rw [← h2]
    exact List.mem_map.2 ⟨y, hy, rfl⟩
theorem begL_iff {g : Gr.Gm} {n : Int} {a : Nat} {s : St4} : s ∈ begL g (n, a) ↔ s.1 = a ∧ s.2 ∈ Ch.begs g a n := by
  unfold begL Ch.begs
  rw [List.mem_map, List.mem_map]
  constructor
  · rintro ⟨i, hi, rfl⟩
    exact ⟨rfl, i, hi, rfl⟩
  · rintro ⟨h1, i, hi, h2⟩
    refine ⟨i, hi, ?_⟩
    obtain ⟨s1, s2⟩ := s
    simp only at h1 h2
    rw [h1, ← h2]
theorem mem_lets {g : Gr.Gm} {n : Int} {l : List Ch.Im} {z : Ch.Im} : z ∈ Ch.lets g n l ↔ ∃ y ∈ l, Ch.wants g n y = true ∧ z = Ch.behind y := by
  unfold Ch.lets
  rw [List.mem_map]
  constructor
  · rintro ⟨y, hy, rfl⟩
    rw [List.mem_filter] at hy
    exact ⟨y, hy.1, hy.2, rfl⟩
  · rintro ⟨y, hy, h, rfl⟩
    exact ⟨y, List.mem_filter.2 ⟨hy, h⟩, rfl⟩
theorem wants_iff {g : Gr.Gm} {n : Int} {a : Nat} {y : Ch.Im} : Ch.wants g n y = true ↔ Ch.waitOf g (a, y) = some (n, a) := by
  unfold Ch.wants Ch.waitOf
  cases Ch.symAt g y with
  | none => simp
  | some s => cases hn : s.non <;> simp [hn]
theorem waitL_iff {g : Gr.Gm} {P : List St4} {n : Int} {a : Nat} {y : Ch.Im} : y ∈ Ch.waitL g P (n, a) ↔ (a, y) ∈ P ∧ Ch.wants g n y = true := by
  unfold Ch.waitL
  rw [List.mem_map]
  constructor
  · rintro ⟨t, ht, rfl⟩
    rw [List.mem_filter, decide_eq_true_eq] at ht
    obtain ⟨t1, t2⟩ := t
    have h2 := ht.2
    have e : t1 = a := by
      unfold Ch.waitOf at h2
      simp only at h2
      cases hs : Ch.symAt g t2 with
      | none => rw [hs] at h2; cases h2
      | some s =>
        rw [hs] at h2
        simp only at h2
        split at h2
        · injection h2 with h2
          injection h2 with _ h2
        · cases h2
    subst e
    exact ⟨ht.1, (wants_iff (a := t1)).2 h2⟩
  · rintro ⟨h1, h2⟩
    exact ⟨(a, y), List.mem_filter.2 ⟨h1, decide_eq_true (wants_iff.1 h2)⟩, rfl⟩
theorem endL_iff {g : Gr.Gm} {P : List St4} {e : Int × Nat × Nat} : e ∈ Ch.endL g P ↔ ∃ (x : Ch.Im) (p : Gr.Pr), (e.2.2, x) ∈ P ∧ g.prods[x.prod]? = some p ∧ x.dot = p.right.length ∧ e.1 = p.left ∧ e.2.1 = x.frm := by
  unfold Ch.endL
  rw [List.mem_filterMap]
  constructor
  · rintro ⟨t, ht, h⟩
    unfold Ch.endOf at h
    cases hp : g.prods[t.2.prod]? with
    | none => rw [hp] at h; cases h
    | some p =>
      rw [hp] at h
      simp only at h
      split at h
      · rename_i hd
        injection h with h
        subst h
        exact ⟨t.2, p, ht, hp, hd, rfl, rfl⟩
      · cases h
  · rintro ⟨x, p, h1, h2, h3, h4, h5⟩
    refine ⟨(e.2.2, x), h1, ?_⟩
    unfold Ch.endOf
    rw [h2]
    simp only
    rw [if_pos h3, ← h4, ← h5]
/-- What the reference asks, once all items may be. -/
theorem rall_iff {g : Gr.Gm} {xs : List Int} {L : List (List Ix)} (h : keepB g xs.length L = true) : ((∀ y ∈ Ch.begs g 0 g.start, y ∈ rowI L 0) ∧ ∀ a, a < L.length → ∀ y ∈ rowI L a, Wanted g xs L a y) ↔ AllIn g xs (L.length - 1) (putS (doneS L L.length 0)) := by
  have h0 := (keepB_ok h).2.1
  have hin : ∀ {a : Nat} {y : Ch.Im}, a < L.length → y ∈ rowI L a → imIn g y ∧ y.frm ≤ a := fun ha hy => (kept_fine h ((mem_row h).2 ⟨ha, hy⟩)).2
  constructor
  · rintro ⟨h1, h2⟩
    refine ⟨fun s hs => ?_, ?_, ?_, ?_⟩
    · obtain ⟨e1, e2⟩ := begL_iff.1 hs
      obtain ⟨s1, s2⟩ := s
      simp only at e1 e2
      subst e1
      exact (mem_row h).2 ⟨h0, h1 _ e2⟩
    · rintro ⟨s1, s2⟩ ⟨⟨n, a⟩, hx, hs⟩
      obtain ⟨y, hy⟩ := List.exists_mem_of_ne_nil _ hx
      obtain ⟨hP, hw⟩ := waitL_iff.1 hy
      obtain ⟨ha, hr⟩ := (mem_row h).1 hP
      obtain ⟨e1, e2⟩ := begL_iff.1 hs
      simp only at e1 e2
      subst e1
      have h3 := h2 _ ha y hr
      unfold Ch.wants at hw
      cases hsy : Ch.symAt g y with
      | none => rw [hsy] at hw; cases hw
      | some s =>
        rw [hsy] at hw
        simp only [Bool.and_eq_true, decide_eq_true_eq] at hw
        have ho : Ch.outI g xs (rowI L) s1 y = (Ch.begs g s1 s.n, s1) := by unfold Ch.outI; rw [hsy]; simp only; rw [if_pos hw.1]
        unfold Wanted at h3
        rw [ho] at h3
        exact (mem_row h).2 ⟨ha, h3 _ (by rw [hw.2]; exact e2) ha⟩
    · rintro s ⟨⟨a, x⟩, ht, y, hy, hn, hlt, hw, rfl⟩
      simp only at hlt hw hy
      obtain ⟨ha, hr⟩ := (mem_row h).1 ht
      have h3 := h2 _ ha x hr
      have ho : Ch.outI g xs (rowI L) a x = ([Ch.behind x], a + 1) := by unfold Ch.outI; rw [hy]; simp only; rw [if_neg (by rw [hn]; simp), if_pos hw]
      unfold Wanted at h3
      rw [ho] at h3
      exact (mem_row h).2 ⟨by show a + 1 < _; omega, h3 _ (List.mem_singleton.2 rfl) (by show a + 1 < _; omega)⟩
    · rintro s ⟨e, he, y, hy, rfl⟩
      obtain ⟨x, p, h1', h2', h3', h4', h5'⟩ := endL_iff.1 he
      obtain ⟨ha, hr⟩ := (mem_row h).1 h1'
      obtain ⟨hyP, hyw⟩ := waitL_iff.1 hy
      obtain ⟨hf, hyr⟩ := (mem_row h).1 hyP
      have h3 := h2 _ ha x hr
      have hd : x.dot ≤ p.right.length := Nat.le_of_eq h3'
      have hnone : Ch.symAt g x = none := (Ch.symAt_none h2' hd).2 h3'
      have ho : Ch.outI g xs (rowI L) e.2.2 x = (Ch.lets g (Ch.leftOf g x) (rowI L x.frm), e.2.2) := by unfold Ch.outI; rw [hnone]
      unfold Wanted at h3
      rw [ho] at h3
      refine (mem_row h).2 ⟨ha, h3 _ (mem_lets.2 ⟨y, by rw [← h5']; exact hyr, ?_, rfl⟩) ha⟩
      rw [Ch.leftOf_eq h2', ← h4']
      exact hyw
  · rintro ⟨h1, h2, h3, h4⟩
    refine ⟨fun y hy => ((mem_row h).1 (h1 (0, y) (begL_iff.2 ⟨rfl, hy⟩))).2, fun a ha x hx z hz hp => ?_⟩
    have hxP := (mem_row h).2 ⟨ha, hx⟩
    obtain ⟨⟨p, hpp, hd⟩, hfr⟩ := hin ha hx
    cases hs : Ch.symAt g x with
    | none =>
      have ho : Ch.outI g xs (rowI L) a x = (Ch.lets g (Ch.leftOf g x) (rowI L x.frm), a) := by unfold Ch.outI; rw [hs]
      rw [ho] at hz ⊢
      obtain ⟨y, hy, hw, rfl⟩ := mem_lets.1 hz
      rw [Ch.leftOf_eq hpp] at hw
      have hyP := (mem_row h).2 ⟨Nat.lt_of_le_of_lt hfr ha, hy⟩
      exact ((mem_row h).1 (h4 (a, Ch.behind y) ⟨(p.left, x.frm, a), mem_end hxP hpp ((Ch.symAt_none hpp hd).1 hs), y, waitL_iff.2 ⟨hyP, hw⟩, rfl⟩)).2
    | some s =>
      cases hn : s.non with
      | true =>
        have ho : Ch.outI g xs (rowI L) a x = (Ch.begs g a s.n, a) := by unfold Ch.outI; rw [hs]; simp only; rw [if_pos hn]
        rw [ho] at hz ⊢
        have hw : Ch.wants g s.n x = true := by unfold Ch.wants; rw [hs]; simp [hn]
        refine ((mem_row h).1 (h2 (a, z) ⟨(s.n, a), fun e => ?_, begL_iff.2 ⟨rfl, hz⟩⟩)).2
        have := waitL_iff.2 ⟨hxP, hw⟩
        rw [e] at this
        cases this
      | false =>
        by_cases hw : xs[a]? = some s.n
        · have ho : Ch.outI g xs (rowI L) a x = ([Ch.behind x], a + 1) := by unfold Ch.outI; rw [hs]; simp only; rw [if_neg (by rw [hn]; simp), if_pos hw]
          rw [ho] at hz hp ⊢
          rw [List.mem_singleton] at hz
          subst hz
          exact ((mem_row h).1 (h3 (a + 1, Ch.behind x) ⟨(a, x), hxP, s, hs, hn, by show a < _; simp only at hp; omega, hw, rfl⟩)).2
        · have ho : Ch.outI g xs (rowI L) a x = ([], a) := by unfold Ch.outI; rw [hs]; simp only; rw [if_neg (by rw [hn]; simp), if_neg hw]
          rw [ho] at hz
          cases hz
end Go.Proofs.Ytdfhhbncmdpoeaa
