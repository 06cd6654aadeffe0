/- What follows: the facts show ranks; and what shows a rank is right. -/
import Derived.Test.YtmclegbobjkpjaaKAwake
namespace Go.Proofs.Ytmclegbobjkpjaa
open Go.RowKit

section
variable {terms : Bool} {t n s : Int} {ps : List Gr.Pr} {l : List Fc}
theorem showsB_true (h : showsB terms ⟨t, n, s, ps⟩ l = true) : okB ⟨t, n, s, ps⟩ = true ∧ (l.length : Int) = n ∧ ∀ m (hm : m < l.length), showOne terms ps l (m : Int) l[m] = true := by
  unfold showsB at h
  rw [Bool.and_eq_true, Bool.and_eq_true, decide_eq_true_eq, List.all_eq_true] at h
  obtain ⟨⟨h1, h2⟩, h3⟩ := h
  refine ⟨h1, h2, fun m hm => ?_⟩
  have := h3 m (List.mem_range.2 hm)
  rw [List.getElem?_eq_getElem hm] at this
  exact this
theorem showOne_true {non : Int} {f : Fc} (h : showOne terms ps l non f = true) (hf : 0 < f.rank) : ∃ k : Nat, ∃ hk : k < ps.length, f.prod = (k : Int) ∧ ps[k].left = non ∧ leansB terms l f.rank ps[k].right = true := by
  unfold showOne at h
  rw [if_neg (by omega), Bool.and_eq_true] at h
  obtain ⟨h1, h2⟩ := h
  obtain ⟨k, e, hk, hl⟩ := hasPr_some h1
  rw [e, rightOf_at hk] at h2
  exact ⟨k, hk, e, hl, h2⟩
theorem leansB_sym {r : Int} {right : List Gr.Sy} (h : leansB terms l r right = true) {x : Gr.Sy} (hx : x ∈ right) : (x.non = true → 0 < rkz l x.n.toNat ∧ rkz l x.n.toNat < r) ∧ (x.non = false → terms = true) := by
  unfold leansB at h
  rw [List.all_eq_true] at h
  have h1 := h x hx
  unfold leanS at h1
  constructor
  · intro e
    rw [if_pos e] at h1
    have := of_decide_eq_true h1
    omega
  · intro e
    rw [if_neg (by rw [e]; decide)] at h1
    exact h1
/-- The facts show ranks. -/
theorem shows_own (hok : okB ⟨t, n, s, ps⟩ = true) : showsB terms ⟨t, n, s, ps⟩ (factsOf terms ⟨t, n, s, ps⟩) = true := by
  obtain ⟨n1, n2, n3⟩ := ok_nons hok
  have hl := factsOf_len (terms := terms) hok
  have hl : (factsOf terms ⟨t, n, s, ps⟩).length = n.toNat := hl
  refine showsB_all hok (by omega) fun m hm _ => ?_
  have hmn : m < n.toNat := by omega
  have er : ∀ (h : m < (factsOf terms ⟨t, n, s, ps⟩).length), (factsOf terms ⟨t, n, s, ps⟩)[m] = ⟨(Rk.rk (Rk.ranks terms ps n.toNat) m : Int), (((Rk.ranks terms ps n.toNat).getD m (0, 0)).2 : Int)⟩ := by
    rw [factsOf_ok hok]
    intro h
    have e1 := fz_rank _ m h
    have e2 := fz_prod _ m h
    generalize (fz (Rk.ranks terms ps n.toNat))[m] = x at *
    obtain ⟨xr, xp⟩ := x
    simp only at e1 e2
    rw [e1, e2]
  rw [er hm, factsOf_ok hok]
  show showOne terms ps (fz (Rk.ranks terms ps n.toNat)) (m : Int) _ = true
  by_cases h0 : Rk.rk (Rk.ranks terms ps n.toNat) m = 0
  · have hz := Rk.rank_zero terms ps n.toNat m h0
    rw [hz, h0]
    unfold showOne
    rw [if_pos (by decide)]
    rfl
  · obtain ⟨p, hp, hpl, hps⟩ := Rk.shown terms ps n.toNat m h0
    obtain ⟨hk, hpe⟩ := List.getElem?_eq_some_iff.1 hp
    unfold showOne
    rw [if_neg (by show ¬ ((Rk.rk (Rk.ranks terms ps n.toNat) m : Nat) : Int) < 1; omega)]
    rw [hasPr_yes hk (by rw [hpe]; exact hpl), Bool.true_and, rightOf_at hk, leansB_fz]
    exact List.all_eq_true.2 (by rw [hpe]; exact hps)
/-- What shows a rank is right. -/
theorem shows_right (h : showsB terms ⟨t, n, s, ps⟩ l = true) {m : Nat} (hm : m < l.length) (hf : 0 < l[m].rank) (ho : m < (factsOf terms ⟨t, n, s, ps⟩).length) :
    (factsOf terms ⟨t, n, s, ps⟩)[m].rank ≠ 0 ∧ (factsOf terms ⟨t, n, s, ps⟩)[m].rank ≤ l[m].rank := by
  obtain ⟨hok, hl, hs⟩ := showsB_true h
  obtain ⟨n1, n2, n3⟩ := ok_nons hok
  have key : Rk.Shows terms ps n.toNat (rkz l) := by
    intro k hk hr
    have hkl : k < l.length := by omega
    rw [rkz_at hkl] at hr
    obtain ⟨i, hi, _, h2, h3⟩ := showOne_true (hs k hkl) hr
    refine ⟨ps[i], List.getElem_mem hi, h2, fun x hx => ?_⟩
    obtain ⟨g1, g2⟩ := leansB_sym h3 hx
    obtain ⟨_, _, o3⟩ := ok_syms hok hi
    refine ⟨fun e => ?_, g2⟩
    have := g1 e
    have := o3 x hx e
    rw [rkz_at hkl]
    omega
  have := Rk.shows_least terms ps n.toNat key _ m (by omega) (by rw [rkz_at hm]; exact hf) (Nat.le_refl _)
  rw [rkz_at hm] at this
  have er : (factsOf terms ⟨t, n, s, ps⟩)[m].rank = (Rk.rk (Rk.ranks terms ps n.toNat) m : Int) := by
    have : ∀ (h : m < (factsOf terms ⟨t, n, s, ps⟩).length), (factsOf terms ⟨t, n, s, ps⟩)[m].rank = (Rk.rk (Rk.ranks terms ps n.toNat) m : Int) := by
      rw [factsOf_ok hok]
      exact fun h => fz_rank _ m h
    exact this ho
  rw [er]
  omega
end
end Go.Proofs.Ytmclegbobjkpjaa
