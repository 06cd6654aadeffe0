/- What follows: the facts show what is reached; what shows is right; what stands in a production of who is reached is reached. -/
import Derived.Test.YthjaidaibpdamaaEAwake
namespace Go.Proofs.Ythjaidaibpdamaa
open Go.RowKit

section
variable {t n s : Int} {ps : List Gr.Pr} {l : List Fc}
theorem eshowsB_true (h : eshowsB ⟨t, n, s, ps⟩ l = true) : okB ⟨t, n, s, ps⟩ = true ∧ (l.length : Int) = n ∧ l[s.toNat]? = some ⟨1, 0⟩ ∧ ∀ m (hm : m < l.length), m ≠ s.toNat → eOne ps l (m : Int) l[m] = true := by
  unfold eshowsB at h
  rw [Bool.and_eq_true, Bool.and_eq_true, Bool.and_eq_true, decide_eq_true_eq, decide_eq_true_eq, List.all_eq_true] at h
  obtain ⟨⟨⟨h1, h2⟩, h3⟩, h4⟩ := h
  refine ⟨h1, h2, h3, fun m hm hne => ?_⟩
  have := h4 m (List.mem_range.2 hm)
  rw [List.getElem?_eq_getElem hm] at this
  simp only at this
  rw [decide_eq_false hne, Bool.false_or] at this
  exact this
theorem eOne_true {non : Int} {f : Fc} (h : eOne ps l non f = true) (hf : 0 < f.rank) : ∃ k : Nat, ∃ hk : k < ps.length, f.prod = (k : Int) ∧ 1 ≤ rkz l ps[k].left.toNat ∧ rkz l ps[k].left.toNat < f.rank ∧ syHas non ps[k].right = true := by
  unfold eOne at h
  rw [if_neg (by omega), Bool.and_eq_true, decide_eq_true_eq] at h
  obtain ⟨h0, h1⟩ := h
  split at h1
  · rename_i p hp
    obtain ⟨hk, e⟩ := List.getElem?_eq_some_iff.1 hp
    rw [Bool.and_eq_true, decide_eq_true_eq] at h1
    exact ⟨f.prod.toNat, hk, by omega, by rw [e]; exact h1.1.1, by rw [e]; exact h1.1.2, by rw [e]; exact h1.2⟩
  · cases h1
theorem reachOf_at (hok : okB ⟨t, n, s, ps⟩ = true) {m : Nat} (h : m < (reachOf ⟨t, n, s, ps⟩).length) :
    (reachOf ⟨t, n, s, ps⟩)[m] = ⟨(Rk.rk (Rc.reach ps n.toNat s.toNat) m : Int), (((Rc.reach ps n.toNat s.toNat).getD m (0, 0)).2 : Int)⟩ := by
  have e := reachOf_ok hok
  revert h
  rw [e]
  intro h
  have e1 := fz_rank _ m h
  have e2 := fz_prod _ m h
  show (fz (Rc.reach ps n.toNat s.toNat))[m] = _
  generalize (fz (Rc.reach ps n.toNat s.toNat))[m] = x at *
  obtain ⟨xr, xp⟩ := x
  simp only at e1 e2
  rw [e1, e2]
/-- The facts show what is reached. -/
theorem eshows_own (hok : okB ⟨t, n, s, ps⟩ = true) : eshowsB ⟨t, n, s, ps⟩ (reachOf ⟨t, n, s, ps⟩) = true := by
  obtain ⟨n1, n2, n3⟩ := ok_nons hok
  obtain ⟨s1, s2⟩ := ok_start hok
  obtain ⟨st, rfl⟩ : ∃ st : Nat, s = (st : Int) := ⟨s.toNat, by omega⟩
  have hst : st < n.toNat := by omega
  have hl : (reachOf ⟨t, n, (st : Int), ps⟩).length = n.toNat := reachOf_len hok
  have hat := fun m (h : m < (reachOf ⟨t, n, (st : Int), ps⟩).length) => reachOf_at hok h
  have hrk : ∀ m, rkz (reachOf ⟨t, n, (st : Int), ps⟩) m = (Rk.rk (Rc.reach ps n.toNat st) m : Int) := by
    intro m
    rw [reachOf_ok hok, rkz_fz]
    rfl
  refine eshowsB_all hok (by omega) ?_ fun m hm _ hne => ?_
  · rw [List.getElem?_eq_getElem (by omega), hat st (by omega)]
    have e := Rc.at_start ps hst
    have e2 := Rc.rk_start ps hst
    rw [Int.toNat_natCast, e, e2]
    rfl
  · rw [hat m hm, Int.toNat_natCast]
    by_cases h0 : Rk.rk (Rc.reach ps n.toNat st) m = 0
    · have hz := Rc.rank_zero ps hst m h0
      rw [hz, h0]
      exact (eOne_low (by decide)).trans rfl
    · obtain ⟨p, hp, hps, h1, h2⟩ := Rc.shown ps hst hne h0
      obtain ⟨hk, hpe⟩ := List.getElem?_eq_some_iff.1 hp
      rw [eOne_at (by omega) hk, hpe, hrk, syHas_stands, hps, Bool.and_true]
      exact decide_eq_true (by omega)
/-- What shows is right. -/
theorem eshows_right (h : eshowsB ⟨t, n, s, ps⟩ l = true) {m : Nat} (hm : m < l.length) (hf : 0 < l[m].rank) (ho : m < (reachOf ⟨t, n, s, ps⟩).length) :
    (reachOf ⟨t, n, s, ps⟩)[m].rank ≠ 0 ∧ (reachOf ⟨t, n, s, ps⟩)[m].rank ≤ l[m].rank := by
  obtain ⟨hok, hl, hst, hs⟩ := eshowsB_true h
  obtain ⟨n1, n2, n3⟩ := ok_nons hok
  obtain ⟨s1, s2⟩ := ok_start hok
  have hsl : s.toNat < n.toNat := by omega
  have h1 : rkz l s.toNat = 1 := by
    unfold rkz
    rw [hst]
  have key := Rc.least ps hsl (R := rkz l) h1 (fun k hk hne hr => by
    have hkl : k < l.length := by omega
    rw [rkz_at hkl] at hr
    obtain ⟨i, hi, _, g1, g2, g3⟩ := eOne_true (hs k hkl hne) hr
    obtain ⟨⟨o1, o2⟩, _⟩ := ok_syms hok hi
    rw [← rkz_at hkl] at g2
    exact ⟨ps[i], List.getElem_mem hi, by rw [← syHas_stands]; exact g3, by omega, by omega, g2⟩)
  have e := rkz_at hm
  have := key (rkz l m).toNat m (by omega) (by omega) (Nat.le_refl _)
  rw [reachOf_at hok ho]
  simp only
  omega
/-- What stands in a production of who is reached is reached. -/
theorem reach_on (hok : okB ⟨t, n, s, ps⟩ = true) {i j : Nat} (hi : i < ps.length) (hj : j < ps[i].right.length) (hn : ps[i].right[j].non = true) (ho : ps[i].left.toNat < (reachOf ⟨t, n, s, ps⟩).length) (ho2 : ps[i].right[j].n.toNat < (reachOf ⟨t, n, s, ps⟩).length)
    (h : 0 < (reachOf ⟨t, n, s, ps⟩)[ps[i].left.toNat].rank) : (reachOf ⟨t, n, s, ps⟩)[ps[i].right[j].n.toNat].rank ≠ 0 ∧ (reachOf ⟨t, n, s, ps⟩)[ps[i].right[j].n.toNat].rank ≤ (reachOf ⟨t, n, s, ps⟩)[ps[i].left.toNat].rank + 1 := by
  obtain ⟨n1, n2, n3⟩ := ok_nons hok
  obtain ⟨s1, s2⟩ := ok_start hok
  have hsl : s.toNat < n.toNat := by omega
  obtain ⟨_, _, o4⟩ := ok_syms hok hi
  have hx := o4 _ (List.getElem_mem hj) hn
  rw [reachOf_at hok ho] at h ⊢
  rw [reachOf_at hok ho2]
  simp only at h ⊢
  have := Rc.on ps hsl (List.getElem_mem hi) (n := ps[i].right[j].n.toNat) (by omega) (by
    unfold Rc.stands
    rw [List.any_eq_true]
    exact ⟨_, List.getElem_mem hj, by rw [hn, Bool.true_and]; exact decide_eq_true (by omega)⟩) (by omega)
  omega
end
end Go.Proofs.Ythjaidaibpdamaa
