/- Productions that are somebody's own: a row of them, and a row of symbols for each, all apart. No program is named here, but for two types' numbers. -/
import Derived.Test.YtlfobnpkfloolaaGMem
namespace Go.Proofs.Ytlfobnpkfloolaa
open Go.RowKit

theorem Rd.ownAny {w : World} {base n c size : Nat} {e : TypeId} {A : Option Addr} {xs : List Value} (h : w.ownsRow base e size (.slice A n c) n xs) : Rd w w.heap.size A xs := by
  rcases h.2 with ⟨hv, rfl⟩ | ⟨g, cap, cur, hv, _, hg, _, _, _, _⟩
  · have : xs = [] := List.eq_nil_of_length_eq_zero (by simpa using h.1)
    subst this; exact Rd.nil
  · have hA : A = some ⟨g, 0, none⟩ := by injection hv
    subst hA
    intro _
    have hlt : g < w.heap.size := (h.lt g rfl).2
    refine ⟨g, 0, rfl, hlt, fun j u hu => ?_⟩
    have := h.cells (g := g) rfl j u hu
    unfold Addr.add at this
    split at this
    · rename_i hj; subst hj; simpa using this
    · simpa using this
/-- What a slice's append reads. -/
theorem Rd.add {w : World} {B : Nat} {ad : Addr} {xs : List Value} (h : Rd w B (some ad) xs) : ∀ j u, xs[j]? = some u → w.cell? (ad.add j) = some u := by
  intro j u hu
  have hpos : 0 < xs.length := by
    rcases Nat.lt_or_ge j xs.length with h | h
    · omega
    · rw [List.getElem?_eq_none h] at hu; cases hu
  obtain ⟨b, off, h, _, hcell⟩ := h hpos
  injection h with h
  subst h
  have e : (⟨b, off, none⟩ : Addr).add j = ⟨b, off + j, none⟩ := by unfold Addr.add; split <;> simp_all
  rw [e]; exact hcell j u hu
theorem Rd.here {w : World} {B : Nat} {A : Option Addr} {xs : List Value} (h : Rd w B A xs) : Rd w w.heap.size A xs := fun hn => by
  obtain ⟨b, off, e, _, hc⟩ := h hn
  exact ⟨b, off, e, World.block_lt_of_cell? w ⟨b, off + 0, none⟩ (hc 0 _ (List.getElem?_eq_getElem hn)), hc⟩

def Ph.v (h : Ph) : Value := .slice h.at_ h.right.length h.cap
/-- Two productions' symbols lie apart. -/
def Ph.apart (a b : Ph) : Prop := ∀ g, a.v.ownBlock = some g → b.v.ownBlock ≠ some g
/-- A production's symbols are a row of one's own. -/
def Ph.own (w : World) (base : Nat) (h : Ph) : Prop := w.ownsRow base 46 2 h.v h.right.length (syRow h.right)
/-- Productions of one's own. -/
def OwnPrs (w : World) (base : Nat) (v : Value) (hs : List Ph) : Prop :=
  w.ownsRow base 43 2 v hs.length (phRow hs) ∧ (∀ h ∈ hs, h.own w base) ∧ hs.Pairwise Ph.apart

section
variable {w w' : World} {base : Nat} {v : Value} {hs : List Ph}
theorem OwnPrs.row (h : OwnPrs w base v hs) : w.ownsRow base 43 2 v hs.length (phRow hs) := h.1
theorem OwnPrs.bl (h : OwnPrs w base v hs) (hb : Bl w w') : OwnPrs w' base v hs := ⟨own_bl h.1 hb, fun x hx => own_bl (h.2.1 x hx) hb, h.2.2⟩
theorem OwnPrs.form (h : OwnPrs w base v hs) : ∃ A c, v = .slice A hs.length c := by obtain ⟨A, c, e, _⟩ := own_form h.1; exact ⟨A, c, e⟩
theorem OwnPrs.prs {A : Option Addr} {n c : Nat} (h : OwnPrs w base (.slice A n c) hs) : Prs w w.heap.size A (hs.map Ph.pr) := by
  obtain ⟨A', c', e, _⟩ := own_form h.1
  have hn : n = hs.length := by injection e
  subst hn
  exact ⟨hs, rfl, Rd.ownAny h.1, fun x hx => Rd.ownAny (h.2.1 x hx)⟩
end

/-! Rows of two cells, one of which is set. -/
theorem row2_set1 {α : Type} {f g : α → Value} : ∀ (l : List α) (i : Nat) (y : α) (h : i < l.length), f y = f l[i] → (row2 f g l).set (i * 2 + 1) (g y) = row2 f g (l.set i y)
  | [], _, _, h, _ => by simp at h
  | x :: l, 0, y, _, e => by
    have e : f y = f x := e
    simp [row2_cons, e]
  | x :: l, i + 1, y, h, e => by
    have ih := row2_set1 (f := f) (g := g) l i y (by simpa using h) e
    rw [row2_cons, show (i + 1) * 2 + 1 = (i * 2 + 1) + 1 + 1 by omega]
    simp only [List.set_cons_succ, row2_cons]
    rw [ih]
theorem row2_set0 {α : Type} {f g : α → Value} : ∀ (l : List α) (i : Nat) (y : α) (h : i < l.length), g y = g l[i] → (row2 f g l).set (i * 2) (f y) = row2 f g (l.set i y)
  | [], _, _, h, _ => by simp at h
  | x :: l, 0, y, _, e => by
    have e : g y = g x := e
    simp [row2_cons, e]
  | x :: l, i + 1, y, h, e => by
    have ih := row2_set0 (f := f) (g := g) l i y (by simpa using h) e
    rw [row2_cons, show (i + 1) * 2 = (i * 2) + 1 + 1 by omega]
    simp only [List.set_cons_succ, row2_cons]
    rw [ih]
theorem mid_set {α : Type} {ks hs : List α} {k : Nat} (hk : ks.length = k) (h : k < hs.length) (y : α) : (ks ++ hs.drop k).set k y = (ks ++ [y]) ++ hs.drop (k + 1) := by
  subst hk
  rw [List.drop_eq_getElem_cons h, List.set_append_right _ _ (Nat.le_refl _), Nat.sub_self, List.set_cons_zero, List.append_assoc]
  rfl
theorem mid_at {α : Type} {ks hs : List α} {k : Nat} (hk : ks.length = k) (h : k < hs.length) (h' : k < (ks ++ hs.drop k).length) : (ks ++ hs.drop k)[k] = hs[k] := by
  subst hk
  rw [List.getElem_append_right (Nat.le_refl _)]
  simp
theorem mid_len {α : Type} {ks hs : List α} {k : Nat} (hk : ks.length = k) (h : k ≤ hs.length) : (ks ++ hs.drop k).length = hs.length := by
  rw [List.length_append, List.length_drop]; omega
end Go.Proofs.Ytlfobnpkfloolaa
