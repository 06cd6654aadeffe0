/- Things of so many cells each, one behind the other, as a row of cells. No program is named here. -/
import Derived.Test.YtckckejgocbkkaaWMem
namespace Go.Proofs.Ytckckejgocbkkaa
open Go.RowKit

/-- Things of m cells each. -/
def rowN {α : Type} (f : α → List Value) (l : List α) : List Value := l.flatMap f
section
variable {α : Type} {f : α → List Value} {m : Nat}
theorem rowN_nil : rowN f [] = [] := rfl
theorem rowN_cons (x : α) (l : List α) : rowN f (x :: l) = f x ++ rowN f l := rfl
theorem rowN_append (a b : List α) : rowN f (a ++ b) = rowN f a ++ rowN f b := by simp [rowN]
theorem rowN_snoc (a : List α) (x : α) : rowN f (a ++ [x]) = rowN f a ++ f x := by simp [rowN]
theorem rowN_len (hf : ∀ x, (f x).length = m) (l : List α) : (rowN f l).length = l.length * m := by
  induction l with
  | nil => simp [rowN]
  | cons x l ih => rw [rowN_cons, List.length_append, hf, ih, List.length_cons, Nat.succ_mul]; omega
theorem rowN_at (hf : ∀ x, (f x).length = m) : ∀ (l : List α) (i j : Nat) (h : i < l.length), j < m → (rowN f l)[i * m + j]? = (f l[i])[j]?
  | [], _, _, h, _ => by simp at h
  | x :: l, 0, j, _, hj => by
    rw [rowN_cons, Nat.zero_mul, Nat.zero_add, List.getElem?_append_left (by rw [hf]; exact hj)]
    rfl
  | x :: l, i + 1, j, h, hj => by
    have ih := rowN_at hf l i j (by simpa using h) hj
    rw [rowN_cons, List.getElem?_append_right (by rw [hf, Nat.succ_mul]; omega), hf, Nat.succ_mul, show i * m + m + j - m = i * m + j by omega]
    exact ih
theorem rowN_one (hf : ∀ x, ∀ u ∈ f x, u.oneCell' = true) (l : List α) : ∀ u ∈ rowN f l, u.oneCell' = true := by
  intro u hu
  obtain ⟨x, _, hx⟩ := List.mem_flatMap.1 hu
  exact hf x u hx
theorem Rd.thing {w : World} {B : Nat} {A : Option Addr} {l : List α} (hf : ∀ x, (f x).length = m) (hm : 0 < m) (h : Rd w B A (rowN f l)) {i : Nat} (hi : i < l.length) :
    ∃ b off, A = some ⟨b, off, none⟩ ∧ b < B ∧ ∀ j u, (f l[i])[j]? = some u → w.cell? ⟨b, off + i * m + j, none⟩ = some u := by
  obtain ⟨b, off, e, hb, hc⟩ := h (by rw [rowN_len hf]; exact Nat.mul_pos (by omega) hm)
  refine ⟨b, off, e, hb, fun j u hu => ?_⟩
  have hj : j < m := by
    rcases Nat.lt_or_ge j m with h | h
    · exact h
    · rw [List.getElem?_eq_none (by rw [hf]; exact h)] at hu; cases hu
  rw [Nat.add_assoc]
  exact hc (i * m + j) u (by rw [rowN_at hf l i j hi hj]; exact hu)
/-- A slice of such things, of which each opens, reads as a row. -/
theorem rd_things {w : World} {a : Addr} {len : Nat} (hf : ∀ x, (f x).length = m) (hm : 0 < m) (key : ∀ i, i < len → ∃ x : α, ∀ j u, (f x)[j]? = some u → w.cell? ((a.add (i * m)).add j) = some u) :
    ∃ xs : List α, xs.length = len ∧ Rd w w.heap.size (some a) (rowN f xs) := by
  have hk := Classical.skolem.1 fun i : Fin len => key i i.2
  obtain ⟨X, hX⟩ := hk
  refine ⟨List.ofFn X, by simp, ?_⟩
  intro hn
  rw [rowN_len hf, List.length_ofFn] at hn
  have hlen : 0 < len := Nat.pos_of_ne_zero fun e => by subst e; simp at hn
  have h0 := hX ⟨0, hlen⟩ 0 _ (List.getElem?_eq_getElem (by rw [hf]; exact hm))
  obtain ⟨b, off, spot⟩ := a
  have hspot : spot = none := by simpa [Addr.add] using World.cell?_spot h0
  subst hspot
  have e : ∀ o j, (⟨b, o, none⟩ : Addr).add j = ⟨b, o + j, none⟩ := fun o j => by unfold Addr.add; split <;> simp_all
  refine ⟨b, off, rfl, by have := World.block_lt_of_cell? w _ h0; simpa [Addr.add] using this, fun j u hu => ?_⟩
  have hj : j < len * m := by
    rcases Nat.lt_or_ge j (len * m) with h | h
    · exact h
    · rw [List.getElem?_eq_none (by rw [rowN_len hf, List.length_ofFn]; exact h)] at hu; cases hu
  have hi : j / m < len := Nat.div_lt_of_lt_mul (by rw [Nat.mul_comm]; exact hj)
  have hr : j % m < m := Nat.mod_lt _ hm
  have ej : j / m * m + j % m = j := by rw [Nat.mul_comm]; exact Nat.div_add_mod j m
  have r := rowN_at hf (List.ofFn X) (j / m) (j % m) (by rw [List.length_ofFn]; exact hi) hr
  rw [ej, hu, List.getElem_ofFn] at r
  have q := hX ⟨j / m, hi⟩ (j % m) u r.symm
  rw [e, e, Nat.add_assoc, ej] at q
  exact q
end
end Go.Proofs.Ytckckejgocbkkaa
