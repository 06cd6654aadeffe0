/- Facts as a call leaves them, and small words for laws. No type of facts is named here. -/
import Derived.Test.YtmdepbgcgkifpaaKMn
namespace Go.Proofs.Ytmdepbgcgkifpaa
open Go.RowKit

/-- What a call leaves: facts. -/
def FPost (l : List Fc) (w : World) (e : Ending) (w' : World) : Prop :=
  ∃ A len c, e = .returned (.slice A len c) ∧ len = l.length ∧ Rd w' w'.heap.size A (fcRow l) ∧ Bl w w'
theorem rd_lit (w : World) (cs : Array Value) (t : TypeId) (xs : List Value) (g B : Nat) (hg : g = w.heap.size) (hB : g < B) (h : cs.toList = xs) : Rd (w.alloc (.cells cs t)) B (some ⟨g, 0, none⟩) xs := by
  intro _
  subst hg
  refine ⟨w.heap.size, 0, rfl, hB, fun j u hu => ?_⟩
  rw [Nat.zero_add, cell_of_row _ _ j _ _ _ (heap_alloc_new w (.cells cs t)), ← Array.getElem?_toList, h]
  exact hu
theorem rd_on {w1 : World} {A : Option Addr} {xs : List Value} (h : Rd w1 w1.heap.size A xs) {W : World} (hb : Bl w1 W) : Rd W W.heap.size A xs := (h.bl (Nat.le_refl _) hb).more hb.size
/-- A post with its numbers written out. -/
theorem FPost.lit {l m : List Fc} {k : Nat} {w w' : World} {e : Ending} (h : FPost l w e w') (hl : l = m) (hk : m.length = k) : ∃ A c, e = .returned (.slice A k c) ∧ Rd w' w'.heap.size A (fcRow m) ∧ Bl w w' := by
  subst hl
  obtain ⟨A, len, c, he, hlen, hr, hb⟩ := h
  subst hlen
  subst hk
  exact ⟨A, c, he, hr, hb⟩
theorem fz_pos (l : Rk.Fs) : ∀ f ∈ fz l, 0 ≤ f.rank := by
  intro f hf
  obtain ⟨x, _, rfl⟩ := List.mem_map.1 hf
  exact Int.natCast_nonneg _
theorem own_rd {w : World} {xs : List Value} {c base e m k : Nat} {g : Nat} (h : w.ownsRow base e m (.slice (some ⟨g, 0, none⟩) k c) k xs) : Rd w w.heap.size (some ⟨g, 0, none⟩) xs := by
  intro _
  have hlt := (h.lt g rfl).2
  refine ⟨g, 0, rfl, hlt, fun j u hu => ?_⟩
  have := h.cells (g := g) rfl j u hu
  unfold Addr.add at this
  split at this
  · rename_i hj; subst hj; simpa using this
  · simpa using this
theorem own_rd2 {w : World} {base n c : Nat} {A : Option Addr} {e : TypeId} {xs : List Value} (h : w.ownsRow base e 2 (.slice A n c) n xs) : Rd w w.heap.size A xs := by
  rcases h.2 with ⟨hv, rfl⟩ | ⟨g, cap, cur, hv, _, hg, _, _, _, _⟩
  · have : xs = [] := List.eq_nil_of_length_eq_zero (by simpa using h.1)
    subst this; exact Rd.nil
  · have hA : A = some ⟨g, 0, none⟩ := by injection hv
    subst hA
    exact own_rd h
end Go.Proofs.Ytmdepbgcgkifpaa
