/- An argument that is a slice of slices of items, opened to cells. -/
import Derived.Test.YtdfhhbncmdpoeaaItemC
import Derived.Test.YtdfhhbncmdpoeaaClKeep
namespace Go.Proofs.Ytdfhhbncmdpoeaa
open Go.ChangeShapes Go.WideShapes Go.RowKit Go.Deep

section
variable {H : Type} {enc : TypeId × Value → H} {w : World} {spare : Nat → Bool} {held : Bool}
set_option maxRecDepth 100000 in
theorem open_ixs {fuel : Nat} {v : Value} {x : DataW H × List MemPlace} (h : DataW.trod enc Try.prog w 0 spare held fuel 34 [v] = some x) :
    ∃ (A : Option Addr) (l : List Ix) (c : Nat), v = .slice A l.length c ∧ Rd w w.heap.size A (ixRow l) := by
  have h' := h
  rcases open_slice Try.underlying34 h with ⟨hcs, _⟩ | ⟨a, len', cap', m, n, D, Pl, hcs, _⟩
  · injection hcs with hcs _
    subst hcs
    exact ⟨none, [], 0, rfl, Rd.nil⟩
  · injection hcs with hcs _
    subst hcs
    obtain ⟨d, p⟩ := x
    obtain ⟨l, hl, hr, _⟩ := iopen_items (A := some a) (len := len') (cap := cap') (d := d) (p := p) ⟨fuel, h'⟩
    subst hl
    exact ⟨some a, l, cap', rfl, hr⟩
set_option maxRecDepth 100000 in
theorem sopen_sets {A : Option Addr} {len cap : Nat} {d : DataW H} {p : List MemPlace} (h : DataW.Trod enc Try.prog w 0 spare held 26 (.slice A len cap) d p) :
    ∃ L : List (List Ix), len = L.length ∧ SetsX w w.heap.size A L ∧ len ≤ maxLen := by
  obtain ⟨fuel, hf⟩ := h
  rcases open_slice Try.underlying26 hf with ⟨hcs, _⟩ | ⟨a, len', cap', m, n, D, Pl, hcs, _, hl, hm, hmm, _, hi⟩
  · simp [Value.cells] at hcs
    obtain ⟨rfl, rfl, rfl⟩ := hcs
    exact ⟨[], rfl, ⟨[], Rd.nil, rfl, fun i l hl => by simp at hl⟩, Nat.zero_le _⟩
  · simp [Value.cells] at hcs
    obtain ⟨rfl, rfl, rfl⟩ := hcs
    have h2 : Try.prog.cellsOf 34 = 1 := by kernel_rfl
    rw [h2] at hi
    have hlm : len ≤ m := by rw [hmm]; split <;> omega
    have key : ∀ i : Fin len, ∃ x : Option Addr × List Ix × Nat, w.cell? (a.add i) = some (.slice x.1 x.2.1.length x.2.2) ∧ Rd w w.heap.size x.1 (ixRow x.2.1) := by
      intro i
      obtain ⟨cs', hc, ht⟩ := hi i (by omega)
      obtain ⟨hlen, _, hat⟩ := World.cells?_some hc
      have a0 := hat 0 (by omega)
      rw [show ∀ b : Addr, b.add 0 = b from fun b => by simp [Addr.add]] at a0
      match cs', hlen, ht, a0 with
      | [v], _, ht, a0 =>
        obtain ⟨A2, l, c, rfl, hr⟩ := open_ixs ht
        rw [Nat.mul_one] at a0
        exact ⟨(A2, l, c), a0, hr⟩
    obtain ⟨X, hX⟩ := Classical.skolem.1 key
    refine ⟨List.ofFn fun i => (X i).2.1, by simp, ⟨List.ofFn fun i => .slice (X i).1 (X i).2.1.length (X i).2.2, ?_, by simp, fun i l hl => ?_⟩, Nat.le_trans hl hm⟩
    · intro hn
      rw [List.length_ofFn] at hn
      obtain ⟨h0, _⟩ := hX ⟨0, hn⟩
      obtain ⟨b, off, spot⟩ := a
      have hspot : spot = none := by simpa [Addr.add] using World.cell?_spot h0
      subst hspot
      refine ⟨b, off, rfl, by have := World.block_lt_of_cell? w _ h0; simpa [Addr.add] using this, fun j u hu => ?_⟩
      have hj : j < len := by have := Ch.lt_of_get hu; rwa [List.length_ofFn] at this
      rw [List.getElem?_eq_getElem (by rw [List.length_ofFn]; exact hj), List.getElem_ofFn] at hu
      injection hu with hu
      subst hu
      have q := (hX ⟨j, hj⟩).1
      have e : (⟨b, off, none⟩ : Addr).add j = ⟨b, off + j, none⟩ := by unfold Addr.add; split <;> simp_all
      rw [e] at q
      exact q
    · have hj : i < len := by have := Ch.lt_of_get hl; rwa [List.length_ofFn] at this
      rw [List.getElem?_eq_getElem (by rw [List.length_ofFn]; exact hj), List.getElem_ofFn] at hl
      injection hl with hl
      subst hl
      refine ⟨(X ⟨i, hj⟩).1, (X ⟨i, hj⟩).2.2, ?_, (hX ⟨i, hj⟩).2⟩
      rw [List.getElem?_eq_getElem (by rw [List.length_ofFn]; exact hj), List.getElem_ofFn]
end
end Go.Proofs.Ytdfhhbncmdpoeaa
