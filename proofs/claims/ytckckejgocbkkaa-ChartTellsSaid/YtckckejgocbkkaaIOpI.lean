/- An argument that is a slice of items, opened to cells. -/
import Derived.Test.YtckckejgocbkkaaGOpn
import Derived.Test.YtckckejgocbkkaaChD
namespace Go.Proofs.Ytckckejgocbkkaa
open Go.ChangeShapes Go.WideShapes Go.RowKit Go.Deep

section
variable {H : Type} {enc : TypeId × Value → H} {w : World} {spare : Nat → Bool} {held : Bool}
set_option maxRecDepth 100000 in
theorem open_item {fuel : Nat} {cs : List Value} {y : DataW H × List MemPlace} (h : DataW.trod enc Try.prog w 0 spare held fuel 42 cs = some y) : ∃ x : Ix, cs = ixc x := by
  obtain ⟨xs, n, _, _, hlen, hxl, hf⟩ := DataW.trod_struct Try.underlying42 h
  have h2 : Try.prog.cellsOf 42 = 3 := by kernel_rfl
  rw [h2] at hlen
  match cs, hlen with
  | [c0, c1, c2], _ =>
    have e3 : Try.prog.cellsOf 3 = 1 := by kernel_rfl
    match xs, hxl with
    | [y0, y1, y2], _ =>
      have h0 := hf 0 _ rfl
      have h1 := hf 1 _ rfl
      have h2 := hf 2 _ rfl
      simp [e3] at h0 h1 h2
      obtain ⟨a, ha, _, _⟩ := DataW.trod_int Try.underlying3 h0
      obtain ⟨b, hb, _, _⟩ := DataW.trod_int Try.underlying3 h1
      obtain ⟨c, hc, _, _⟩ := DataW.trod_int Try.underlying3 h2
      injection ha with ha _
      injection hb with hb _
      injection hc with hc _
      subst ha hb hc
      exact ⟨⟨a, b, c⟩, rfl⟩
/-- A slice of items, each of which opens. -/
theorem rd_ixs {a : Addr} {len : Nat} (key : ∀ i, i < len → ∃ x : Ix, w.cell? (a.add (i * 3)) = some (.int .i64 x.prod) ∧ w.cell? ((a.add (i * 3)).add 1) = some (.int .i64 x.dot) ∧ w.cell? ((a.add (i * 3)).add 2) = some (.int .i64 x.frm)) :
    ∃ xs : List Ix, xs.length = len ∧ Rd w w.heap.size (some a) (ixRow xs) := by
  have hf := Classical.skolem.1 fun i : Fin len => key i i.2
  obtain ⟨X, hX⟩ := hf
  refine ⟨List.ofFn X, by simp, ?_⟩
  intro hn
  rw [ixRow_len, List.length_ofFn] at hn
  obtain ⟨h0, _⟩ := hX ⟨0, by omega⟩
  obtain ⟨b, off, spot⟩ := a
  have hspot : spot = none := by simpa [Addr.add] using World.cell?_spot h0
  subst hspot
  refine ⟨b, off, rfl, by have := World.block_lt_of_cell? w _ h0; simpa [Addr.add] using this, fun j u hu => ?_⟩
  have e : ∀ j, (⟨b, off, none⟩ : Addr).add j = ⟨b, off + j, none⟩ := fun j => by unfold Addr.add; split <;> simp_all
  have e' : ∀ o j, (⟨b, o, none⟩ : Addr).add j = ⟨b, o + j, none⟩ := fun o j => by unfold Addr.add; split <;> simp_all
  have hj : j < len * 3 := by
    rcases Nat.lt_or_ge j (len * 3) with h | h
    · exact h
    · rw [List.getElem?_eq_none (by rw [ixRow_len, List.length_ofFn]; exact h)] at hu; cases hu
  have hi : j / 3 < len := by omega
  obtain ⟨q0, q1, q2⟩ := hX ⟨j / 3, hi⟩
  have hr : j % 3 < 3 := Nat.mod_lt _ (by decide)
  have r := rowN_at ixc_len (List.ofFn X) (j / 3) (j % 3) (by rw [List.length_ofFn]; exact hi) hr
  have ej : j / 3 * 3 + j % 3 = j := by omega
  rw [ej, List.getElem_ofFn] at r
  have hu : (rowN ixc (List.ofFn X))[j]? = some u := hu
  rw [r] at hu
  rw [e] at q0 q1 q2
  rw [e'] at q1 q2
  rw [← ej, ← Nat.add_assoc]
  generalize j % 3 = m at *
  have hm : m = 0 ∨ m = 1 ∨ m = 2 := by omega
  rcases hm with rfl | rfl | rfl
  · have hu : some (Value.int .i64 _) = some u := hu
    rw [← hu]; exact q0
  · have hu : some (Value.int .i64 _) = some u := hu
    rw [← hu]; exact q1
  · have hu : some (Value.int .i64 _) = some u := hu
    rw [← hu]; exact q2
theorem iopen_items {A : Option Addr} {len cap : Nat} {d : DataW H} {p : List MemPlace} (h : DataW.Trod enc Try.prog w 0 spare held 26 (.slice A len cap) d p) :
    ∃ l : List Ix, len = l.length ∧ Rd w w.heap.size A (ixRow l) ∧ len ≤ maxLen := by
  obtain ⟨fuel, hf⟩ := h
  rcases open_slice Try.underlying26 hf with ⟨hcs, _⟩ | ⟨a, len', cap', m, n, D, Pl, hcs, _, hl, hm, hmm, _, hi⟩
  · simp [Value.cells] at hcs
    obtain ⟨rfl, rfl, rfl⟩ := hcs
    exact ⟨[], rfl, Rd.nil, Nat.zero_le _⟩
  · simp [Value.cells] at hcs
    obtain ⟨rfl, rfl, rfl⟩ := hcs
    have h2 : Try.prog.cellsOf 42 = 3 := by kernel_rfl
    rw [h2] at hi
    have hlm : len ≤ m := by rw [hmm]; split <;> omega
    have key : ∀ i, i < len → ∃ x : Ix, w.cell? (a.add (i * 3)) = some (.int .i64 x.prod) ∧ w.cell? ((a.add (i * 3)).add 1) = some (.int .i64 x.dot) ∧ w.cell? ((a.add (i * 3)).add 2) = some (.int .i64 x.frm) := by
      intro i hil
      obtain ⟨cs', hc, ht⟩ := hi i (by omega)
      obtain ⟨x, rfl⟩ := open_item ht
      obtain ⟨_, _, hat⟩ := World.cells?_some hc
      have a0 := hat 0 (by show 0 < 3; omega)
      rw [show ∀ b : Addr, b.add 0 = b from fun b => by simp [Addr.add]] at a0
      exact ⟨x, a0, hat 1 (by show 1 < 3; omega), hat 2 (by show 2 < 3; omega)⟩
    obtain ⟨xs, hxl, hr⟩ := rd_ixs key
    exact ⟨xs, hxl.symm, hr, Nat.le_trans hl hm⟩
end
end Go.Proofs.Ytckckejgocbkkaa
