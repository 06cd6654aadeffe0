/- An argument that is a slice of symbols, opened to cells. -/
import Derived.Test.YtebjbahbaiialaaGOpn
namespace Go.Proofs.Ytebjbahbaiialaa
open Go.ChangeShapes Go.WideShapes Go.RowKit Go.Deep

section
variable {H : Type} {enc : TypeId × Value → H} {w : World} {spare : Nat → Bool} {held : Bool}
theorem fopen_syms {A : Option Addr} {len cap : Nat} {d : DataW H} {p : List MemPlace} (h : DataW.Trod enc Try.prog w 0 spare held 25 (.slice A len cap) d p) :
    ∃ l : List Gr.Sy, len = l.length ∧ Rd w w.heap.size A (syRow l) ∧ len ≤ maxLen := by
  obtain ⟨fuel, hf⟩ := h
  rcases open_slice Try.underlying25 hf with ⟨hcs, _⟩ | ⟨a, len', cap', m, n, D, Pl, hcs, _, hl, hm, hmm, _, hi⟩
  · simp [Value.cells] at hcs
    obtain ⟨rfl, rfl, rfl⟩ := hcs
    exact ⟨[], rfl, Rd.nil, Nat.zero_le _⟩
  · simp [Value.cells] at hcs
    obtain ⟨rfl, rfl, rfl⟩ := hcs
    have h2 : Try.prog.cellsOf 55 = 2 := by kernel_rfl
    rw [h2] at hi
    have hlm : len ≤ m := by rw [hmm]; split <;> omega
    have key : ∀ i, i < len → ∃ x : Gr.Sy, w.cell? (a.add (i * 2)) = some (.bool x.non) ∧ w.cell? ((a.add (i * 2)).add 1) = some (.int .i64 x.n) := by
      intro i hil
      obtain ⟨cs', hc, ht⟩ := hi i (by omega)
      obtain ⟨x, rfl⟩ := open_sym ht
      obtain ⟨_, _, hat⟩ := World.cells?_some hc
      have a0 := hat 0 (by omega)
      rw [show ∀ b : Addr, b.add 0 = b from fun b => by simp [Addr.add]] at a0
      exact ⟨x, a0, hat 1 (by omega)⟩
    obtain ⟨xs, hxl, hr⟩ := rd_two key
    exact ⟨xs, hxl.symm, hr, Nat.le_trans hl hm⟩
end
end Go.Proofs.Ytebjbahbaiialaa
