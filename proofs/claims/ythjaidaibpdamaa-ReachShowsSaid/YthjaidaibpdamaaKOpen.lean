/- An argument that is a slice of facts, opened to cells. -/
import Derived.Test.YthjaidaibpdamaaGOpn
import Derived.Test.YthjaidaibpdamaaKMem
namespace Go.Proofs.Ythjaidaibpdamaa
open Go.ChangeShapes Go.WideShapes Go.RowKit Go.Deep

section
variable {H : Type} {enc : TypeId × Value → H} {w : World} {spare : Nat → Bool} {held : Bool}
theorem open_fact {fuel : Nat} {cs : List Value} {y : DataW H × List MemPlace} (h : DataW.trod enc Try.prog w 0 spare held fuel 32 cs = some y) :
    ∃ x : Fc, cs = [.int .i64 x.rank, .int .i64 x.prod] := by
  obtain ⟨xs, n, _, _, hlen, hxl, hf⟩ := DataW.trod_struct Try.underlying32 h
  have h2 : Try.prog.cellsOf 32 = 2 := by kernel_rfl
  rw [h2] at hlen
  match cs, hlen with
  | [c0, c1], _ =>
    have e3 : Try.prog.cellsOf 3 = 1 := by kernel_rfl
    match xs, hxl with
    | [y0, y1], _ =>
      have h0 := hf 0 _ rfl
      have h1 := hf 1 _ rfl
      simp [e3] at h0 h1
      obtain ⟨a, ha, _, _⟩ := DataW.trod_int Try.underlying3 h0
      obtain ⟨m, hm, _, _⟩ := DataW.trod_int Try.underlying3 h1
      injection ha with ha _
      injection hm with hm _
      subst ha hm
      exact ⟨⟨a, m⟩, rfl⟩
theorem kopen_facts {A : Option Addr} {len cap : Nat} {d : DataW H} {p : List MemPlace} (h : DataW.Trod enc Try.prog w 0 spare held 25 (.slice A len cap) d p) :
    ∃ l : List Fc, len = l.length ∧ Rd w w.heap.size A (fcRow l) ∧ len ≤ maxLen := by
  obtain ⟨fuel, hf⟩ := h
  rcases open_slice Try.underlying25 hf with ⟨hcs, _⟩ | ⟨a, len', cap', m, n, D, Pl, hcs, _, hl, hm, hmm, _, hi⟩
  · simp [Value.cells] at hcs
    obtain ⟨rfl, rfl, rfl⟩ := hcs
    exact ⟨[], rfl, Rd.nil, Nat.zero_le _⟩
  · simp [Value.cells] at hcs
    obtain ⟨rfl, rfl, rfl⟩ := hcs
    have h2 : Try.prog.cellsOf 32 = 2 := by kernel_rfl
    rw [h2] at hi
    have hlm : len ≤ m := by rw [hmm]; split <;> omega
    have key : ∀ i, i < len → ∃ x : Fc, w.cell? (a.add (i * 2)) = some (.int .i64 x.rank) ∧ w.cell? ((a.add (i * 2)).add 1) = some (.int .i64 x.prod) := by
      intro i hil
      obtain ⟨cs', hc, ht⟩ := hi i (by omega)
      obtain ⟨x, rfl⟩ := open_fact ht
      obtain ⟨_, _, hat⟩ := World.cells?_some hc
      have a0 := hat 0 (by omega)
      rw [show ∀ b : Addr, b.add 0 = b from fun b => by simp [Addr.add]] at a0
      exact ⟨x, a0, hat 1 (by omega)⟩
    obtain ⟨xs, hxl, hr⟩ := rd_two key
    exact ⟨xs, hxl.symm, hr, Nat.le_trans hl hm⟩
end
end Go.Proofs.Ythjaidaibpdamaa
