/- An argument that is a slice of things, opened to cells. -/
import Derived.Test.YthhlgjedgbdgcaaWListLaw
import Derived.ProofKit
import Derived.Deep.Slices
import Derived.ChangeSlices
namespace Go.Proofs.Ythhlgjedgbdgcaa
open Go.ChangeShapes Go.WideShapes Go.RowKit Go.Deep

theorem rd_ints {w : World} {x : Addr} {len : Nat} {zs : List Int} (hl : len ≤ zs.length) (hc : ∀ i, i < zs.length → w.cell? (x.add i) = some (.int .i64 (zs.getD i 0))) : Rd w w.heap.size (some x) (ins (zs.take len)) := by
  intro hn
  rw [ins_len, List.length_take] at hn
  obtain ⟨b, off, spot⟩ := x
  have hc0 := hc 0 (by omega)
  have hspot : spot = none := by simpa [Addr.add] using World.cell?_spot hc0
  subst hspot
  refine ⟨b, off, rfl, World.block_lt_of_cell? w _ hc0, fun j u hu => ?_⟩
  have hj : j < len := by
    rcases Nat.lt_or_ge j len with h | h
    · exact h
    · rw [List.getElem?_eq_none (by rw [ins_len, List.length_take]; omega)] at hu; cases hu
  have h1 := hc j (by omega)
  have e : (⟨b, off, none⟩ : Addr).add j = ⟨b, off + j, none⟩ := by unfold Addr.add; split <;> simp_all
  rw [e] at h1
  rw [h1]
  have hzj : zs[j]? = some (zs[j]'(by omega)) := List.getElem?_eq_getElem (by omega)
  simp [ins, hj, hzj] at hu
  rw [← hu, List.getD_eq_getElem?_getD, hzj]
  rfl
theorem wf_i64 {n : Int} (h : (Lit.int .i64 n).wf = true) : n < 9223372036854775808 := by
  simp [Lit.wf, IntKind.min, IntKind.max, IntKind.bits, IntKind.signed] at h
  omega

section
variable {H : Type} {enc : TypeId × Value → H} {w : World} {spare : Nat → Bool} {held : Bool}
theorem open_numbers {fuel : Nat} {v : Value} {x : DataW H × List MemPlace} (h : DataW.trod enc Try.prog w 0 spare held fuel 29 [v] = some x) :
    ∃ (A : Option Addr) (l : List Int) (c : Nat), v = .slice A l.length c ∧ Rd w w.heap.size A (ins l) ∧ (∀ n ∈ l, n < 9223372036854775808) ∧ l.length ≤ c ∧ c ≤ maxLen := by
  rcases open_ints Try.underlying29 Try.underlying3 (by kernel_rfl) h with ⟨hcs, _⟩ | ⟨a, len, cap, zs, hcs, _, hl, hm, hz, _, hcell, hwz⟩
  · injection hcs with hcs _
    subst hcs
    exact ⟨none, [], 0, rfl, Rd.nil, by simp, Nat.le_refl _, Nat.zero_le _⟩
  · injection hcs with hcs _
    subst hcs
    have hlz : len ≤ zs.length := by rw [hz]; split <;> omega
    have e : (zs.take len).length = len := by rw [List.length_take]; omega
    exact ⟨some a, zs.take len, cap, by rw [e], rd_ints hlz hcell, fun n hn => wf_i64 (hwz n (List.mem_of_mem_take hn)), by omega, hm⟩

theorem open_bytes {A : Option Addr} {len cap : Nat} {d : DataW H} {p : List MemPlace} (h : DataW.Trod enc Try.prog w 0 (fun _ => true) held 26 (.slice A len cap) d p) :
    ∃ l : List Nat, len = l.length ∧ (∀ c ∈ l, c < 256) ∧ Rd w w.heap.size A (bys l) ∧ len ≤ cap ∧ cap ≤ maxLen := by
  obtain ⟨fuel, hf⟩ := h
  rcases open_ints Try.underlying26 Try.underlying5 (by kernel_rfl) hf with ⟨hcs, _⟩ | ⟨a, l, c, zs, hcs, _, hl, hm, hz, _, hcell, hwz⟩
  · simp [Value.cells] at hcs
    obtain ⟨rfl, rfl, rfl⟩ := hcs
    exact ⟨[], rfl, by simp, Rd.nil, Nat.le_refl _, Nat.zero_le _⟩
  · simp [Value.cells] at hcs
    obtain ⟨rfl, rfl, rfl⟩ := hcs
    exact rd_of_row (zs := zs) (.inr ⟨_, rfl, hl, hm, by simpa using hz, hcell, hwz⟩)

theorem open_thing {fuel : Nat} {cs : List Value} {y : DataW H × List MemPlace} (h : DataW.trod enc Try.prog w 0 spare held fuel 32 cs = some y) :
    ∃ (x : Tg) (A : Option Addr) (c : Nat), cs = [.int .i64 x.kind, .int .i64 x.n, .slice A x.l.length c, .int .i64 x.e] ∧ Rd w w.heap.size A (ins x.l) ∧ x.n < 9223372036854775808 ∧ ∀ n ∈ x.l, n < 9223372036854775808 := by
  obtain ⟨xs, n, _, _, hlen, hxl, hf⟩ := DataW.trod_struct Try.underlying32 h
  have h4 : Try.prog.cellsOf 32 = 4 := by kernel_rfl
  rw [h4] at hlen
  match cs, hlen with
  | [c0, c1, c2, c3], _ =>
    have e3 : Try.prog.cellsOf 3 = 1 := by kernel_rfl
    have e29 : Try.prog.cellsOf 29 = 1 := by kernel_rfl
    have e30 : Try.prog.cellsOf 30 = 1 := by kernel_rfl
    match xs, hxl with
    | [y0, y1, y2, y3], _ =>
      have h0 := hf 0 _ rfl
      have h1 := hf 1 _ rfl
      have h2 := hf 2 _ rfl
      have h3 := hf 3 _ rfl
      simp [e3, e29, e30] at h0 h1 h2 h3
      obtain ⟨k, hk, _, _⟩ := DataW.trod_int Try.underlying3 h0
      obtain ⟨m, hm, _, wm⟩ := DataW.trod_int Try.underlying3 h1
      obtain ⟨A, l, c, rfl, hr, hb, _, _⟩ := open_numbers h2
      obtain ⟨e, he, _, _⟩ := DataW.trod_int Try.underlying30 h3
      injection hk with hk _
      injection hm with hm _
      injection he with he _
      subst hk hm he
      exact ⟨⟨k, m, l, e⟩, A, c, rfl, hr, wf_i64 wm, hb⟩

theorem open_things {A : Option Addr} {len cap : Nat} {d : DataW H} {p : List MemPlace} (h : DataW.Trod enc Try.prog w 0 spare held 22 (.slice A len cap) d p) :
    ∃ ts : List Tg, len = ts.length ∧ Tgs w w.heap.size A ts ∧ (∀ x ∈ ts, x.n < 9223372036854775808 ∧ ∀ n ∈ x.l, n < 9223372036854775808) ∧ len ≤ cap ∧ cap ≤ maxLen := by
  obtain ⟨fuel, hf⟩ := h
  rcases open_slice Try.underlying22 hf with ⟨hcs, _⟩ | ⟨a, len', cap', m, n, D, Pl, hcs, _, hl, hm, hmm, _, hi⟩
  · simp [Value.cells] at hcs
    obtain ⟨rfl, rfl, rfl⟩ := hcs
    exact ⟨[], rfl, fun h => by simp at h, by simp, Nat.le_refl _, Nat.zero_le _⟩
  · simp [Value.cells] at hcs
    obtain ⟨rfl, rfl, rfl⟩ := hcs
    have h4 : Try.prog.cellsOf 32 = 4 := by kernel_rfl
    rw [h4] at hi
    have hlm : len ≤ m := by rw [hmm]; split <;> omega
    have key : ∀ i, i < len → ∃ (x : Tg) (A : Option Addr) (c : Nat), (Rd w w.heap.size A (ins x.l) ∧ x.n < 9223372036854775808 ∧ ∀ n ∈ x.l, n < 9223372036854775808) ∧
        w.cell? (a.add (i * 4)) = some (.int .i64 x.kind) ∧ w.cell? ((a.add (i * 4)).add 1) = some (.int .i64 x.n) ∧ w.cell? ((a.add (i * 4)).add 2) = some (.slice A x.l.length c) ∧ w.cell? ((a.add (i * 4)).add 3) = some (.int .i64 x.e) := by
      intro i hil
      obtain ⟨cs', hc, ht⟩ := hi i (by omega)
      obtain ⟨x, A, c, rfl, hx⟩ := open_thing ht
      obtain ⟨_, _, hat⟩ := World.cells?_some hc
      have a0 := hat 0 (by omega)
      rw [show ∀ b : Addr, b.add 0 = b from fun b => by simp [Addr.add]] at a0
      exact ⟨x, A, c, hx, a0, hat 1 (by omega), hat 2 (by omega), hat 3 (by omega)⟩
    have hf := Classical.skolem.1 fun i : Fin len => key i i.2
    obtain ⟨X, hX⟩ := hf
    refine ⟨List.ofFn X, by simp, ?_, ?_, hl, hm⟩
    · intro hn
      rw [List.length_ofFn] at hn
      obtain ⟨A0, c0, _, h0, _⟩ := hX ⟨0, hn⟩
      obtain ⟨b, off, spot⟩ := a
      have hspot : spot = none := by simpa [Addr.add] using World.cell?_spot h0
      subst hspot
      refine ⟨b, off, rfl, by have := World.block_lt_of_cell? w _ h0; simpa [Addr.add] using this, fun i x hx => ?_⟩
      obtain ⟨hil, hx⟩ := List.getElem?_eq_some_iff.1 hx
      rw [List.length_ofFn] at hil
      rw [List.getElem_ofFn] at hx
      obtain ⟨Ai, ci, ⟨hr, _⟩, q0, q1, q2, q3⟩ := hX ⟨i, hil⟩
      rw [hx] at hr q0 q1 q2 q3
      have e : ∀ j, (⟨b, off, none⟩ : Addr).add j = ⟨b, off + j, none⟩ := fun j => by unfold Addr.add; split <;> simp_all
      have e' : ∀ o j, (⟨b, o, none⟩ : Addr).add j = ⟨b, o + j, none⟩ := fun o j => by unfold Addr.add; split <;> simp_all
      rw [e] at q0 q1 q2 q3
      rw [e'] at q1 q2 q3
      exact ⟨Ai, ci, hr, q0, q1, q2, q3⟩
    · intro x hx
      obtain ⟨i, rfl⟩ := (List.mem_ofFn).1 hx
      obtain ⟨_, _, ⟨_, h1, h2⟩, _⟩ := hX i
      exact ⟨h1, h2⟩
end
end Go.Proofs.Ythhlgjedgbdgcaa
