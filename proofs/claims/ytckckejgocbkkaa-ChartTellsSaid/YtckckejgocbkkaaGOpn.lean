/- An argument that is a grammar, opened to cells. -/
import Derived.Test.YtckckejgocbkkaaGMem
import Derived.ProofKit
import Derived.Deep.Slices
import Derived.ChangeSlices
namespace Go.Proofs.Ytckckejgocbkkaa
open Go.ChangeShapes Go.WideShapes Go.RowKit Go.Deep

section
variable {H : Type} {enc : TypeId × Value → H} {w : World} {spare : Nat → Bool} {held : Bool}
set_option maxRecDepth 100000 in
theorem open_sym {fuel : Nat} {cs : List Value} {y : DataW H × List MemPlace} (h : DataW.trod enc Try.prog w 0 spare held fuel 48 cs = some y) :
    ∃ x : Gr.Sy, cs = [.bool x.non, .int .i64 x.n] := by
  obtain ⟨xs, n, _, _, hlen, hxl, hf⟩ := DataW.trod_struct Try.underlying48 h
  have h2 : Try.prog.cellsOf 48 = 2 := by kernel_rfl
  rw [h2] at hlen
  match cs, hlen with
  | [c0, c1], _ =>
    have e4 : Try.prog.cellsOf 4 = 1 := by kernel_rfl
    have e3 : Try.prog.cellsOf 3 = 1 := by kernel_rfl
    match xs, hxl with
    | [y0, y1], _ =>
      have h0 := hf 0 _ rfl
      have h1 := hf 1 _ rfl
      simp [e3, e4] at h0 h1
      obtain ⟨b, hb, _⟩ := DataW.trod_bool Try.underlying4 h0
      obtain ⟨m, hm, _, _⟩ := DataW.trod_int Try.underlying3 h1
      injection hb with hb _
      injection hm with hm _
      subst hb hm
      exact ⟨⟨b, m⟩, rfl⟩

/-- A slice of things of two cells each, of which each opens. -/
theorem rd_two {α : Type} {f g : α → Value} {a : Addr} {len : Nat} (key : ∀ i, i < len → ∃ x : α, w.cell? (a.add (i * 2)) = some (f x) ∧ w.cell? ((a.add (i * 2)).add 1) = some (g x)) :
    ∃ xs : List α, xs.length = len ∧ Rd w w.heap.size (some a) (row2 f g xs) := by
  have hf := Classical.skolem.1 fun i : Fin len => key i i.2
  obtain ⟨X, hX⟩ := hf
  refine ⟨List.ofFn X, by simp, ?_⟩
  intro hn
  rw [row2_len, List.length_ofFn] at hn
  obtain ⟨h0, _⟩ := hX ⟨0, by omega⟩
  obtain ⟨b, off, spot⟩ := a
  have hspot : spot = none := by simpa [Addr.add] using World.cell?_spot h0
  subst hspot
  refine ⟨b, off, rfl, by have := World.block_lt_of_cell? w _ h0; simpa [Addr.add] using this, fun j u hu => ?_⟩
  have e : ∀ j, (⟨b, off, none⟩ : Addr).add j = ⟨b, off + j, none⟩ := fun j => by unfold Addr.add; split <;> simp_all
  have e' : ∀ o j, (⟨b, o, none⟩ : Addr).add j = ⟨b, o + j, none⟩ := fun o j => by unfold Addr.add; split <;> simp_all
  have hj : j < len * 2 := by
    rcases Nat.lt_or_ge j (len * 2) with h | h
    · exact h
    · rw [List.getElem?_eq_none (by rw [row2_len, List.length_ofFn]; exact h)] at hu; cases hu
  have hi : j / 2 < len := by omega
  obtain ⟨q0, q1⟩ := hX ⟨j / 2, hi⟩
  have r := row2_at (f := f) (g := g) (List.ofFn X) (j / 2) (by rw [List.length_ofFn]; exact hi)
  rw [List.getElem_ofFn] at r
  rw [e] at q0 q1
  rw [e'] at q1
  rcases Nat.mod_two_eq_zero_or_one j with hm | hm
  · have ej : j = j / 2 * 2 := by omega
    rw [ej] at hu ⊢
    rw [r.1] at hu
    rw [← hu]
    exact q0
  · have ej : j = j / 2 * 2 + 1 := by omega
    rw [ej] at hu ⊢
    rw [r.2] at hu
    rw [← hu, ← Nat.add_assoc]
    exact q1

set_option maxRecDepth 100000 in
theorem open_syms {fuel : Nat} {v : Value} {x : DataW H × List MemPlace} (h : DataW.trod enc Try.prog w 0 spare held fuel 43 [v] = some x) :
    ∃ (A : Option Addr) (l : List Gr.Sy) (c : Nat), v = .slice A l.length c ∧ Rd w w.heap.size A (syRow l) ∧ l.length ≤ maxLen := by
  rcases open_slice Try.underlying43 h with ⟨hcs, _⟩ | ⟨a, len', cap', m, n, D, Pl, hcs, _, hl, hm, hmm, _, hi⟩
  · injection hcs with hcs _
    subst hcs
    exact ⟨none, [], 0, rfl, Rd.nil, Nat.zero_le _⟩
  · injection hcs with hcs _
    subst hcs
    have h2 : Try.prog.cellsOf 48 = 2 := by kernel_rfl
    rw [h2] at hi
    have hlm : len' ≤ m := by rw [hmm]; split <;> omega
    have key : ∀ i, i < len' → ∃ x : Gr.Sy, w.cell? (a.add (i * 2)) = some (.bool x.non) ∧ w.cell? ((a.add (i * 2)).add 1) = some (.int .i64 x.n) := by
      intro i hil
      obtain ⟨cs', hc, ht⟩ := hi i (by omega)
      obtain ⟨x, rfl⟩ := open_sym ht
      obtain ⟨_, _, hat⟩ := World.cells?_some hc
      have a0 := hat 0 (by omega)
      rw [show ∀ b : Addr, b.add 0 = b from fun b => by simp [Addr.add]] at a0
      exact ⟨x, a0, hat 1 (by omega)⟩
    obtain ⟨xs, hxl, hr⟩ := rd_two key
    subst hxl
    exact ⟨some a, xs, cap', rfl, hr, Nat.le_trans hl hm⟩

set_option maxRecDepth 100000 in
theorem open_prod {fuel : Nat} {cs : List Value} {y : DataW H × List MemPlace} (h : DataW.trod enc Try.prog w 0 spare held fuel 45 cs = some y) :
    ∃ x : Ph, cs = [.int .i64 x.left, .slice x.at_ x.right.length x.cap] ∧ Rd w w.heap.size x.at_ (syRow x.right) := by
  obtain ⟨xs, n, _, _, hlen, hxl, hf⟩ := DataW.trod_struct Try.underlying45 h
  have h2 : Try.prog.cellsOf 45 = 2 := by kernel_rfl
  rw [h2] at hlen
  match cs, hlen with
  | [c0, c1], _ =>
    have e4 : Try.prog.cellsOf 43 = 1 := by kernel_rfl
    have e3 : Try.prog.cellsOf 3 = 1 := by kernel_rfl
    match xs, hxl with
    | [y0, y1], _ =>
      have h0 := hf 0 _ rfl
      have h1 := hf 1 _ rfl
      simp [e3, e4] at h0 h1
      obtain ⟨m, hm, _, _⟩ := DataW.trod_int Try.underlying3 h0
      obtain ⟨A, l, c, rfl, hr, _⟩ := open_syms h1
      injection hm with hm _
      subst hm
      exact ⟨⟨m, l, A, c⟩, rfl, hr⟩

set_option maxRecDepth 100000 in
theorem open_prods {fuel : Nat} {v : Value} {x : DataW H × List MemPlace} (h : DataW.trod enc Try.prog w 0 spare held fuel 22 [v] = some x) :
    ∃ (A : Option Addr) (l : List Gr.Pr) (c : Nat), v = .slice A l.length c ∧ Prs w w.heap.size A l ∧ l.length ≤ maxLen := by
  rcases open_slice Try.underlying22 h with ⟨hcs, _⟩ | ⟨a, len', cap', m, n, D, Pl, hcs, _, hl, hm, hmm, _, hi⟩
  · injection hcs with hcs _
    subst hcs
    exact ⟨none, [], 0, rfl, Prs.nil, Nat.zero_le _⟩
  · injection hcs with hcs _
    subst hcs
    have h2 : Try.prog.cellsOf 45 = 2 := by kernel_rfl
    rw [h2] at hi
    have hlm : len' ≤ m := by rw [hmm]; split <;> omega
    have key : ∀ i, i < len' → ∃ x : { x : Ph // Rd w w.heap.size x.at_ (syRow x.right) }, w.cell? (a.add (i * 2)) = some (.int .i64 x.1.left) ∧ w.cell? ((a.add (i * 2)).add 1) = some (.slice x.1.at_ x.1.right.length x.1.cap) := by
      intro i hil
      obtain ⟨cs', hc, ht⟩ := hi i (by omega)
      obtain ⟨x, rfl, hr⟩ := open_prod ht
      obtain ⟨_, _, hat⟩ := World.cells?_some hc
      have a0 := hat 0 (by omega)
      rw [show ∀ b : Addr, b.add 0 = b from fun b => by simp [Addr.add]] at a0
      exact ⟨⟨x, hr⟩, a0, hat 1 (by omega)⟩
    obtain ⟨xs, hxl, hr⟩ := rd_two key
    subst hxl
    refine ⟨some a, (xs.map Subtype.val).map Ph.pr, cap', by simp, ⟨xs.map Subtype.val, rfl, ?_, ?_⟩, by simpa using Nat.le_trans hl hm⟩
    · have e : phRow (xs.map Subtype.val) = row2 (fun x : { x : Ph // Rd w w.heap.size x.at_ (syRow x.right) } => Value.int .i64 x.1.left) (fun x => .slice x.1.at_ x.1.right.length x.1.cap) xs := by
        unfold phRow row2
        rw [List.flatMap_map]
      rw [e]
      exact hr
    · intro x hx
      obtain ⟨y, _, rfl⟩ := List.mem_map.1 hx
      exact y.2

set_option maxRecDepth 100000 in
theorem open_gram {cs : Array Value} {d : DataW H} {p : List MemPlace} (h : DataW.Trod enc Try.prog w 0 spare held 24 (.agg cs) d p) :
    ∃ (t n s : Int) (A : Option Addr) (c : Nat) (ps : List Gr.Pr), cs = #[.int .i64 t, .int .i64 n, .int .i64 s, .slice A ps.length c] ∧ Prs w w.heap.size A ps ∧ ps.length ≤ maxLen := by
  obtain ⟨fuel, hf⟩ := h
  obtain ⟨xs, n, _, _, hlen, hxl, hf⟩ := DataW.trod_struct Try.underlying24 hf
  have h4 : Try.prog.cellsOf 24 = 4 := by kernel_rfl
  rw [h4] at hlen
  obtain ⟨cl⟩ := cs
  have hlen : cl.length = 4 := by simpa [Value.cells] using hlen
  match cl, hlen with
  | [c0, c1, c2, c3], _ =>
    have e3 : Try.prog.cellsOf 3 = 1 := by kernel_rfl
    have e22 : Try.prog.cellsOf 22 = 1 := by kernel_rfl
    match xs, hxl with
    | [y0, y1, y2, y3], _ =>
      have h0 := hf 0 _ rfl
      have h1 := hf 1 _ rfl
      have h2 := hf 2 _ rfl
      have h3 := hf 3 _ rfl
      simp [e3, e22, Value.cells] at h0 h1 h2 h3
      obtain ⟨t, ht, _, _⟩ := DataW.trod_int Try.underlying3 h0
      obtain ⟨m, hm, _, _⟩ := DataW.trod_int Try.underlying3 h1
      obtain ⟨s, hs, _, _⟩ := DataW.trod_int Try.underlying3 h2
      obtain ⟨A, l, c, rfl, hr, hl⟩ := open_prods h3
      injection ht with ht _
      injection hm with hm _
      injection hs with hs _
      subst ht hm hs
      exact ⟨t, m, s, A, c, l, rfl, hr, hl⟩
end
end Go.Proofs.Ytckckejgocbkkaa
