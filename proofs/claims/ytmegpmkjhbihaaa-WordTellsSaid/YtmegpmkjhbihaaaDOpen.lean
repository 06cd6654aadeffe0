/- Arguments opened to cells: a slice of ints, of bytes, of edits, and a grammar's own cells. -/
import Derived.Test.YtmegpmkjhbihaaaDMem
import Derived.ProofKit
import Derived.Deep.Slices
import Derived.ChangeSlices
namespace Go.Proofs.Ytmegpmkjhbihaaa
open Go.ChangeShapes Go.WideShapes Go.RowKit Go.Deep

theorem drd_ints {w : World} {x : Addr} {len : Nat} {zs : List Int} (hl : len ≤ zs.length) (hc : ∀ i, i < zs.length → w.cell? (x.add i) = some (.int .i64 (zs.getD i 0))) : Rd w w.heap.size (some x) (ins (zs.take len)) := by
  intro hn
  rw [ins_len, List.length_take] at hn
  obtain ⟨b, off, spot⟩ := x
  have hc0 := hc 0 (by omega)
  have hspot : spot = none := by simpa [Addr.add] using World.cell?_spot hc0
  subst hspot
  refine ⟨b, off, rfl, World.block_lt_of_cell? w _ hc0, fun j u hu => ?_⟩
  have hj : j < len := by
    rcases Nat.lt_or_ge j len with h | h
    · exact h
    · rw [List.getElem?_eq_none (by rw [ins_len, List.length_take]; omega)] at hu; cases hu
  have h1 := hc j (by omega)
  have e : (⟨b, off, none⟩ : Addr).add j = ⟨b, off + j, none⟩ := by unfold Addr.add; split <;> simp_all
  rw [e] at h1
  rw [h1]
  have hzj : zs[j]? = some (zs[j]'(by omega)) := List.getElem?_eq_getElem (by omega)
  simp [ins, hj, hzj] at hu
  rw [← hu, List.getD_eq_getElem?_getD, hzj]
  rfl

section
variable {H : Type} {enc : TypeId × Value → H} {w : World} {spare : Nat → Bool} {held : Bool}
theorem dopen_ints {A : Option Addr} {len cap : Nat} {d : DataW H} {p : List MemPlace} (h : DataW.Trod enc Try.prog w 0 (fun _ => true) held 25 (.slice A len cap) d p) :
    ∃ l : List Int, len = l.length ∧ Rd w w.heap.size A (ins l) ∧ len ≤ cap ∧ cap ≤ maxLen := by
  obtain ⟨fuel, hf⟩ := h
  rcases open_ints Try.underlying25 Try.underlying3 (by kernel_rfl) hf with ⟨hcs, _⟩ | ⟨a, l, c, zs, hcs, _, hl, hm, hz, _, hcell, hwz⟩
  · simp [Value.cells] at hcs
    obtain ⟨rfl, rfl, rfl⟩ := hcs
    exact ⟨[], rfl, Rd.nil, Nat.le_refl _, Nat.zero_le _⟩
  · simp [Value.cells] at hcs
    obtain ⟨rfl, rfl, rfl⟩ := hcs
    have hlz : len ≤ zs.length := by rw [hz]; split <;> omega
    have e : (zs.take len).length = len := by rw [List.length_take]; omega
    exact ⟨zs.take len, e.symm, drd_ints hlz hcell, hl, hm⟩
theorem dopen_bytes {A : Option Addr} {len cap : Nat} {d : DataW H} {p : List MemPlace} (h : DataW.Trod enc Try.prog w 0 (fun _ => true) held 26 (.slice A len cap) d p) :
    ∃ l : List Nat, len = l.length ∧ (∀ c ∈ l, c < 256) ∧ Rd w w.heap.size A (bys l) ∧ len ≤ cap ∧ cap ≤ maxLen := by
  obtain ⟨fuel, hf⟩ := h
  rcases open_ints Try.underlying26 Try.underlying5 (by kernel_rfl) hf with ⟨hcs, _⟩ | ⟨a, l, c, zs, hcs, _, hl, hm, hz, _, hcell, hwz⟩
  · simp [Value.cells] at hcs
    obtain ⟨rfl, rfl, rfl⟩ := hcs
    exact ⟨[], rfl, by simp, Rd.nil, Nat.le_refl _, Nat.zero_le _⟩
  · simp [Value.cells] at hcs
    obtain ⟨rfl, rfl, rfl⟩ := hcs
    exact rd_of_row (zs := zs) (.inr ⟨_, rfl, hl, hm, by simpa using hz, hcell, hwz⟩)
theorem open_edit {fuel : Nat} {cs : List Value} {y : DataW H × List MemPlace} (h : DataW.trod enc Try.prog w 0 spare held fuel 43 cs = some y) :
    ∃ x : Wd.Ed, cs = edCells x := by
  obtain ⟨xs, n, _, _, hlen, hxl, hf⟩ := DataW.trod_struct Try.underlying43 h
  have h2 : Try.prog.cellsOf 43 = 3 := by kernel_rfl
  rw [h2] at hlen
  match cs, hlen with
  | [c0, c1, c2], _ =>
    have e4 : Try.prog.cellsOf 4 = 1 := by kernel_rfl
    have e3 : Try.prog.cellsOf 3 = 1 := by kernel_rfl
    match xs, hxl with
    | [y0, y1, y2], _ =>
      have h0 := hf 0 _ rfl
      have h1 := hf 1 _ rfl
      have h2 := hf 2 _ rfl
      simp [e3, e4] at h0 h1 h2
      obtain ⟨a, ha, _, _⟩ := DataW.trod_int Try.underlying3 h0
      obtain ⟨b, hb, _⟩ := DataW.trod_bool Try.underlying4 h1
      obtain ⟨m, hm, _, _⟩ := DataW.trod_int Try.underlying3 h2
      injection ha with ha _
      injection hb with hb _
      injection hm with hm _
      subst ha hb hm
      exact ⟨⟨a, b, m⟩, rfl⟩
theorem dopen_edits {A : Option Addr} {len cap : Nat} {d : DataW H} {p : List MemPlace} (h : DataW.Trod enc Try.prog w 0 spare held 27 (.slice A len cap) d p) :
    ∃ l : List Wd.Ed, len = l.length ∧ Rd w w.heap.size A (edRow l) ∧ len ≤ maxLen := by
  obtain ⟨fuel, hf⟩ := h
  rcases open_slice Try.underlying27 hf with ⟨hcs, _⟩ | ⟨a, len', cap', m, n, D, Pl, hcs, _, hl, hm, hmm, _, hi⟩
  · simp [Value.cells] at hcs
    obtain ⟨rfl, rfl, rfl⟩ := hcs
    exact ⟨[], rfl, Rd.nil, Nat.zero_le _⟩
  · simp [Value.cells] at hcs
    obtain ⟨rfl, rfl, rfl⟩ := hcs
    have h2 : Try.prog.cellsOf 43 = 3 := by kernel_rfl
    rw [h2] at hi
    have hlm : len ≤ m := by rw [hmm]; split <;> omega
    have key : ∀ i, i < len → ∃ x : Wd.Ed, ∀ j u, (edCells x)[j]? = some u → w.cell? ((a.add (i * 3)).add j) = some u := by
      intro i hil
      obtain ⟨cs', hc, ht⟩ := hi i (by omega)
      obtain ⟨x, rfl⟩ := open_edit ht
      obtain ⟨_, _, hat⟩ := World.cells?_some hc
      refine ⟨x, fun j u hu => ?_⟩
      have hj : j < 3 := by
        rcases Nat.lt_or_ge j 3 with h | h
        · exact h
        · rw [List.getElem?_eq_none (by rw [edCells_len]; exact h)] at hu; cases hu
      have a1 := hat j (by omega)
      rw [a1]
      rw [← hu]
    obtain ⟨xs, hxl, hr⟩ := rd_things (f := edCells) (m := 3) edCells_len (by decide) key
    exact ⟨xs, hxl.symm, hr, Nat.le_trans hl hm⟩
theorem dopen_gram {cs : Array Value} {d : DataW H} {p : List MemPlace} (h : DataW.Trod enc Try.prog w 0 spare held 24 (.agg cs) d p) :
    ∃ (t n s : Int) (A : Option Addr) (l c : Nat), cs = #[.int .i64 t, .int .i64 n, .int .i64 s, .slice A l c] := by
  obtain ⟨fuel, hf⟩ := h
  obtain ⟨xs, n, _, _, hlen, hxl, hf⟩ := DataW.trod_struct Try.underlying24 hf
  have h4 : Try.prog.cellsOf 24 = 4 := by kernel_rfl
  rw [h4] at hlen
  obtain ⟨cl⟩ := cs
  have hlen : cl.length = 4 := by simpa [Value.cells] using hlen
  match cl, hlen with
  | [c0, c1, c2, c3], _ =>
    have e3 : Try.prog.cellsOf 3 = 1 := by kernel_rfl
    have e22 : Try.prog.cellsOf 22 = 1 := by kernel_rfl
    match xs, hxl with
    | [y0, y1, y2, y3], _ =>
      have h0 := hf 0 _ rfl
      have h1 := hf 1 _ rfl
      have h2 := hf 2 _ rfl
      have h3 := hf 3 _ rfl
      simp [e3, e22, Value.cells] at h0 h1 h2 h3
      obtain ⟨t, ht, _, _⟩ := DataW.trod_int Try.underlying3 h0
      obtain ⟨m, hm, _, _⟩ := DataW.trod_int Try.underlying3 h1
      obtain ⟨s, hs, _, _⟩ := DataW.trod_int Try.underlying3 h2
      injection ht with ht _
      injection hm with hm _
      injection hs with hs _
      subst ht hm hs
      rcases open_slice Try.underlying22 h3 with ⟨hcs, _⟩ | ⟨a, len', cap', _, _, _, _, hcs, _⟩
      · injection hcs with hcs _
        subst hcs
        exact ⟨t, m, s, none, 0, 0, rfl⟩
      · injection hcs with hcs _
        subst hcs
        exact ⟨t, m, s, some a, len', cap', rfl⟩
end
end Go.Proofs.Ytmegpmkjhbihaaa
