/- The reference's Spans (layer 8): which part of a word comes of each nonterminal. -/
import Derived.Test.YtmdepbgcgkifpaaHTurn
import Derived.Test.YtmdepbgcgkifpaaGMem
import Derived.Deep.AppendLies
namespace Go.Proofs.Ytmdepbgcgkifpaa
open Go.RowKit

/-- The tables of symbols, as far as they are put together: v's row; a token's table lies apart from it. -/
structure SyRel (lo m : Nat) (rows : List RowD) (xs : List Int) (right : List Gr.Sy) (v : Value) (vs : List Value) (w : World) : Prop where
  own : w.ownsRow lo 56 1 v vs.length vs
  ent : ∀ j (h : j < vs.length) (h2 : j < right.length), (right[j].non = true → ∃ n, ∃ hn : n < rows.length, right[j].n = (n : Int) ∧ vs[j] = RowD.cell m rows[n]) ∧
    (right[j].non = false → Row2 w (fun b => lo ≤ b ∧ b < w.heap.size ∧ v.ownBlock ≠ some b) vs[j] m (tok xs right[j].n))
section
variable {lo m : Nat} {rows : List RowD} {xs : List Int} {right : List Gr.Sy} {v : Value} {vs : List Value} {w wx w5 : World}
theorem SyRel.start (w : World) : SyRel w.heap.size m rows xs right (.slice (some ⟨w.heap.size, 0, none⟩) 0 0) [] (w.alloc (.cells #[] 56)) :=
  ⟨own_empty w _ _ (Nat.le_refl _), fun j hj => absurd hj (by simp)⟩
theorem SyRel.step (h : SyRel lo m rows xs right v vs w) (hlo : lo ≤ w.heap.size) (hb : Bl w wx) (hlt : vs.length < right.length) {x : Value}
    (hx1 : right[vs.length].non = true → ∃ n, ∃ hn : n < rows.length, right[vs.length].n = (n : Int) ∧ x = RowD.cell m rows[n])
    (hx2 : right[vs.length].non = false → Row2 wx (fun b => w.heap.size ≤ b ∧ b < wx.heap.size) x m (tok xs right[vs.length].n)) {o : Obj} {g cap : Nat}
    (ho5 : w5.ownsRow lo 56 1 (.slice (some ⟨g, 0, none⟩) (vs.length + 1) cap) (vs.length + 1) (vs ++ [x])) (hg5 : (wx.alloc o).grownBy w5 v.ownBlock) (hgl : v.ownBlock = some g ∨ g = (wx.alloc o).heap.size) :
    SyRel lo m rows xs right (.slice (some ⟨g, 0, none⟩) (vs.length + 1) cap) (vs ++ [x]) w5 := by
  have hba : Bl w (wx.alloc o) := hb.alloc o
  have hs5 := hg5.size
  rw [World.size_alloc] at hs5 hgl
  have hsx : w.heap.size ≤ wx.heap.size := hb.size
  have keep : ∀ b, b < wx.heap.size → v.ownBlock ≠ some b → w5.heap[b]? = (wx.alloc o).heap[b]? := fun b h1 h2 => hg5.block b (by rw [World.size_alloc]; omega) fun e => h2 e.symm
  have hnew : ∀ b, b < wx.heap.size → v.ownBlock ≠ some b → (Value.slice (some ⟨g, 0, none⟩) (vs.length + 1) cap).ownBlock ≠ some b := fun b h1 h2 e => by
    have e1 : g = b := by simpa [Value.ownBlock] using e
    rcases hgl with e2 | e2
    · exact h2 (by rw [e2, e1])
    · omega
  refine ⟨by rw [List.length_append]; exact ho5, fun j hj hj2 => ?_⟩
  rcases Nat.lt_or_ge j vs.length with hlt' | hge
  · rw [List.getElem_append_left hlt']
    obtain ⟨h1, h2⟩ := h.ent j hlt' hj2
    refine ⟨h1, fun e => ?_⟩
    refine ((h2 e).keep (w' := w5) fun b hP => ?_).mono fun b hP => ⟨hP.1, by omega, hnew b (by omega) hP.2.2⟩
    rw [keep b (by omega) hP.2.2]
    exact hba.block b hP.2.1
  · have e : j = vs.length := by rw [List.length_append] at hj; simp at hj; omega
    subst e
    rw [List.getElem_append_right (Nat.le_refl _)]
    simp only [Nat.sub_self, List.getElem_cons_zero]
    refine ⟨hx1, fun e => ?_⟩
    have hv : ∀ b, w.heap.size ≤ b → v.ownBlock ≠ some b := fun b hb e => by have := (h.own.lt b e).2; omega
    refine ((hx2 e).keep (w' := w5) fun b hP => ?_).mono fun b hP => ⟨by omega, by omega, hnew b hP.2 (hv b hP.1)⟩
    rw [keep b hP.2 (hv b hP.1)]
    exact Below.heap_alloc wx o b hP.2
/-- The tables of symbols, put together, when nothing turns but blocks below lo. -/
theorem SyRel.row3 {B0 : Nat} {vo : Value} {T : Cf.Tb} {A : Option Addr} {k c : Nat} {wl : World} (h : SyRel lo m rows xs right (.slice A k c) vs wl) (hl : vs.length = right.length) (hf : Fr (fun b => b < lo) wl w) (ht : Tab B0 m vo rows T w) :
    Row3 w (fun b => b < w.heap.size) A m (right.map (Cf.sym T xs)) := by
  have hs : wl.heap.size ≤ w.heap.size := hf.size
  have hblk : ∀ b, lo ≤ b → b < wl.heap.size → w.heap[b]? = wl.heap[b]? := fun b h1 h2 => hf.block b h2 (by omega)
  refine ⟨vs, by rw [List.length_map]; exact hl, ?_, fun i h1 h2 => ?_⟩
  · intro hn
    obtain ⟨g, cap, e, _, _⟩ := h.own.form hn
    have ho := h.own
    rw [e] at ho
    injection e with e1 _ _
    subst e1
    exact ((RdP.of_own (P := fun b => lo ≤ b ∧ b < wl.heap.size) ho fun b h1 h2 => ⟨h1, h2⟩).keep (w' := w) fun b hP => hblk b hP.1 hP.2).mono (fun b hP => by omega) hn
  · rw [List.getElem_map]
    obtain ⟨g1, g2⟩ := h.ent i h1 (by omega)
    have hi : i < right.length := by omega
    cases e : right[i].non with
    | true =>
      obtain ⟨n, hn, e1, e2⟩ := g1 e
      rw [e2]
      have : Cf.sym T xs right[i] = T n := by
        funext a b
        unfold Cf.sym
        rw [if_pos e, e1, Int.toNat_natCast]
      rw [this]
      exact (ht.row2 hn).mono fun b hP => hP.2
    | false =>
      have : Cf.sym T xs right[i] = tok xs right[i].n := by
        funext a b
        unfold Cf.sym tok
        rw [if_neg (by rw [e]; decide)]
      rw [this]
      exact ((g2 e).keep fun b hP => hblk b hP.1 hP.2.1).mono fun b hP => by omega
end
/-- What row tells, by what symbols lead to. -/
theorem walk_ch {T : Cf.Tb} {xs : List Int} {right : List Gr.Sy} {a b : Nat} (hb : b < xs.length + 1) : walkF (right.map (Cf.sym T xs)) (upd (fun _ => false) a true) b = true ↔ Cf.Ch T xs right a b := by
  rw [walkF_map, Cf.walk_iff (by omega)]
  constructor
  · rintro ⟨a', h1, h2⟩
    unfold upd at h1
    split at h1
    · rename_i e; subst e; exact h2
    · cases h1
  · intro h
    exact ⟨a, by unfold upd; rw [if_pos rfl], h⟩
end Go.Proofs.Ytmdepbgcgkifpaa
