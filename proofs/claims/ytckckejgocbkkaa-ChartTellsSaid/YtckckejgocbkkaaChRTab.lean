/- The reference's table of sets in memory: it is the call's own, its rows are never written. -/
import Derived.Test.YtckckejgocbkkaaChRAdds
import Derived.Test.YtckckejgocbkkaaChE
namespace Go.Proofs.Ytckckejgocbkkaa
open Go.RowKit

def TabO (w : World) (tb m : Nat) (S : Nat → List Ch.Im) : Prop :=
  ∃ cs : Array Value, Bk w tb 26 cs ∧ cs.size = m ∧ ∀ i, i < m → ∃ Ai ci, cs[i]? = some (.slice Ai (S i).length ci) ∧ (S i).length ≤ ci ∧ Rd w w.heap.size Ai (imRow (S i))
def Ints (xs : List Value) : Prop := ∀ v ∈ xs, ∃ i : Int, v = .int .i64 i
theorem ints_im (l : List Ch.Im) : Ints (imRow l) := by
  intro v hv
  unfold imRow rowN at hv
  obtain ⟨x, _, hx⟩ := List.mem_flatMap.1 hv
  simp [imc] at hx
  rcases hx with rfl | rfl | rfl <;> exact ⟨_, rfl⟩
theorem ints_ins (l : List Int) : Ints (ins l) := by
  intro v hv
  unfold ins at hv
  obtain ⟨x, _, rfl⟩ := List.mem_map.1 hv
  exact ⟨x, rfl⟩
section
variable {w w' : World} {tb m : Nat} {S : Nat → List Ch.Im}
theorem TabO.lt (h : TabO w tb m S) : tb < w.heap.size := by obtain ⟨cs, h1, _⟩ := h; exact h1.lt
theorem TabO.free (h : TabO w tb m S) (i : Nat) : w.frozen? ⟨tb, i, none⟩ = false := by obtain ⟨cs, h1, _⟩ := h; exact h1.free i
theorem TabO.tabR (h : TabO w tb m S) : TabR w tb m S := by
  obtain ⟨cs, h1, _, h3⟩ := h
  refine ⟨h1.lt, fun i hi => ?_⟩
  obtain ⟨Ai, ci, e1, e2, e3⟩ := h3 i hi
  exact ⟨Ai, ci, by rw [h1.cell]; exact e1, e2, e3⟩
theorem TabO.bl (h : TabO w tb m S) (hb : Bl w w') : TabO w' tb m S := by
  obtain ⟨cs, h1, h2, h3⟩ := h
  refine ⟨cs, h1.bl hb, h2, fun i hi => ?_⟩
  obtain ⟨Ai, ci, e1, e2, e3⟩ := h3 i hi
  exact ⟨Ai, ci, e1, e2, rd_on e3 hb⟩
/-- No row of numbers lies in the table's block. -/
theorem TabO.apart (h : TabO w tb m S) {B : Nat} {A : Option Addr} {xs : List Value} (hr : Rd w B A xs) (hx : Ints xs) : ∀ b off, A = some ⟨b, off, none⟩ → 0 < xs.length → ¬ b = tb := by
  intro b off e hn hb
  obtain ⟨cs, h1, h2, h3⟩ := h
  obtain ⟨b', off', e', _, hc⟩ := hr hn
  rw [e'] at e
  injection e with e
  injection e with e1 e2 _
  subst e1 e2 hb
  have hc0 := hc 0 _ (List.getElem?_eq_getElem hn)
  rw [h1.cell] at hc0
  obtain ⟨i, hi⟩ := hx _ (List.getElem_mem hn)
  rw [hi] at hc0
  have hlt : off' + 0 < cs.size := by
    rcases Nat.lt_or_ge (off' + 0) cs.size with h | h
    · exact h
    · rw [Array.getElem?_eq_none h] at hc0; cases hc0
  obtain ⟨Ai, ci, e3, _⟩ := h3 (off' + 0) (by omega)
  rw [e3] at hc0
  cases hc0
theorem TabO.keep (h : TabO w tb m S) {A : Option Addr} {xs : List Value} (hr : Rd w w.heap.size A xs) (hx : Ints xs) (hf : Fr (fun k => k = tb) w w') : Rd w' w'.heap.size A xs :=
  (hr.fr (Nat.le_refl _) hf (h.apart hr hx)).more hf.size
theorem TabO.put (h : TabO w tb m S) {i : Nat} (hi : i < m) {A' : Option Addr} {c' : Nat} {l : List Ch.Im} (hr : Rd w w.heap.size A' (imRow l)) (hc : l.length ≤ c') : TabO (w.setCell ⟨tb, i, none⟩ (.slice A' l.length c')) tb m (Ch.upd S i l) := by
  have hf : Fr (fun k => k = tb) w (w.setCell ⟨tb, i, none⟩ (.slice A' l.length c')) := (Fr.refl _ w).own i _
  have h0 := h
  obtain ⟨cs, h1, h2, h3⟩ := h
  refine ⟨_, h1.put i _, by rw [Array.size_setIfInBounds]; exact h2, fun j hj => ?_⟩
  by_cases e : j = i
  · subst e
    refine ⟨A', c', ?_, by rw [Ch.upd_same]; exact hc, by rw [Ch.upd_same]; exact h0.keep hr (ints_im _) hf⟩
    rw [Ch.upd_same, Array.getElem?_setIfInBounds_self_of_lt (by omega)]
  · obtain ⟨Ai, ci, e1, e2, e3⟩ := h3 j hj
    rw [Ch.upd_other _ _ e]
    exact ⟨Ai, ci, by rw [Array.getElem?_setIfInBounds_ne (Ne.symm e)]; exact e1, e2, h0.keep e3 (ints_im _) hf⟩
theorem tab_new {base n : Nat} (h : w.ownsRow base 26 1 (.slice (some ⟨tb, 0, none⟩) n n) n (madeCells (Value.cells (.slice none 0 0)) (n * 1)).toList) : TabO w tb n (fun _ => []) ∧ base ≤ tb := by
  rcases h.2 with ⟨h0, _⟩ | ⟨g', cap, cur, hv, hb, hg, hnc, _, hcs, htake⟩
  · cases h0
  · cases hv
    refine ⟨⟨cur, hg, by omega, fun i hi => ⟨none, 0, ?_, Nat.le_refl _, Rd.nil⟩⟩, hb⟩
    have hm : (madeCells (Value.cells (.slice none 0 0)) (n * 1)).toList = List.replicate (n * 1) (.slice none 0 0) := toList_madeCells_one _ _
    rw [hm] at htake
    have e : (cur.toList.take (n * 1))[i]? = (List.replicate (n * 1) (Value.slice none 0 0))[i]? := by rw [htake]
    rw [List.getElem?_take_of_lt (by omega), Array.getElem?_toList, List.getElem?_replicate_of_lt (by omega)] at e
    exact e
theorem TabO.sets (h : TabO w tb m S) : SetsR w (some ⟨tb, 0, none⟩) ((List.range m).map S) := by
  obtain ⟨cs, h1, h2, h3⟩ := h
  refine ⟨cs.toList, fun _ => ⟨tb, 0, rfl, h1.lt, fun j u hu => ?_⟩, by simp [h2], fun i l hl => ?_⟩
  · rw [Nat.zero_add, h1.cell, ← Array.getElem?_toList]; exact hu
  · have hi : i < m := by
      rcases Nat.lt_or_ge i m with h | h
      · exact h
      · rw [List.getElem?_eq_none (by simp; omega)] at hl; cases hl
    rw [List.getElem?_map, List.getElem?_range hi] at hl
    injection hl with hl
    subst hl
    obtain ⟨Ai, ci, e1, e2, e3⟩ := h3 i hi
    exact ⟨Ai, ci, by rw [Array.getElem?_toList]; exact e1, e2, e3⟩
end
/-- What the sets of a round hold: few items, all of which may be. -/
theorem rnd_few {g : Gr.Gm} (hg : Gr.Ok g) {wd : List Int} {m : Nat} {S0 S : Nat → List Ch.Im} {b : Bool} {P : Prop} (h : Ch.Rnd g wd m S0 S b P) {a : Nat} (ha : a ≤ 24) : (S a).length ≤ 13500 := by
  have h1 := Ch.few (h.inc a).nodup (a := a) (fun x hx => (h.sound a x hx).small hg)
  omega
theorem it_inR {g : Gr.Gm} {wd : List Int} {a : Nat} {x : Ch.Im} (h : Ch.It g wd a x) : imIn g x := by
  obtain ⟨_, _, p, hp, hd, _⟩ := h.means
  exact ⟨p, hp, hd⟩
theorem rnd_tot {g : Gr.Gm} (hg : Gr.Ok g) {wd : List Int} {m : Nat} {S0 S : Nat → List Ch.Im} {b : Bool} {P : Prop} (h : Ch.Rnd g wd m S0 S b P) (hm : m ≤ 25) : Ch.tot m S ≤ m * 13500 :=
  Ch.tot_le fun a ha => rnd_few hg h (by omega)
theorem outI_len {g : Gr.Gm} {wd : List Int} {S : Nat → List Ch.Im} {a : Nat} {x : Ch.Im} (hp : g.prods.length ≤ 60) (hS : (S x.frm).length ≤ 13500) : (Ch.outI g wd S a x).1.length ≤ 13500 := by
  unfold Ch.outI
  cases Ch.symAt g x with
  | none => exact Nat.le_trans (lets_len _ _ _) hS
  | some s =>
    dsimp only
    split
    · exact Nat.le_trans (begs_len _ _ _) (by omega)
    · split <;> simp
/-- What must be there with an item is there. -/
def Cl (g : Gr.Gm) (wd : List Int) (S : Nat → List Ch.Im) (a : Nat) (x : Ch.Im) : Prop := ∀ y ∈ (Ch.outI g wd S a x).1, y ∈ S (Ch.outI g wd S a x).2
end Go.Proofs.Ytckckejgocbkkaa
