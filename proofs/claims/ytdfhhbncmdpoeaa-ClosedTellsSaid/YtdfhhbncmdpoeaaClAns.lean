/- What is closed, counted out; awake's answers. -/
import Derived.Test.YtdfhhbncmdpoeaaClAln
import Derived.Test.YtdfhhbncmdpoeaaLitS
namespace Go.Proofs.Ytdfhhbncmdpoeaa
open Go.RowKit

def allB (g : Gr.Gm) (xs : List Int) (m : Nat) (P : List St4) : Bool :=
  (begL g (g.start, 0)).all (fun s => decide (s ∈ P)) && P.all (fun t => match Ch.waitOf g t with | some x => (begL g x).all fun s => decide (s ∈ P) | none => true) &&
  P.all (fun t => match Ch.symAt g t.2 with | some y => !decide (y.non = false ∧ t.1 < m ∧ xs[t.1]? = some y.n) || decide ((t.1 + 1, (⟨t.2.prod, t.2.dot + 1, t.2.frm⟩ : Ch.Im)) ∈ P) | none => true) &&
  (Ch.endL g P).all (fun e => (Ch.waitL g P (e.1, e.2.1)).all fun y => decide ((e.2.2, (⟨y.prod, y.dot + 1, y.frm⟩ : Ch.Im)) ∈ P))
theorem wait_ne {g : Gr.Gm} {P : List St4} {x : Int × Nat} : Ch.waitL g P x ≠ [] ↔ ∃ t ∈ P, Ch.waitOf g t = some x := by
  unfold Ch.waitL
  constructor
  · intro h
    obtain ⟨y, hy⟩ := List.exists_mem_of_ne_nil _ h
    obtain ⟨t, ht, _⟩ := List.mem_map.1 hy
    rw [List.mem_filter] at ht
    exact ⟨t, ht.1, of_decide_eq_true ht.2⟩
  · rintro ⟨t, ht, h⟩ e
    have h2 : t.2 ∈ (P.filter fun s => decide (Ch.waitOf g s = some x)).map (·.2) := List.mem_map.2 ⟨t, List.mem_filter.2 ⟨ht, decide_eq_true h⟩, rfl⟩
    rw [e] at h2
    cases h2
theorem allB_iff {g : Gr.Gm} {xs : List Int} {m : Nat} {P : List St4} : allB g xs m P = true ↔ AllIn g xs m P := by
  unfold allB AllIn
  rw [Bool.and_eq_true, Bool.and_eq_true, Bool.and_eq_true, List.all_eq_true, List.all_eq_true, List.all_eq_true, List.all_eq_true, and_assoc, and_assoc]
  refine and_congr ?_ (and_congr ?_ (and_congr ?_ ?_))
  · exact forall_congr' fun s => ⟨fun h hs => of_decide_eq_true (h hs), fun h hs => decide_eq_true (h hs)⟩
  · constructor
    · rintro h s ⟨x, hx, hs⟩
      obtain ⟨t, ht, hw⟩ := wait_ne.1 hx
      have h1 := h t ht
      rw [hw] at h1
      exact of_decide_eq_true (List.all_eq_true.1 h1 s hs)
    · intro h t ht
      cases hw : Ch.waitOf g t with
      | none => rfl
      | some x => exact List.all_eq_true.2 fun s hs => decide_eq_true (h s ⟨x, wait_ne.2 ⟨t, ht, hw⟩, hs⟩)
  · constructor
    · rintro h s ⟨t, ht, y, hy, h1, h2, h3, rfl⟩
      have h4 := h t ht
      rw [hy] at h4
      simp only [decide_eq_true (show y.non = false ∧ t.1 < m ∧ xs[t.1]? = some y.n from ⟨h1, h2, h3⟩), Bool.not_true, Bool.false_or] at h4
      exact of_decide_eq_true h4
    · intro h t ht
      cases hy : Ch.symAt g t.2 with
      | none => rfl
      | some y =>
        show (!decide (y.non = false ∧ t.1 < m ∧ xs[t.1]? = some y.n) || decide _) = true
        by_cases hc : y.non = false ∧ t.1 < m ∧ xs[t.1]? = some y.n
        · rw [decide_eq_true (h _ ⟨t, ht, y, hy, hc.1, hc.2.1, hc.2.2, rfl⟩), Bool.or_true]
        · rw [decide_eq_false hc]; rfl
  · constructor
    · rintro h s ⟨e, he, y, hy, rfl⟩
      exact of_decide_eq_true (List.all_eq_true.1 (h e he) y hy)
    · intro h e he
      exact List.all_eq_true.2 fun y hy => decide_eq_true (h _ ⟨e, he, y, hy, rfl⟩)
def closedB (g : Gr.Gm) (xs : List Int) (L : List (List Ix)) : Bool := keepB g xs.length L && allB g xs (L.length - 1) (putS (doneS L L.length 0))
theorem closedB_iff {g : Gr.Gm} {xs : List Int} {L : List (List Ix)} : closedB g xs L = true ↔ ClosedP g xs L := by
  unfold closedB ClosedP
  rw [Bool.and_eq_true, allB_iff]

def ps19 : List Gr.Pr := [⟨0, [⟨false, 0⟩]⟩]
def ls19 : List (List Ix) := [[⟨0, 0, 0⟩], [⟨0, 1, 0⟩]]
theorem c19a : closedB ⟨1, 1, 0, ps19⟩ [0] ls19 = true := by kernel_rfl
theorem c19b : closedB ⟨1, 1, 0, ps19⟩ [0] [[⟨0, 0, 0⟩], []] = false := by kernel_rfl
theorem c19c : closedB ⟨1, 1, 0, ps19⟩ [0] (ls19.take 1) = true := by kernel_rfl
theorem c19d : closedB ⟨1, 1, 0, ps19⟩ [] ls19 = false := by kernel_rfl
theorem r19a : Dv.replayOf (okB ⟨1, 1, 0, ps19⟩) ⟨1, 1, 0, ps19⟩ [0] = ([0], 0) := by kernel_rfl
theorem r19b : (Dv.replayOf (okB ⟨1, 1, 0, ps19⟩) ⟨1, 1, 0, ps19⟩ []).2 ≠ 0 := by
  have h : (Dv.replayOf (okB ⟨1, 1, 0, ps19⟩) ⟨1, 1, 0, ps19⟩ []).2 = 3 := by kernel_rfl
  rw [h]; decide
theorem a19a : AloneP ⟨1, 1, 0, ps19⟩ [0] ls19 [0] := by
  refine ⟨rfl, r19a, closedB_iff.1 c19a, fun nd hnd => ?_⟩
  obtain ⟨m, nds, pl, hl, hd⟩ := nds_of r19a
  rintro ⟨i, row, hm, ho⟩
  have hok := nds_ok hl hd (by decide) hnd
  obtain ⟨i2, row2, e, hn⟩ := hok _ hm
  have hi : i = 0 := by
    injection e with e1 e2
    have h3 : i2 < 1 := hn.prod
    have e1 := Int.ofNat.inj e1
    omega
  subst hi
  rcases ho with ⟨p, j, q, h1, h2, h3, h4, h5⟩ | ⟨p, dot, s, fd, fe, h1, h2, h3, _⟩
  · have h6 : j < 1 := Ch.lt_of_get h2
    omega
  · have h6 : p = ⟨0, [⟨false, 0⟩]⟩ := (Option.some.inj h1).symm
    subst h6
    cases dot with
    | zero =>
      have h7 : s = ⟨false, 0⟩ := (Option.some.inj h2).symm
      subst h7
      cases h3
    | succ d => cases h2
theorem a19b : ¬ AloneP ⟨1, 1, 0, ps19⟩ [0] ls19 [] := fun h => r19b (by rw [h.2.1])
theorem a19c : ¬ AloneP ⟨1, 1, 0, ps19⟩ [0] (ls19.take 1) [0] := fun h => by have := h.1; simp [ls19] at this
end Go.Proofs.Ytdfhhbncmdpoeaa
