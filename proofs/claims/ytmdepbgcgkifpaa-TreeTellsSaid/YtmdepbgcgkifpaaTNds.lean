/- Nodes in memory, with where their places lie. -/
import Derived.Test.YtmdepbgcgkifpaaTDerive
namespace Go.Proofs.Ytmdepbgcgkifpaa
open Go.RowKit

structure Nh where
  prod : Int
  row : List Int
  at_ : Option Addr
  cap : Nat
def Nh.nd (h : Nh) : Int × List Int := (h.prod, h.row)
def nhRow : List Nh → List Value := row2 (fun h => .int .i64 h.prod) (fun h => .slice h.at_ h.row.length h.cap)
theorem nhRow_len (l : List Nh) : (nhRow l).length = l.length * 2 := row2_len l
theorem nhRow_append (a b : List Nh) : nhRow (a ++ b) = nhRow a ++ nhRow b := row2_append a b
theorem nhRow_one (l : List Nh) : ∀ u ∈ nhRow l, u.oneCell' = true := row2_one l (fun _ => rfl) (fun _ => rfl)
/-- The slice at A reads as these nodes. -/
def NRh (w : World) (B : Nat) (A : Option Addr) (hs : List Nh) : Prop := Rd w B A (nhRow hs) ∧ ∀ h ∈ hs, Rd w B h.at_ (ins h.row)
section
variable {w w' : World} {B B' : Nat} {A : Option Addr} {hs : List Nh} {nd : List (Int × List Int)}
theorem NRh.bl (h : NRh w B A hs) (hB : B ≤ w.heap.size) (hb : Bl w w') : NRh w' B A hs := ⟨h.1.bl hB hb, fun x hx => (h.2 x hx).bl hB hb⟩
theorem NRh.more (h : NRh w B A hs) (hB : B ≤ B') : NRh w B' A hs := ⟨h.1.more hB, fun x hx => (h.2 x hx).more hB⟩
theorem NRh.rd (h : NRh w B A hs) : NRd w B A (hs.map Nh.nd) := fun i hi => by
  rw [List.length_map] at hi
  obtain ⟨b, off, e, hb, c0, c1⟩ := Rd.two h.1 hi
  have e2 : (hs.map Nh.nd).getD i (0, []) = hs[i].nd := by rw [List.getD_eq_getElem?_getD, List.getElem?_map, List.getElem?_eq_getElem hi]; rfl
  rw [e2]
  exact ⟨b, off, _, _, e, hb, c0, c1, h.2 _ (List.getElem_mem hi)⟩
theorem NRd.rows (h : NRd w B A nd) : ∃ hs : List Nh, hs.map Nh.nd = nd ∧ NRh w B A hs := by
  have key : ∀ i : Fin nd.length, ∃ x : Nh, x.nd = nd.getD i (0, []) ∧ (∃ b off, A = some ⟨b, off, none⟩ ∧ b < B ∧ w.cell? ⟨b, off + i * 2, none⟩ = some (.int .i64 x.prod) ∧ w.cell? ⟨b, off + i * 2 + 1, none⟩ = some (.slice x.at_ x.row.length x.cap)) ∧ Rd w B x.at_ (ins x.row) := fun i => by
    obtain ⟨b, off, Ax, c, e, hb, c0, c1, hr⟩ := h i i.2
    exact ⟨⟨_, _, Ax, c⟩, rfl, ⟨b, off, e, hb, c0, c1⟩, hr⟩
  obtain ⟨X, hX⟩ := Classical.skolem.1 key
  refine ⟨List.ofFn X, List.ext_getElem (by simp) fun i h1 h2 => ?_, ?_, fun x hx => ?_⟩
  · rw [List.getElem_map, List.getElem_ofFn, (hX ⟨i, h2⟩).1, List.getD_eq_getElem?_getD, List.getElem?_eq_getElem h2]
    rfl
  · intro hn
    rw [nhRow_len, List.length_ofFn] at hn
    obtain ⟨b, off, e, hb, _, _⟩ := (hX ⟨0, by omega⟩).2.1
    refine ⟨b, off, e, hb, fun j u hu => ?_⟩
    have hj : j < nd.length * 2 := by
      rcases Nat.lt_or_ge j (nd.length * 2) with hl | hl
      · exact hl
      · rw [List.getElem?_eq_none (by rw [nhRow_len, List.length_ofFn]; exact hl)] at hu; cases hu
    have hi : j / 2 < nd.length := by omega
    obtain ⟨b', off', e', _, c0, c1⟩ := (hX ⟨j / 2, hi⟩).2.1
    rw [e] at e'
    injection e' with e'
    injection e' with e1 e2
    subst e1 e2
    have h2 := row2_at (f := fun h : Nh => Value.int .i64 h.prod) (g := fun h => .slice h.at_ h.row.length h.cap) (List.ofFn X) (j / 2) (by rw [List.length_ofFn]; exact hi)
    rw [List.getElem_ofFn] at h2
    rcases Nat.mod_two_eq_zero_or_one j with hm | hm
    · have ej : j / 2 * 2 = j := by omega
      have hu2 := h2.1
      rw [ej] at hu2
      rw [show nhRow (List.ofFn X) = row2 _ _ (List.ofFn X) from rfl, hu2] at hu
      rw [← hu]
      have := c0
      rw [show (⟨j / 2, hi⟩ : Fin nd.length).val = j / 2 from rfl, ej] at this
      exact this
    · have ej : j / 2 * 2 + 1 = j := by omega
      have hu2 := h2.2
      rw [ej] at hu2
      rw [show nhRow (List.ofFn X) = row2 _ _ (List.ofFn X) from rfl, hu2] at hu
      rw [← hu]
      have := c1
      rw [show (⟨j / 2, hi⟩ : Fin nd.length).val = j / 2 from rfl, Nat.add_assoc, ej] at this
      exact this
  · obtain ⟨i, rfl⟩ := (List.mem_ofFn (f := X)).1 hx
    exact (hX i).2.2
end
/-- What Nodes leaves. -/
def NPost (nd : List (Int × List Int)) (c : Nat) (w : World) (e : Ending) (w' : World) : Prop :=
  ∃ A n k, e = .returned (.tuple #[.slice A n k, .int .i64 c]) ∧ n = nd.length ∧ NRd w' w'.heap.size A nd ∧ Bl w w'
/-- A row of nodes that is told. -/
def OPost (nd : List (Int × List Int)) (w : World) (e : Ending) (w' : World) : Prop :=
  ∃ A n k, e = .returned (.slice A n k) ∧ n = nd.length ∧ NRd w' w'.heap.size A nd ∧ Bl w w'
end Go.Proofs.Ytmdepbgcgkifpaa
