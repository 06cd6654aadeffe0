/- The sets that came in as a table of items that may be; has of such. -/
import Derived.Test.YtdfhhbncmdpoeaaClRPl
import Derived.Test.YtdfhhbncmdpoeaaClRHas
import Derived.Test.YtdfhhbncmdpoeaaClRAdds
namespace Go.Proofs.Ytdfhhbncmdpoeaa
open Go.RowKit

theorem row_len {g : Gr.Gm} {m : Nat} {L : List (List Ix)} (h : keepB g m L = true) {a : Nat} {l : List Ix} (hl : L[a]? = some l) : (rowI L a).length = l.length := by
  have h2 := congrArg List.length (row_ix h hl).2
  rwa [List.length_map] at h2
theorem tab_of {g : Gr.Gm} {m : Nat} {L : List (List Ix)} (h : keepB g m L = true) {w : World} {B tb ofs : Nat} (hs : SetsX w B (some ⟨tb, ofs, none⟩) L) (hB : B ≤ w.heap.size) : TabX w tb ofs L.length (rowI L) := by
  have key : ∀ i, i < L.length → tb < B ∧ ∃ Ai ci, w.cell? ⟨tb, ofs + i, none⟩ = some (.slice Ai (rowI L i).length ci) ∧ Rd w w.heap.size Ai (imRow (rowI L i)) := fun i hi => by
    obtain ⟨b, o, Ai, ci, e, hb, hc, hr⟩ := hs.at_ hi
    injection e with e
    injection e with e1 e2 _
    subst e1 e2
    have hl : L[i]? = some L[i] := List.getElem?_eq_getElem hi
    refine ⟨hb, Ai, ci, by rw [row_len h hl]; exact hc, ?_⟩
    rw [imRow_ix, (row_ix h hl).2]
    exact hr.more hB
  exact ⟨Nat.lt_of_lt_of_le (key 0 (keepB_ok h).2.1).1 hB, fun i hi => (key i hi).2⟩
theorem ix_mem {l : List Ch.Im} {x : Ch.Im} : x.ix ∈ l.map Ch.Im.ix ↔ x ∈ l := by
  rw [List.mem_map]
  constructor
  · rintro ⟨y, hy, e⟩
    have e2 := congrArg Ix.im e
    rw [ix_im, ix_im] at e2
    rw [← e2]
    exact hy
  · exact fun h => ⟨x, h, rfl⟩
theorem rhasm_any (A : Option Addr) (n c : Nat) (l : List Ch.Im) (x : Ch.Im) (w : World) (B : Nat) (hn : n = l.length) (hm : n ≤ 1000000) (hr : Rd w B A (imRow l)) (hB : B ≤ w.heap.size) :
    Calls Try.prog 20 #[.slice A n c, .agg #[.int .i64 (x.prod : Int), .int .i64 (x.dot : Int), .int .i64 (x.frm : Int)]] w fun e w' => e = .returned (.bool (decide (x ∈ l))) ∧ Bl w w' := by
  refine (rhas_any A n c (l.map Ch.Im.ix) x.ix w B (by rw [List.length_map]; exact hn) hm (by rw [← imRow_ix]; exact hr) hB).mono ?_
  rintro e w' ⟨b, rfl, hi, hb⟩
  refine ⟨?_, hb⟩
  rw [ix_mem] at hi
  by_cases hx : x ∈ l
  · rw [hi.2 hx, decide_eq_true hx]
  · rw [decide_eq_false hx]
    cases b with
    | true => exact (hx (hi.1 rfl)).elim
    | false => rfl
theorem row_in {g : Gr.Gm} {m : Nat} {L : List (List Ix)} (h : keepB g m L = true) {a : Nat} (ha : a < L.length) {y : Ch.Im} (hy : y ∈ rowI L a) : imIn g y ∧ y.frm ≤ a := (kept_fine h ((mem_row h).2 ⟨ha, hy⟩)).2
theorem row_few {L : List (List Ix)} (h : ∀ l ∈ L, l.length ≤ 2000) (a : Nat) : (rowI L a).length ≤ 2000 := by
  unfold rowI
  rw [List.length_map, List.getD_eq_getElem?_getD]
  cases e : L[a]? with
  | none => exact Nat.zero_le _
  | some l => exact h l (List.mem_of_getElem? e)
end Go.Proofs.Ytdfhhbncmdpoeaa
