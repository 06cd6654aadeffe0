/- Symbols behind a place; what the program says of ints and symbols. -/
import Derived.Test.YtpblamiiggglaaaRoT
import Derived.Test.YtpblamiiggglaaaGMem
import Derived.Test.YtpblamiiggglaaaPrC
namespace Go.Proofs.Ytpblamiiggglaaa
open Go.RowKit

theorem tp_int : (Try.prog.info? 3).map (fun i => (i.zero, i.size, i.bytes)) = some (some (.int .i64 0), 1, 8) := by kernel_rfl
theorem tp_sym : (Try.prog.info? 41).map (fun i => (i.zero, i.size, i.bytes)) = some (some (.agg #[.bool false, .int .i64 0]), 2, 16) := by kernel_rfl
theorem tp_size : (Try.prog.info? 41).map (·.size) = some 2 := by kernel_rfl
theorem RdT.sy_cut {w : World} {t : TypeId} {A : Option Addr} {l : List Gr.Sy} (h : RdT w t A (syRow l)) {k cap : Nat} (hc : l.length ≤ cap) : RdT w t (if cap = k then A else A.map (·.add (k * 2))) (syRow (l.drop k)) := fun hn => by
  rw [syRow_len, List.length_drop] at hn
  obtain ⟨b, off, cs, fr, e, hb, hcell⟩ := h (by rw [syRow_len]; omega)
  rw [if_neg (by omega)]
  refine ⟨b, off + k * 2, cs, fr, ?_, hb, fun j u hu => ?_⟩
  · subst e
    simp only [Option.map_some, Addr.add]
    split
    · rename_i h0; rw [h0]; rfl
    · rfl
  · rw [Nat.add_assoc]
    refine hcell (k * 2 + j) u ?_
    have e2 : l = l.take k ++ l.drop k := (List.take_append_drop k l).symm
    rw [e2, syRow_append, List.getElem?_append_right (by rw [syRow_len, List.length_take]; omega), syRow_len, List.length_take, show k * 2 + j - min k l.length * 2 = j by omega]
    exact hu
/-- Symbols of the arguments', below lo, or in a block of symbols. -/
def RdS (w : World) (lo : Nat) (A : Option Addr) (xs : List Value) : Prop := Rd w lo A xs ∨ RdT w 41 A xs
section
variable {w w' : World} {lo : Nat} {A : Option Addr} {xs : List Value}
theorem RdS.keep (h : RdS w lo A xs) (hb : Below lo w w') (hk : KeepT 41 w w') : RdS w' lo A xs := h.imp (fun h => h.below hb) (fun h => h.keep hk)
theorem RdS.bl (h : RdS w lo A xs) (hlo : lo ≤ w.heap.size) (hb : Bl w w') : RdS w' lo A xs := h.keep (hb.mono hlo) (.of_bl hb)
theorem RdS.at_ (h : RdS w lo A xs) (hn : 0 < xs.length) : ∃ b off, A = some ⟨b, off, none⟩ ∧ ∀ j u, xs[j]? = some u → w.cell? ⟨b, off + j, none⟩ = some u := by
  rcases h with h | h
  · obtain ⟨b, off, e, _, hc⟩ := h hn
    exact ⟨b, off, e, hc⟩
  · obtain ⟨b, off, _, _, e, _, hc⟩ := h hn
    exact ⟨b, off, e, hc⟩
theorem RdS.sy_cut {l : List Gr.Sy} (h : RdS w lo A (syRow l)) {k cap : Nat} (hc : l.length ≤ cap) : RdS w lo (if cap = k then A else A.map (·.add (k * 2))) (syRow (l.drop k)) := h.imp (fun h => h.sy_cut hc) (fun h => h.sy_cut hc)
end
end Go.Proofs.Ytpblamiiggglaaa
