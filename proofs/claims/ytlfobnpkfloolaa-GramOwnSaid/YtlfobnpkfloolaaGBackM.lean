/- Grammars and bytes, there and back: plain facts for the laws. -/
import Derived.Test.YtlfobnpkfloolaaGAwake
import Derived.Test.YtlfobnpkfloolaaGOpen
namespace Go.Proofs.Ytlfobnpkfloolaa
open Go.RowKit

theorem Prs.drew {w : World} {B : Nat} {A : Option Addr} {ps : List Gr.Pr} (h : Prs w B A ps) : Prs w.drew B A ps := h
theorem readOf_back {g : Gr.Gm} (h : okB g = true) : readOf (Gr.gmBytes g) = (g, 0) := by
  have e := Gr.rdGm_back g ((okB_iff g).1 h) []
  rw [List.append_nil] at e
  have h1 : Wr.fin (Gr.rdGm (Gr.gmBytes g)).2 = 0 := by rw [e]; rfl
  have h2 : okB (Gr.rdGm (Gr.gmBytes g)).1 = true := by rw [e]; exact h
  rw [readOf_ok h1 h2, e]
theorem readOf_inv {l : List Nat} (hb : ∀ c ∈ l, c < 256) (h : (readOf l).2 = 0) : okB (readOf l).1 = true ∧ bytesOf (readOf l).1 = l ∧ errOf (readOf l).1 = 0 := by
  obtain ⟨h1, h2, h3⟩ := readOf_zero h
  rw [h3]
  refine ⟨h2, ?_, errOf_ok h2⟩
  rw [bytesOf_ok h2]
  exact (Gr.rdGm_inv hb (fin_nil h1)).symm
theorem bytes_iff {g h : Gr.Gm} (hg : okB g = true) (hh : okB h = true) : decide (bytesOf g = bytesOf h) = decide (g = h) := by
  rw [bytesOf_ok hg, bytesOf_ok hh, decide_eq_decide]
  exact ⟨fun e => Gr.gmBytes_inj ((okB_iff g).1 hg) ((okB_iff h).1 hh) e, fun e => by rw [e]⟩
theorem bytesOf_len (t n s : Int) (ps : List Gr.Pr) : (bytesOf ⟨t, n, s, ps⟩).length ≤ 7000 := by
  cases h : okB ⟨t, n, s, ps⟩ with
  | true => rw [bytesOf_ok h]; exact gmBytes_len t n s ps h
  | false => rw [bytesOf_no h]; exact Nat.zero_le _

end Go.Proofs.Ytlfobnpkfloolaa
