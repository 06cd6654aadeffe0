/- What Check is to tell of any grammar. -/
import Derived.Test.YthhgjdnbeeadhaaSdMath
import Derived.Test.YthhgjdnbeeadhaaKMem
namespace Go.Proofs.Ythhgjdnbeeadhaa

/-- What is told of any grammar: the nonterminal, and why. -/
def chkOf (g : Gr.Gm) : Nat × Nat := if okB g then Sd.faultOf g else (0, 1)
theorem chkOf_no {g : Gr.Gm} (h : okB g = false) : chkOf g = (0, 1) := by unfold chkOf; rw [if_neg (by rw [h]; decide)]
theorem chkOf_ok {g : Gr.Gm} (h : okB g = true) : chkOf g = Sd.faultOf g := by unfold chkOf; rw [if_pos h]
end Go.Proofs.Ythhgjdnbeeadhaa
