/- The first laws' awake: its grammar, and what is told of it. -/
import Derived.Test.YtebjbahbaiialaaFOf
namespace Go.Proofs.Ytebjbahbaiialaa
open Go.RowKit

/-- awake's grammar. -/
def pf3 : List Gr.Pr := [⟨0, [⟨true, 1⟩, ⟨false, 1⟩]⟩, ⟨1, [⟨false, 0⟩]⟩, ⟨1, []⟩]
theorem rf3_is : firstsOf ⟨2, 2, 0, pf3⟩ = [3, 1] := by kernel_rfl
theorem rf3_n1 : ofNum ⟨2, 2, 0, pf3⟩ [⟨true, 1⟩] = 1 := by kernel_rfl
theorem rf3_a1 : ofAll ⟨2, 2, 0, pf3⟩ [⟨true, 1⟩] = true := by kernel_rfl
theorem rf3_n2 : ofNum ⟨2, 2, 0, pf3⟩ [⟨true, 1⟩, ⟨false, 1⟩] = 3 := by kernel_rfl
theorem rf3_a2 : ofAll ⟨2, 2, 0, pf3⟩ [⟨true, 1⟩, ⟨false, 1⟩] = false := by kernel_rfl
end Go.Proofs.Ytebjbahbaiialaa
