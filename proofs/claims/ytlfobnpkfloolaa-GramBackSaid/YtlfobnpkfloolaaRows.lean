/-
  No cell of these rows narrows 'for every input' (looked for: loops, veiled, ifaces, maps, wideKeys, modest, calm, conditions, laid).
  DERIVED. THE GIVEN ROWS OF THIS SEAT. 4 by the template 'for every input the law returns true; each argument reads behind the call as it read before'; 0 by the template 'total and deterministic' (their statements: YtlfobnpkfloolaaTotals.lean).
  GIVEN WITH THE SEED: the statements are not yours to turn. If you find one false, say at which input.
  Laid BY PROGRAM, IN A SANDBOX (cutbox-rows.mjs): the forced cells as the released guide's own fill.sh prints them over the translation c5dd2df07b025950… (all of the seat's roots in one cut). By AI agents, Wed Nov 11 2026. No macro, syntax, notation, axiom, sorry.
-/
import Derived.Test.YtlfobnpkfloolaaChecked
import GoSem.Claim
import GoSem.ClaimJoined
import GoSem.ClaimMapViews
import Derived.JoinedTies
import Derived.KernelRfl
namespace Go.Proofs.Ytlfobnpkfloolaa
/- THE CELL 'sum', in the pinned program and in every row, IS THE sha256 OF THE DUMP (.gsa) THAT YtlfobnpkfloolaaProg.lean LOADS. Nothing in Lean hashes anything: it is a label: what it is worth is what the hold of that sum in a sandbox is worth. -/
noncomputable def Try.pinned : Pinned := { name := "ytlfobnpkfloolaa", sum := "c5dd2df07b025950450c5946d8209c8fa2d2098ac85db262eb3622f68e1b957d", checked := Try.checked }
namespace Rows
def none {H : Type} : Left H := { results := [], args := [] }

/-- 'probatelaw03.GramTells': WHATEVER THE INPUT: true; the input reads as it did. -/
def gramTellsSpec : ChangeSpec := { name := "gramTells", fn := fun _ => fun
  | [d1, d2, d3, d4] => { results := [.lit (.bool true)], args := [d1, d2, d3, d4] }
  | _ => none }
def gramTellsRow : OpenClaim := { program := "ytlfobnpkfloolaa", sum := "c5dd2df07b025950450c5946d8209c8fa2d2098ac85db262eb3622f68e1b957d", func := "probate/probatelaw03.GramTells", spec := "gramTells", unfollowed := true, recurses := true, apart := false }
def GramTellsSaid : Prop := gramTellsRow.holds Try.pinned (OpenSpec.ofChange gramTellsSpec)

/-- ITS FALSE NEIGHBOUR: 'it returns false'. Refute it at one input. -/
def gramTellsWrong : ChangeSpec := { name := "gramTells", fn := fun _ => fun
  | [d1, d2, d3, d4] => { results := [.lit (.bool false)], args := [d1, d2, d3, d4] }
  | _ => none }
def GramTellsWrongFalsely : Prop := gramTellsRow.holds Try.pinned (OpenSpec.ofChange gramTellsWrong)

/-- 'probatelaw03.GramBack': WHATEVER THE INPUT: true; the input reads as it did. -/
def gramBackSpec : ChangeSpec := { name := "gramBack", fn := fun _ => fun
  | [d1, d2, d3] => { results := [.lit (.bool true)], args := [d1, d2, d3] }
  | _ => none }
def gramBackRow : OpenClaim := { program := "ytlfobnpkfloolaa", sum := "c5dd2df07b025950450c5946d8209c8fa2d2098ac85db262eb3622f68e1b957d", func := "probate/probatelaw03.GramBack", spec := "gramBack", unfollowed := true, recurses := true, apart := false }
def GramBackSaid : Prop := gramBackRow.holds Try.pinned (OpenSpec.ofChange gramBackSpec)

/-- ITS FALSE NEIGHBOUR: 'it returns false'. Refute it at one input. -/
def gramBackWrong : ChangeSpec := { name := "gramBack", fn := fun _ => fun
  | [d1, d2, d3] => { results := [.lit (.bool false)], args := [d1, d2, d3] }
  | _ => none }
def GramBackWrongFalsely : Prop := gramBackRow.holds Try.pinned (OpenSpec.ofChange gramBackWrong)

/-- 'probatelaw03.GramOf': WHATEVER THE INPUT: true; the input reads as it did. -/
def gramOfSpec : ChangeSpec := { name := "gramOf", fn := fun _ => fun
  | [d1, d2] => { results := [.lit (.bool true)], args := [d1, d2] }
  | _ => none }
def gramOfRow : OpenClaim := { program := "ytlfobnpkfloolaa", sum := "c5dd2df07b025950450c5946d8209c8fa2d2098ac85db262eb3622f68e1b957d", func := "probate/probatelaw03.GramOf", spec := "gramOf", unfollowed := true, recurses := true, apart := false }
def GramOfSaid : Prop := gramOfRow.holds Try.pinned (OpenSpec.ofChange gramOfSpec)

/-- ITS FALSE NEIGHBOUR: 'it returns false'. Refute it at one input. -/
def gramOfWrong : ChangeSpec := { name := "gramOf", fn := fun _ => fun
  | [d1, d2] => { results := [.lit (.bool false)], args := [d1, d2] }
  | _ => none }
def GramOfWrongFalsely : Prop := gramOfRow.holds Try.pinned (OpenSpec.ofChange gramOfWrong)

/-- 'probatelaw03.GramOwn': WHATEVER THE INPUT: true; the input reads as it did. -/
def gramOwnSpec : ChangeSpec := { name := "gramOwn", fn := fun _ => fun
  | [d] => { results := [.lit (.bool true)], args := [d] }
  | _ => none }
def gramOwnRow : OpenClaim := { program := "ytlfobnpkfloolaa", sum := "c5dd2df07b025950450c5946d8209c8fa2d2098ac85db262eb3622f68e1b957d", func := "probate/probatelaw03.GramOwn", spec := "gramOwn", unfollowed := true, recurses := true, apart := false }
def GramOwnSaid : Prop := gramOwnRow.holds Try.pinned (OpenSpec.ofChange gramOwnSpec)

/-- ITS FALSE NEIGHBOUR: 'it returns false'. Refute it at one input. -/
def gramOwnWrong : ChangeSpec := { name := "gramOwn", fn := fun _ => fun
  | [d] => { results := [.lit (.bool false)], args := [d] }
  | _ => none }
def GramOwnWrongFalsely : Prop := gramOwnRow.holds Try.pinned (OpenSpec.ofChange gramOwnWrong)

/- THE SECOND FORM. 'bulk': how many values and letters a reading holds, each counted each time it is reached (what is shared counts as often as it is met; a slice's spare places count too). A statement '..UptoSaid' is the law's where the arguments, and the package variables that the reading takes, are together of bulk at most 1048576: NARROWER than '..Said'. Prove '..Said' where nothing that the law and all that it calls make is longer than what came in: it says more and counts as full. Else prove '..UptoSaid'. A law counts once. -/
mutual
def uptoBulk {H : Type} : DataW H → Nat
  | .lit (.string bytes) => bytes.length + 1
  | .lit _ => 1
  | .nil => 1
  | .ptr d => uptoBulk d + 1
  | .slice elems spare => uptoBulkAll elems + uptoBulkAll spare + 1
  | .agg parts => uptoBulkAll parts + 1
  | .iface _ d => uptoBulk d + 1
  | .map entries => uptoBulkEntries entries + 1
  | .held _ => 1
def uptoBulkAll {H : Type} : List (DataW H) → Nat
  | [] => 0
  | d :: r => uptoBulk d + uptoBulkAll r
def uptoBulkEntries {H : Type} : List (Lit × DataW H) → Nat
  | [] => 0
  | x :: r => uptoBulkEntry x + uptoBulkEntries r
def uptoBulkEntry {H : Type} : Lit × DataW H → Nat
  | (.string bytes, d) => bytes.length + uptoBulk d + 1
  | (_, d) => uptoBulk d + 1
 end
def uptoSmall : (H : Type) → List (DataW H) → Bool := fun _ ds => decide (uptoBulkAll ds ≤ 1048576)
def OpenSpec.upto (s : _root_.Go.ChangeSpec) : _root_.Go.OpenSpec := { _root_.Go.OpenSpec.ofChange s with cond := some uptoSmall }

/-- 'probatelaw03.GramTells', WHERE WHAT IT READS IS OF BULK AT MOST 1048576: true; the input reads as it did. -/
def gramTellsUptoRow : OpenClaim := { program := "ytlfobnpkfloolaa", sum := "c5dd2df07b025950450c5946d8209c8fa2d2098ac85db262eb3622f68e1b957d", func := "probate/probatelaw03.GramTells", spec := "gramTells", unfollowed := true, recurses := true, apart := false, narrowed := true }
def GramTellsUptoSaid : Prop := gramTellsUptoRow.holds Try.pinned (OpenSpec.upto gramTellsSpec)

/-- 'probatelaw03.GramBack', WHERE WHAT IT READS IS OF BULK AT MOST 1048576: true; the input reads as it did. -/
def gramBackUptoRow : OpenClaim := { program := "ytlfobnpkfloolaa", sum := "c5dd2df07b025950450c5946d8209c8fa2d2098ac85db262eb3622f68e1b957d", func := "probate/probatelaw03.GramBack", spec := "gramBack", unfollowed := true, recurses := true, apart := false, narrowed := true }
def GramBackUptoSaid : Prop := gramBackUptoRow.holds Try.pinned (OpenSpec.upto gramBackSpec)

/-- 'probatelaw03.GramOf', WHERE WHAT IT READS IS OF BULK AT MOST 1048576: true; the input reads as it did. -/
def gramOfUptoRow : OpenClaim := { program := "ytlfobnpkfloolaa", sum := "c5dd2df07b025950450c5946d8209c8fa2d2098ac85db262eb3622f68e1b957d", func := "probate/probatelaw03.GramOf", spec := "gramOf", unfollowed := true, recurses := true, apart := false, narrowed := true }
def GramOfUptoSaid : Prop := gramOfUptoRow.holds Try.pinned (OpenSpec.upto gramOfSpec)

/-- 'probatelaw03.GramOwn', WHERE WHAT IT READS IS OF BULK AT MOST 1048576: true; the input reads as it did. -/
def gramOwnUptoRow : OpenClaim := { program := "ytlfobnpkfloolaa", sum := "c5dd2df07b025950450c5946d8209c8fa2d2098ac85db262eb3622f68e1b957d", func := "probate/probatelaw03.GramOwn", spec := "gramOwn", unfollowed := true, recurses := true, apart := false, narrowed := true }
def GramOwnUptoSaid : Prop := gramOwnUptoRow.holds Try.pinned (OpenSpec.upto gramOwnSpec)

end Rows
end Go.Proofs.Ytlfobnpkfloolaa
