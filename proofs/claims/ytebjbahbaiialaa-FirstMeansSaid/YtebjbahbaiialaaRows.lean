/-
  No cell of these rows narrows 'for every input' (looked for: loops, veiled, ifaces, maps, wideKeys, modest, calm, conditions, laid).
  DERIVED. THE GIVEN ROWS OF THIS SEAT. 3 by the template 'for every input the law returns true; each argument reads behind the call as it read before'; 0 by the template 'total and deterministic' (their statements: YtebjbahbaiialaaTotals.lean).
  GIVEN WITH THE SEED: the statements are not yours to turn. If you find one false, say at which input.
  Laid BY PROGRAM, IN A SANDBOX (cutbox-rows.mjs): the forced cells as the released guide's own fill.sh prints them over the translation 388f08afd4e7f650… (all of the seat's roots in one cut). By AI agents, Wed Nov 11 2026. No macro, syntax, notation, axiom, sorry.
-/
import Derived.Test.YtebjbahbaiialaaChecked
import GoSem.Claim
import GoSem.ClaimJoined
import GoSem.ClaimMapViews
import Derived.JoinedTies
import Derived.KernelRfl
namespace Go.Proofs.Ytebjbahbaiialaa
/- THE CELL 'sum', in the pinned program and in every row, IS THE sha256 OF THE DUMP (.gsa) THAT YtebjbahbaiialaaProg.lean LOADS. Nothing in Lean hashes anything: it is a label: what it is worth is what the hold of that sum in a sandbox is worth. -/
noncomputable def Try.pinned : Pinned := { name := "ytebjbahbaiialaa", sum := "388f08afd4e7f650d185c7f01513d6facff39b652d68a72bd04515d88cd5ed3d", checked := Try.checked }
namespace Rows
def none {H : Type} : Left H := { results := [], args := [] }

/-- 'probatelaw11.FirstTells': WHATEVER THE INPUT: true; the input reads as it did. -/
def firstTellsSpec : ChangeSpec := { name := "firstTells", fn := fun _ => fun
  | [d1, d2] => { results := [.lit (.bool true)], args := [d1, d2] }
  | _ => none }
def firstTellsRow : OpenClaim := { program := "ytebjbahbaiialaa", sum := "388f08afd4e7f650d185c7f01513d6facff39b652d68a72bd04515d88cd5ed3d", func := "probate/probatelaw11.FirstTells", spec := "firstTells", unfollowed := true, recurses := true, apart := false }
def FirstTellsSaid : Prop := firstTellsRow.holds Try.pinned (OpenSpec.ofChange firstTellsSpec)

/-- ITS FALSE NEIGHBOUR: 'it returns false'. Refute it at one input. -/
def firstTellsWrong : ChangeSpec := { name := "firstTells", fn := fun _ => fun
  | [d1, d2] => { results := [.lit (.bool false)], args := [d1, d2] }
  | _ => none }
def FirstTellsWrongFalsely : Prop := firstTellsRow.holds Try.pinned (OpenSpec.ofChange firstTellsWrong)

/-- 'probatelaw11.FirstMeans': WHATEVER THE INPUT: true; the input reads as it did. -/
def firstMeansSpec : ChangeSpec := { name := "firstMeans", fn := fun _ => fun
  | [d1, d2] => { results := [.lit (.bool true)], args := [d1, d2] }
  | _ => none }
def firstMeansRow : OpenClaim := { program := "ytebjbahbaiialaa", sum := "388f08afd4e7f650d185c7f01513d6facff39b652d68a72bd04515d88cd5ed3d", func := "probate/probatelaw11.FirstMeans", spec := "firstMeans", unfollowed := true, recurses := true, apart := false }
def FirstMeansSaid : Prop := firstMeansRow.holds Try.pinned (OpenSpec.ofChange firstMeansSpec)

/-- ITS FALSE NEIGHBOUR: 'it returns false'. Refute it at one input. -/
def firstMeansWrong : ChangeSpec := { name := "firstMeans", fn := fun _ => fun
  | [d1, d2] => { results := [.lit (.bool false)], args := [d1, d2] }
  | _ => none }
def FirstMeansWrongFalsely : Prop := firstMeansRow.holds Try.pinned (OpenSpec.ofChange firstMeansWrong)

/-- 'probatelaw11.FirstLeast': WHATEVER THE INPUT: true; the input reads as it did. -/
def firstLeastSpec : ChangeSpec := { name := "firstLeast", fn := fun _ => fun
  | [d] => { results := [.lit (.bool true)], args := [d] }
  | _ => none }
def firstLeastRow : OpenClaim := { program := "ytebjbahbaiialaa", sum := "388f08afd4e7f650d185c7f01513d6facff39b652d68a72bd04515d88cd5ed3d", func := "probate/probatelaw11.FirstLeast", spec := "firstLeast", unfollowed := true, recurses := true, apart := false }
def FirstLeastSaid : Prop := firstLeastRow.holds Try.pinned (OpenSpec.ofChange firstLeastSpec)

/-- ITS FALSE NEIGHBOUR: 'it returns false'. Refute it at one input. -/
def firstLeastWrong : ChangeSpec := { name := "firstLeast", fn := fun _ => fun
  | [d] => { results := [.lit (.bool false)], args := [d] }
  | _ => none }
def FirstLeastWrongFalsely : Prop := firstLeastRow.holds Try.pinned (OpenSpec.ofChange firstLeastWrong)

/- THE SECOND FORM. 'bulk': how many values and letters a reading holds, each counted each time it is reached (what is shared counts as often as it is met; a slice's spare places count too). A statement '..UptoSaid' is the law's where the arguments, and the package variables that the reading takes, are together of bulk at most 1048576: NARROWER than '..Said'. Prove '..Said' where nothing that the law and all that it calls make is longer than what came in: it says more and counts as full. Else prove '..UptoSaid'. A law counts once. -/
mutual
def uptoBulk {H : Type} : DataW H → Nat
  | .lit (.string bytes) => bytes.length + 1
  | .lit _ => 1
  | .nil => 1
  | .ptr d => uptoBulk d + 1
  | .slice elems spare => uptoBulkAll elems + uptoBulkAll spare + 1
  | .agg parts => uptoBulkAll parts + 1
  | .iface _ d => uptoBulk d + 1
  | .map entries => uptoBulkEntries entries + 1
  | .held _ => 1
def uptoBulkAll {H : Type} : List (DataW H) → Nat
  | [] => 0
  | d :: r => uptoBulk d + uptoBulkAll r
def uptoBulkEntries {H : Type} : List (Lit × DataW H) → Nat
  | [] => 0
  | x :: r => uptoBulkEntry x + uptoBulkEntries r
def uptoBulkEntry {H : Type} : Lit × DataW H → Nat
  | (.string bytes, d) => bytes.length + uptoBulk d + 1
  | (_, d) => uptoBulk d + 1
 end
def uptoSmall : (H : Type) → List (DataW H) → Bool := fun _ ds => decide (uptoBulkAll ds ≤ 1048576)
def OpenSpec.upto (s : _root_.Go.ChangeSpec) : _root_.Go.OpenSpec := { _root_.Go.OpenSpec.ofChange s with cond := some uptoSmall }

/-- 'probatelaw11.FirstTells', WHERE WHAT IT READS IS OF BULK AT MOST 1048576: true; the input reads as it did. -/
def firstTellsUptoRow : OpenClaim := { program := "ytebjbahbaiialaa", sum := "388f08afd4e7f650d185c7f01513d6facff39b652d68a72bd04515d88cd5ed3d", func := "probate/probatelaw11.FirstTells", spec := "firstTells", unfollowed := true, recurses := true, apart := false, narrowed := true }
def FirstTellsUptoSaid : Prop := firstTellsUptoRow.holds Try.pinned (OpenSpec.upto firstTellsSpec)

/-- 'probatelaw11.FirstMeans', WHERE WHAT IT READS IS OF BULK AT MOST 1048576: true; the input reads as it did. -/
def firstMeansUptoRow : OpenClaim := { program := "ytebjbahbaiialaa", sum := "388f08afd4e7f650d185c7f01513d6facff39b652d68a72bd04515d88cd5ed3d", func := "probate/probatelaw11.FirstMeans", spec := "firstMeans", unfollowed := true, recurses := true, apart := false, narrowed := true }
def FirstMeansUptoSaid : Prop := firstMeansUptoRow.holds Try.pinned (OpenSpec.upto firstMeansSpec)

/-- 'probatelaw11.FirstLeast', WHERE WHAT IT READS IS OF BULK AT MOST 1048576: true; the input reads as it did. -/
def firstLeastUptoRow : OpenClaim := { program := "ytebjbahbaiialaa", sum := "388f08afd4e7f650d185c7f01513d6facff39b652d68a72bd04515d88cd5ed3d", func := "probate/probatelaw11.FirstLeast", spec := "firstLeast", unfollowed := true, recurses := true, apart := false, narrowed := true }
def FirstLeastUptoSaid : Prop := firstLeastUptoRow.holds Try.pinned (OpenSpec.upto firstLeastSpec)

end Rows
end Go.Proofs.Ytebjbahbaiialaa
