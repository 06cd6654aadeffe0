/-
  No cell of these rows narrows 'for every input' (looked for: loops, veiled, ifaces, maps, wideKeys, modest, calm, conditions, laid).
  DERIVED. THE GIVEN ROWS OF THIS SEAT. 3 by the template 'for every input the law returns true; each argument reads behind the call as it read before'; 0 by the template 'total and deterministic' (their statements: YtgmnokmchjeflaaTotals.lean).
  GIVEN WITH THE SEED: the statements are not yours to turn. If you find one false, say at which input.
  Laid BY PROGRAM, IN A SANDBOX (cutbox-rows.mjs): the forced cells as the released guide's own fill.sh prints them over the translation de8cc3faedb99dc8… (all of the seat's roots in one cut). By AI agents, Wed Nov 11 2026. No macro, syntax, notation, axiom, sorry.
-/
import Derived.Test.YtgmnokmchjeflaaChecked
import GoSem.Claim
import GoSem.ClaimJoined
import GoSem.ClaimMapViews
import Derived.JoinedTies
import Derived.KernelRfl
namespace Go.Proofs.Ytgmnokmchjeflaa
/- THE CELL 'sum', in the pinned program and in every row, IS THE sha256 OF THE DUMP (.gsa) THAT YtgmnokmchjeflaaProg.lean LOADS. Nothing in Lean hashes anything: it is a label: what it is worth is what the hold of that sum in a sandbox is worth. -/
noncomputable def Try.pinned : Pinned := { name := "ytgmnokmchjeflaa", sum := "de8cc3faedb99dc8a16083d1c098248a7d43f4d15efe7b9195596b2d387c8ceb", checked := Try.checked }
namespace Rows
def none {H : Type} : Left H := { results := [], args := [] }

/-- 'probatelaw12.FollowTells': WHATEVER THE INPUT: true; the input reads as it did. -/
def followTellsSpec : ChangeSpec := { name := "followTells", fn := fun _ => fun
  | [d] => { results := [.lit (.bool true)], args := [d] }
  | _ => none }
def followTellsRow : OpenClaim := { program := "ytgmnokmchjeflaa", sum := "de8cc3faedb99dc8a16083d1c098248a7d43f4d15efe7b9195596b2d387c8ceb", func := "probate/probatelaw12.FollowTells", spec := "followTells", unfollowed := true, recurses := true, apart := false }
def FollowTellsSaid : Prop := followTellsRow.holds Try.pinned (OpenSpec.ofChange followTellsSpec)

/-- ITS FALSE NEIGHBOUR: 'it returns false'. Refute it at one input. -/
def followTellsWrong : ChangeSpec := { name := "followTells", fn := fun _ => fun
  | [d] => { results := [.lit (.bool false)], args := [d] }
  | _ => none }
def FollowTellsWrongFalsely : Prop := followTellsRow.holds Try.pinned (OpenSpec.ofChange followTellsWrong)

/-- 'probatelaw12.FollowClosed': WHATEVER THE INPUT: true; the input reads as it did. -/
def followClosedSpec : ChangeSpec := { name := "followClosed", fn := fun _ => fun
  | [d] => { results := [.lit (.bool true)], args := [d] }
  | _ => none }
def followClosedRow : OpenClaim := { program := "ytgmnokmchjeflaa", sum := "de8cc3faedb99dc8a16083d1c098248a7d43f4d15efe7b9195596b2d387c8ceb", func := "probate/probatelaw12.FollowClosed", spec := "followClosed", unfollowed := true, recurses := true, apart := false }
def FollowClosedSaid : Prop := followClosedRow.holds Try.pinned (OpenSpec.ofChange followClosedSpec)

/-- ITS FALSE NEIGHBOUR: 'it returns false'. Refute it at one input. -/
def followClosedWrong : ChangeSpec := { name := "followClosed", fn := fun _ => fun
  | [d] => { results := [.lit (.bool false)], args := [d] }
  | _ => none }
def FollowClosedWrongFalsely : Prop := followClosedRow.holds Try.pinned (OpenSpec.ofChange followClosedWrong)

/-- 'probatelaw12.FollowMeans': WHATEVER THE INPUT: true; the input reads as it did. -/
def followMeansSpec : ChangeSpec := { name := "followMeans", fn := fun _ => fun
  | [d1, d2] => { results := [.lit (.bool true)], args := [d1, d2] }
  | _ => none }
def followMeansRow : OpenClaim := { program := "ytgmnokmchjeflaa", sum := "de8cc3faedb99dc8a16083d1c098248a7d43f4d15efe7b9195596b2d387c8ceb", func := "probate/probatelaw12.FollowMeans", spec := "followMeans", unfollowed := true, recurses := true, apart := false }
def FollowMeansSaid : Prop := followMeansRow.holds Try.pinned (OpenSpec.ofChange followMeansSpec)

/-- ITS FALSE NEIGHBOUR: 'it returns false'. Refute it at one input. -/
def followMeansWrong : ChangeSpec := { name := "followMeans", fn := fun _ => fun
  | [d1, d2] => { results := [.lit (.bool false)], args := [d1, d2] }
  | _ => none }
def FollowMeansWrongFalsely : Prop := followMeansRow.holds Try.pinned (OpenSpec.ofChange followMeansWrong)

/- THE SECOND FORM. 'bulk': how many values and letters a reading holds, each counted each time it is reached (what is shared counts as often as it is met; a slice's spare places count too). A statement '..UptoSaid' is the law's where the arguments, and the package variables that the reading takes, are together of bulk at most 1048576: NARROWER than '..Said'. Prove '..Said' where nothing that the law and all that it calls make is longer than what came in: it says more and counts as full. Else prove '..UptoSaid'. A law counts once. -/
mutual
def uptoBulk {H : Type} : DataW H → Nat
  | .lit (.string bytes) => bytes.length + 1
  | .lit _ => 1
  | .nil => 1
  | .ptr d => uptoBulk d + 1
  | .slice elems spare => uptoBulkAll elems + uptoBulkAll spare + 1
  | .agg parts => uptoBulkAll parts + 1
  | .iface _ d => uptoBulk d + 1
  | .map entries => uptoBulkEntries entries + 1
  | .held _ => 1
def uptoBulkAll {H : Type} : List (DataW H) → Nat
  | [] => 0
  | d :: r => uptoBulk d + uptoBulkAll r
def uptoBulkEntries {H : Type} : List (Lit × DataW H) → Nat
  | [] => 0
  | x :: r => uptoBulkEntry x + uptoBulkEntries r
def uptoBulkEntry {H : Type} : Lit × DataW H → Nat
  | (.string bytes, d) => bytes.length + uptoBulk d + 1
  | (_, d) => uptoBulk d + 1
 end
def uptoSmall : (H : Type) → List (DataW H) → Bool := fun _ ds => decide (uptoBulkAll ds ≤ 1048576)
def OpenSpec.upto (s : _root_.Go.ChangeSpec) : _root_.Go.OpenSpec := { _root_.Go.OpenSpec.ofChange s with cond := some uptoSmall }

/-- 'probatelaw12.FollowTells', WHERE WHAT IT READS IS OF BULK AT MOST 1048576: true; the input reads as it did. -/
def followTellsUptoRow : OpenClaim := { program := "ytgmnokmchjeflaa", sum := "de8cc3faedb99dc8a16083d1c098248a7d43f4d15efe7b9195596b2d387c8ceb", func := "probate/probatelaw12.FollowTells", spec := "followTells", unfollowed := true, recurses := true, apart := false, narrowed := true }
def FollowTellsUptoSaid : Prop := followTellsUptoRow.holds Try.pinned (OpenSpec.upto followTellsSpec)

/-- 'probatelaw12.FollowClosed', WHERE WHAT IT READS IS OF BULK AT MOST 1048576: true; the input reads as it did. -/
def followClosedUptoRow : OpenClaim := { program := "ytgmnokmchjeflaa", sum := "de8cc3faedb99dc8a16083d1c098248a7d43f4d15efe7b9195596b2d387c8ceb", func := "probate/probatelaw12.FollowClosed", spec := "followClosed", unfollowed := true, recurses := true, apart := false, narrowed := true }
def FollowClosedUptoSaid : Prop := followClosedUptoRow.holds Try.pinned (OpenSpec.upto followClosedSpec)

/-- 'probatelaw12.FollowMeans', WHERE WHAT IT READS IS OF BULK AT MOST 1048576: true; the input reads as it did. -/
def followMeansUptoRow : OpenClaim := { program := "ytgmnokmchjeflaa", sum := "de8cc3faedb99dc8a16083d1c098248a7d43f4d15efe7b9195596b2d387c8ceb", func := "probate/probatelaw12.FollowMeans", spec := "followMeans", unfollowed := true, recurses := true, apart := false, narrowed := true }
def FollowMeansUptoSaid : Prop := followMeansUptoRow.holds Try.pinned (OpenSpec.upto followMeansSpec)

end Rows
end Go.Proofs.Ytgmnokmchjeflaa
