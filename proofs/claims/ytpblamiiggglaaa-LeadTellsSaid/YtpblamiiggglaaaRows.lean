/-
  No cell of these rows narrows 'for every input' (looked for: loops, veiled, ifaces, maps, wideKeys, modest, calm, conditions, laid).
  DERIVED. THE GIVEN ROWS OF THIS SEAT. 4 by the template 'for every input the law returns true; each argument reads behind the call as it read before'; 0 by the template 'total and deterministic' (their statements: YtpblamiiggglaaaTotals.lean).
  GIVEN WITH THE SEED: the statements are not yours to turn. If you find one false, say at which input.
  Laid BY PROGRAM, IN A SANDBOX (cutbox-rows.mjs): the forced cells as the released guide's own fill.sh prints them over the translation b7d136eea75e4b69… (all of the seat's roots in one cut). By AI agents, Wed Nov 11 2026. No macro, syntax, notation, axiom, sorry.
-/
import Derived.Test.YtpblamiiggglaaaChecked
import GoSem.Claim
import GoSem.ClaimJoined
import GoSem.ClaimMapViews
import Derived.JoinedTies
import Derived.KernelRfl
namespace Go.Proofs.Ytpblamiiggglaaa
/- THE CELL 'sum', in the pinned program and in every row, IS THE sha256 OF THE DUMP (.gsa) THAT YtpblamiiggglaaaProg.lean LOADS. Nothing in Lean hashes anything: it is a label: what it is worth is what the hold of that sum in a sandbox is worth. -/
noncomputable def Try.pinned : Pinned := { name := "ytpblamiiggglaaa", sum := "b7d136eea75e4b699a002001c11e3cb3bcc02cba80bc3770fa6a5a7016def331", checked := Try.checked }
namespace Rows
def none {H : Type} : Left H := { results := [], args := [] }

/-- 'probatelaw17.LeadTells': WHATEVER THE INPUT: true; the input reads as it did. -/
def leadTellsSpec : ChangeSpec := { name := "leadTells", fn := fun _ => fun
  | [d1, d2, d3] => { results := [.lit (.bool true)], args := [d1, d2, d3] }
  | _ => none }
def leadTellsRow : OpenClaim := { program := "ytpblamiiggglaaa", sum := "b7d136eea75e4b699a002001c11e3cb3bcc02cba80bc3770fa6a5a7016def331", func := "probate/probatelaw17.LeadTells", spec := "leadTells", unfollowed := true, recurses := true, plainKeys := false, apart := false }
def LeadTellsSaid : Prop := leadTellsRow.holds Try.pinned (OpenSpec.ofChange leadTellsSpec)

/-- ITS FALSE NEIGHBOUR: 'it returns false'. Refute it at one input. -/
def leadTellsWrong : ChangeSpec := { name := "leadTells", fn := fun _ => fun
  | [d1, d2, d3] => { results := [.lit (.bool false)], args := [d1, d2, d3] }
  | _ => none }
def LeadTellsWrongFalsely : Prop := leadTellsRow.holds Try.pinned (OpenSpec.ofChange leadTellsWrong)

/-- 'probatelaw17.LeadComes': WHATEVER THE INPUT: true; the input reads as it did. -/
def leadComesSpec : ChangeSpec := { name := "leadComes", fn := fun _ => fun
  | [d1, d2] => { results := [.lit (.bool true)], args := [d1, d2] }
  | _ => none }
def leadComesRow : OpenClaim := { program := "ytpblamiiggglaaa", sum := "b7d136eea75e4b699a002001c11e3cb3bcc02cba80bc3770fa6a5a7016def331", func := "probate/probatelaw17.LeadComes", spec := "leadComes", unfollowed := true, recurses := true, plainKeys := false, apart := false }
def LeadComesSaid : Prop := leadComesRow.holds Try.pinned (OpenSpec.ofChange leadComesSpec)

/-- ITS FALSE NEIGHBOUR: 'it returns false'. Refute it at one input. -/
def leadComesWrong : ChangeSpec := { name := "leadComes", fn := fun _ => fun
  | [d1, d2] => { results := [.lit (.bool false)], args := [d1, d2] }
  | _ => none }
def LeadComesWrongFalsely : Prop := leadComesRow.holds Try.pinned (OpenSpec.ofChange leadComesWrong)

/-- 'probatelaw17.LeadEnds': WHATEVER THE INPUT: true; the input reads as it did. -/
def leadEndsSpec : ChangeSpec := { name := "leadEnds", fn := fun _ => fun
  | [d1, d2, d3] => { results := [.lit (.bool true)], args := [d1, d2, d3] }
  | _ => none }
def leadEndsRow : OpenClaim := { program := "ytpblamiiggglaaa", sum := "b7d136eea75e4b699a002001c11e3cb3bcc02cba80bc3770fa6a5a7016def331", func := "probate/probatelaw17.LeadEnds", spec := "leadEnds", unfollowed := true, recurses := true, plainKeys := false, apart := false }
def LeadEndsSaid : Prop := leadEndsRow.holds Try.pinned (OpenSpec.ofChange leadEndsSpec)

/-- ITS FALSE NEIGHBOUR: 'it returns false'. Refute it at one input. -/
def leadEndsWrong : ChangeSpec := { name := "leadEnds", fn := fun _ => fun
  | [d1, d2, d3] => { results := [.lit (.bool false)], args := [d1, d2, d3] }
  | _ => none }
def LeadEndsWrongFalsely : Prop := leadEndsRow.holds Try.pinned (OpenSpec.ofChange leadEndsWrong)

/-- 'probatelaw17.LeadBy': WHATEVER THE INPUT: true; the input reads as it did. -/
def leadBySpec : ChangeSpec := { name := "leadBy", fn := fun _ => fun
  | [d1, d2] => { results := [.lit (.bool true)], args := [d1, d2] }
  | _ => none }
def leadByRow : OpenClaim := { program := "ytpblamiiggglaaa", sum := "b7d136eea75e4b699a002001c11e3cb3bcc02cba80bc3770fa6a5a7016def331", func := "probate/probatelaw17.LeadBy", spec := "leadBy", unfollowed := true, recurses := true, plainKeys := false, apart := false }
def LeadBySaid : Prop := leadByRow.holds Try.pinned (OpenSpec.ofChange leadBySpec)

/-- ITS FALSE NEIGHBOUR: 'it returns false'. Refute it at one input. -/
def leadByWrong : ChangeSpec := { name := "leadBy", fn := fun _ => fun
  | [d1, d2] => { results := [.lit (.bool false)], args := [d1, d2] }
  | _ => none }
def LeadByWrongFalsely : Prop := leadByRow.holds Try.pinned (OpenSpec.ofChange leadByWrong)

/- THE SECOND FORM. 'bulk': how many values and letters a reading holds, each counted each time it is reached (what is shared counts as often as it is met; a slice's spare places count too). A statement '..UptoSaid' is the law's where the arguments, and the package variables that the reading takes, are together of bulk at most 1048576: NARROWER than '..Said'. Prove '..Said' where nothing that the law and all that it calls make is longer than what came in: it says more and counts as full. Else prove '..UptoSaid'. A law counts once. -/
mutual
def uptoBulk {H : Type} : DataW H → Nat
  | .lit (.string bytes) => bytes.length + 1
  | .lit _ => 1
  | .nil => 1
  | .ptr d => uptoBulk d + 1
  | .slice elems spare => uptoBulkAll elems + uptoBulkAll spare + 1
  | .agg parts => uptoBulkAll parts + 1
  | .iface _ d => uptoBulk d + 1
  | .map entries => uptoBulkEntries entries + 1
  | .held _ => 1
def uptoBulkAll {H : Type} : List (DataW H) → Nat
  | [] => 0
  | d :: r => uptoBulk d + uptoBulkAll r
def uptoBulkEntries {H : Type} : List (Lit × DataW H) → Nat
  | [] => 0
  | x :: r => uptoBulkEntry x + uptoBulkEntries r
def uptoBulkEntry {H : Type} : Lit × DataW H → Nat
  | (.string bytes, d) => bytes.length + uptoBulk d + 1
  | (_, d) => uptoBulk d + 1
 end
def uptoSmall : (H : Type) → List (DataW H) → Bool := fun _ ds => decide (uptoBulkAll ds ≤ 1048576)
def OpenSpec.upto (s : _root_.Go.ChangeSpec) : _root_.Go.OpenSpec := { _root_.Go.OpenSpec.ofChange s with cond := some uptoSmall }

/-- 'probatelaw17.LeadTells', WHERE WHAT IT READS IS OF BULK AT MOST 1048576: true; the input reads as it did. -/
def leadTellsUptoRow : OpenClaim := { program := "ytpblamiiggglaaa", sum := "b7d136eea75e4b699a002001c11e3cb3bcc02cba80bc3770fa6a5a7016def331", func := "probate/probatelaw17.LeadTells", spec := "leadTells", unfollowed := true, recurses := true, plainKeys := false, apart := false, narrowed := true }
def LeadTellsUptoSaid : Prop := leadTellsUptoRow.holds Try.pinned (OpenSpec.upto leadTellsSpec)

/-- 'probatelaw17.LeadComes', WHERE WHAT IT READS IS OF BULK AT MOST 1048576: true; the input reads as it did. -/
def leadComesUptoRow : OpenClaim := { program := "ytpblamiiggglaaa", sum := "b7d136eea75e4b699a002001c11e3cb3bcc02cba80bc3770fa6a5a7016def331", func := "probate/probatelaw17.LeadComes", spec := "leadComes", unfollowed := true, recurses := true, plainKeys := false, apart := false, narrowed := true }
def LeadComesUptoSaid : Prop := leadComesUptoRow.holds Try.pinned (OpenSpec.upto leadComesSpec)

/-- 'probatelaw17.LeadEnds', WHERE WHAT IT READS IS OF BULK AT MOST 1048576: true; the input reads as it did. -/
def leadEndsUptoRow : OpenClaim := { program := "ytpblamiiggglaaa", sum := "b7d136eea75e4b699a002001c11e3cb3bcc02cba80bc3770fa6a5a7016def331", func := "probate/probatelaw17.LeadEnds", spec := "leadEnds", unfollowed := true, recurses := true, plainKeys := false, apart := false, narrowed := true }
def LeadEndsUptoSaid : Prop := leadEndsUptoRow.holds Try.pinned (OpenSpec.upto leadEndsSpec)

/-- 'probatelaw17.LeadBy', WHERE WHAT IT READS IS OF BULK AT MOST 1048576: true; the input reads as it did. -/
def leadByUptoRow : OpenClaim := { program := "ytpblamiiggglaaa", sum := "b7d136eea75e4b699a002001c11e3cb3bcc02cba80bc3770fa6a5a7016def331", func := "probate/probatelaw17.LeadBy", spec := "leadBy", unfollowed := true, recurses := true, plainKeys := false, apart := false, narrowed := true }
def LeadByUptoSaid : Prop := leadByUptoRow.holds Try.pinned (OpenSpec.upto leadBySpec)

end Rows
end Go.Proofs.Ytpblamiiggglaaa
