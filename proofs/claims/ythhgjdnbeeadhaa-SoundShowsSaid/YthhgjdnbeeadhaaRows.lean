/-
  No cell of these rows narrows 'for every input' (looked for: loops, veiled, ifaces, maps, wideKeys, modest, calm, conditions, laid).
  DERIVED. THE GIVEN ROWS OF THIS SEAT. 2 by the template 'for every input the law returns true; each argument reads behind the call as it read before'; 0 by the template 'total and deterministic' (their statements: YthhgjdnbeeadhaaTotals.lean).
  GIVEN WITH THE SEED: the statements are not yours to turn. If you find one false, say at which input.
  Laid BY PROGRAM, IN A SANDBOX (cutbox-rows.mjs): the forced cells as the released guide's own fill.sh prints them over the translation 0bc69b53a02dffc2… (all of the seat's roots in one cut). By AI agents, Wed Nov 11 2026. No macro, syntax, notation, axiom, sorry.
-/
import Derived.Test.YthhgjdnbeeadhaaChecked
import GoSem.Claim
import GoSem.ClaimJoined
import GoSem.ClaimMapViews
import Derived.JoinedTies
import Derived.KernelRfl
namespace Go.Proofs.Ythhgjdnbeeadhaa
/- THE CELL 'sum', in the pinned program and in every row, IS THE sha256 OF THE DUMP (.gsa) THAT YthhgjdnbeeadhaaProg.lean LOADS. Nothing in Lean hashes anything: it is a label: what it is worth is what the hold of that sum in a sandbox is worth. -/
noncomputable def Try.pinned : Pinned := { name := "ythhgjdnbeeadhaa", sum := "0bc69b53a02dffc2dd7e7f63f5fe974352d5367865d755b9f8adea36d2bc2ae2", checked := Try.checked }
namespace Rows
def none {H : Type} : Left H := { results := [], args := [] }

/-- 'probatelaw14.SoundTells': WHATEVER THE INPUT: true; the input reads as it did. -/
def soundTellsSpec : ChangeSpec := { name := "soundTells", fn := fun _ => fun
  | [d] => { results := [.lit (.bool true)], args := [d] }
  | _ => none }
def soundTellsRow : OpenClaim := { program := "ythhgjdnbeeadhaa", sum := "0bc69b53a02dffc2dd7e7f63f5fe974352d5367865d755b9f8adea36d2bc2ae2", func := "probate/probatelaw14.SoundTells", spec := "soundTells", unfollowed := true, recurses := true, plainKeys := false, apart := false }
def SoundTellsSaid : Prop := soundTellsRow.holds Try.pinned (OpenSpec.ofChange soundTellsSpec)

/-- ITS FALSE NEIGHBOUR: 'it returns false'. Refute it at one input. -/
def soundTellsWrong : ChangeSpec := { name := "soundTells", fn := fun _ => fun
  | [d] => { results := [.lit (.bool false)], args := [d] }
  | _ => none }
def SoundTellsWrongFalsely : Prop := soundTellsRow.holds Try.pinned (OpenSpec.ofChange soundTellsWrong)

/-- 'probatelaw14.SoundShows': WHATEVER THE INPUT: true; the input reads as it did. -/
def soundShowsSpec : ChangeSpec := { name := "soundShows", fn := fun _ => fun
  | [d] => { results := [.lit (.bool true)], args := [d] }
  | _ => none }
def soundShowsRow : OpenClaim := { program := "ythhgjdnbeeadhaa", sum := "0bc69b53a02dffc2dd7e7f63f5fe974352d5367865d755b9f8adea36d2bc2ae2", func := "probate/probatelaw14.SoundShows", spec := "soundShows", unfollowed := true, recurses := true, plainKeys := false, apart := false }
def SoundShowsSaid : Prop := soundShowsRow.holds Try.pinned (OpenSpec.ofChange soundShowsSpec)

/-- ITS FALSE NEIGHBOUR: 'it returns false'. Refute it at one input. -/
def soundShowsWrong : ChangeSpec := { name := "soundShows", fn := fun _ => fun
  | [d] => { results := [.lit (.bool false)], args := [d] }
  | _ => none }
def SoundShowsWrongFalsely : Prop := soundShowsRow.holds Try.pinned (OpenSpec.ofChange soundShowsWrong)

/- THE SECOND FORM. 'bulk': how many values and letters a reading holds, each counted each time it is reached (what is shared counts as often as it is met; a slice's spare places count too). A statement '..UptoSaid' is the law's where the arguments, and the package variables that the reading takes, are together of bulk at most 1048576: NARROWER than '..Said'. Prove '..Said' where nothing that the law and all that it calls make is longer than what came in: it says more and counts as full. Else prove '..UptoSaid'. A law counts once. -/
mutual
def uptoBulk {H : Type} : DataW H → Nat
  | .lit (.string bytes) => bytes.length + 1
  | .lit _ => 1
  | .nil => 1
  | .ptr d => uptoBulk d + 1
  | .slice elems spare => uptoBulkAll elems + uptoBulkAll spare + 1
  | .agg parts => uptoBulkAll parts + 1
  | .iface _ d => uptoBulk d + 1
  | .map entries => uptoBulkEntries entries + 1
  | .held _ => 1
def uptoBulkAll {H : Type} : List (DataW H) → Nat
  | [] => 0
  | d :: r => uptoBulk d + uptoBulkAll r
def uptoBulkEntries {H : Type} : List (Lit × DataW H) → Nat
  | [] => 0
  | x :: r => uptoBulkEntry x + uptoBulkEntries r
def uptoBulkEntry {H : Type} : Lit × DataW H → Nat
  | (.string bytes, d) => bytes.length + uptoBulk d + 1
  | (_, d) => uptoBulk d + 1
 end
def uptoSmall : (H : Type) → List (DataW H) → Bool := fun _ ds => decide (uptoBulkAll ds ≤ 1048576)
def OpenSpec.upto (s : _root_.Go.ChangeSpec) : _root_.Go.OpenSpec := { _root_.Go.OpenSpec.ofChange s with cond := some uptoSmall }

/-- 'probatelaw14.SoundTells', WHERE WHAT IT READS IS OF BULK AT MOST 1048576: true; the input reads as it did. -/
def soundTellsUptoRow : OpenClaim := { program := "ythhgjdnbeeadhaa", sum := "0bc69b53a02dffc2dd7e7f63f5fe974352d5367865d755b9f8adea36d2bc2ae2", func := "probate/probatelaw14.SoundTells", spec := "soundTells", unfollowed := true, recurses := true, plainKeys := false, apart := false, narrowed := true }
def SoundTellsUptoSaid : Prop := soundTellsUptoRow.holds Try.pinned (OpenSpec.upto soundTellsSpec)

/-- 'probatelaw14.SoundShows', WHERE WHAT IT READS IS OF BULK AT MOST 1048576: true; the input reads as it did. -/
def soundShowsUptoRow : OpenClaim := { program := "ythhgjdnbeeadhaa", sum := "0bc69b53a02dffc2dd7e7f63f5fe974352d5367865d755b9f8adea36d2bc2ae2", func := "probate/probatelaw14.SoundShows", spec := "soundShows", unfollowed := true, recurses := true, plainKeys := false, apart := false, narrowed := true }
def SoundShowsUptoSaid : Prop := soundShowsUptoRow.holds Try.pinned (OpenSpec.upto soundShowsSpec)

end Rows
end Go.Proofs.Ythhgjdnbeeadhaa
