/- What a call leaves that only reads. -/
import Derived.Test.YtpblamiiggglaaaRows
import Derived.Test.YtpblamiiggglaaaVMem
import Derived.RegionTactic
import Derived.Deep.QuietTactic
import Derived.BigQuiet
namespace Go.Proofs.Ytpblamiiggglaaa
open Go.RowKit

/-- What a call leaves that only reads, in an order that it draws. -/
def Quiet (v : Value) (w : World) (e : Ending) (w' : World) : Prop := e = .returned v ∧ ∃ n, w' = w.drewN n
end Go.Proofs.Ytpblamiiggglaaa
