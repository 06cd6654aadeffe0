/- SoundTells' contract, of the code that has landed. -/
import Derived.Test.YthhgjdnbeeadhaaSdTells
import Derived.Test.YthhgjdnbeeadhaaSdCheck
namespace Go.Proofs.Ythhgjdnbeeadhaa
open Go.RowKit

theorem soundTells_law (t n s : Int) (A : Option Addr) (len c : Nat) (ps : List Gr.Pr) (W : World)
    (hlen : len = ps.length) (hmax : len ≤ 9223372036854775807) (hr : PrsC W W.heap.size A ps) :
    Calls Try.prog 3 #[.agg #[.int .i64 t, .int .i64 n, .int .i64 s, .slice A len c]] W fun e w' => e = .returned (.bool true) ∧ Bl W w' :=
  soundTells_any check_law t n s A len c ps W hlen hmax hr
end Go.Proofs.Ythhgjdnbeeadhaa
