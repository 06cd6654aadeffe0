/- A result in a cell beside one in a slot. -/
import Derived.Test.YtckckejgocbkkaaWMem
import Derived.Laws.ResultCell
import Derived.Laws.Rows
namespace Go.Proofs.Ytckckejgocbkkaa
open Go.RowKit

theorem results_cell_st {P : Program} {fn : Func} {p u : Tmp} {ty : TypeId} (h : fn.results = #[.cell p ty, .tmp u]) (tmps : Array Value) (w : World) (g : Nat) (t : TypeId) (cs : Array Value) (d : TypeDesc)
    (hp : tmps.getD p undef = .pointer (some ⟨g, 0, none⟩)) (hb : Bk w g t cs) (hu : P.underlying ty = some d) (hd : (match d with | .struct _ | .array _ _ => true | _ => false) = true) (hi : (P.info? ty).map (·.size) = some cs.size) :
    (results fn tmps).run P w = .ok (.tuple #[.agg cs, tmps.getD u undef]) w := by
  rw [results_cell_tmp h, hp]
  have hrun := run_loadVar_row (P := P) w g t ty cs (0, 0) d hb hu hd hi
  simp [asAddr, hrun, Result.andThen]
end Go.Proofs.Ytckckejgocbkkaa
