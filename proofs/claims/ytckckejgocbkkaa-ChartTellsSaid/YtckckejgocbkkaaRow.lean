/- Whole arrays by value: made, put together, stored, loaded, as a block that is known whole. No program is named here. -/
import Derived.Test.YtckckejgocbkkaaWMem
import Derived.Deep.MidRow
import Derived.Deep.WholeRow
import Derived.OwnWalk
import Derived.Laws.ResultCell
namespace Go.Proofs.Ytckckejgocbkkaa
open Go.RowKit

section
variable {P : Program} {ops : Array Oper} {rest : List Oper} {o : Oper} {a : Act} {w : World} {Q : Exit → Act → World → Prop}
theorem wpList_alloc_agg (hgd : o.guard = none) (ty : TypeId) (ho : o.op = .alloc ty) (Z : Array Value) (n : Nat) (hz : (P.info? ty).map (fun i => (i.zero, i.size)) = some (some (.agg Z), n))
    (h : wpList P ops Q rest (a.put o.dst (.pointer (some ⟨w.heap.size, 0, none⟩))) (w.alloc (.cells Z ty))) : wpList P ops Q (o :: rest) a w :=
  wpList_plain hgd fun K hK => by
    obtain ⟨hz1, _⟩ := zero_of_info hz
    unfold Oper.wp execOp
    simp only [ho, Instr.alloc, Sem.run_bind, hz1 w, Result.andThen_ok, newVar]
    exact hK _ _ h
theorem wpList_build_zero (hgd : o.guard = none) (ty : TypeId) (ho : o.op = .build ty #[]) (Z : Array Value) (n : Nat) (hz : (P.info? ty).map (fun i => (i.zero, i.size)) = some (some (.agg Z), n))
    (m : Nat) (e : TypeId) (hu : P.underlying ty = some (.array m e)) (i : TypeInfo) (hi : P.info? e = some i)
    (h : wpList P ops Q rest (a.put o.dst (.agg Z)) w) : wpList P ops Q (o :: rest) a w :=
  wpList_plain hgd fun K hK => by
    obtain ⟨hz1, _⟩ := zero_of_info hz
    have hrun : (Instr.build ty (#[] : Array (Nat × Value))).run P w = .ok (.agg Z) w := by
      unfold Instr.build
      simp [Sem.run_bind, hz1 w, run_underlying hu, sizeOf, typeInfo, hi, Instr.fill, Value.cells]
    unfold Oper.wp execOp
    simp only [ho, List.map_toArray, List.map_nil, hrun, Sem.run_bind, Result.andThen_ok]
    exact hK _ _ h
theorem setRow_bk {g : Nat} {t : TypeId} {cs cells : Array Value} (hb : Bk w g t cs) : Bk (w.setRow g cells) g t cells := by
  unfold Bk at hb ⊢
  simp [World.setRow, Array.getElem?_modify, hb]
theorem setRow_fr {g : Nat} {cells : Array Value} : Fr (fun k => k = g) w (w.setRow g cells) :=
  ⟨rfl, rfl, rfl, by simp [World.setRow], fun k _ hne => by
    simp only [World.setRow, Array.getElem?_modify]
    rw [if_neg (fun e => hne e.symm)]⟩
theorem wpList_store_bk (hgd : o.guard = none) (ty : TypeId) (x y : Operand) (ho : o.op = .store ty x y) (g : Nat) (t : TypeId) (cs cells : Array Value)
    (hx : a.eval x = .pointer (some ⟨g, 0, none⟩)) (hy : a.eval y = .agg cells) (hb : Bk w g t cs) (hs : cs.size = cells.size) (hi : (P.info? ty).map (·.size) = some cells.size) (h1 : cells.all (·.oneCell') = true)
    (h : ∀ w', Bk w' g t cells → Fr (fun k => k = g) w w' → wpList P ops Q rest (a.put o.dst undef) w') : wpList P ops Q (o :: rest) a w :=
  wpList_plain hgd fun K hK => by
    have hrun := run_storeVar_row (P := P) w g t ty cs cells hb hi hs h1
    unfold Oper.wp execOp
    simp only [ho, hx, hy, Instr.storeAt, Instr.sureAddr, Sem.run_bind, Sem.run_pure, Result.andThen_ok, hrun]
    exact hK _ _ (h _ (setRow_bk hb) setRow_fr)
theorem wpList_load_bk (hgd : o.guard = none) (ty : TypeId) (x : Operand) (ho : o.op = .load ty x) (g : Nat) (t : TypeId) (cs : Array Value) (n : Nat) (e : TypeId)
    (hx : a.eval x = .pointer (some ⟨g, 0, none⟩)) (hb : Bk w g t cs) (hu : P.underlying ty = some (.array n e)) (hi : (P.info? ty).map (·.size) = some cs.size)
    (h : wpList P ops Q rest (a.put o.dst (.agg cs)) w) : wpList P ops Q (o :: rest) a w :=
  wpList_plain hgd fun K hK => by
    have hrun := run_loadVar_row (P := P) w g t ty cs (0, 0) _ hb hu rfl hi
    unfold Oper.wp execOp
    simp only [ho, hx, Instr.loadAt, Instr.sureAddr, Sem.run_bind, Sem.run_pure, Result.andThen_ok, hrun]
    exact hK _ _ h
theorem results_cell_bk {fn : Func} {p u : Tmp} {ty : TypeId} (h : fn.results = #[.cell p ty, .tmp u]) (tmps : Array Value) (w : World) (g : Nat) (t : TypeId) (cs : Array Value) (n : Nat) (e : TypeId)
    (hp : tmps.getD p undef = .pointer (some ⟨g, 0, none⟩)) (hb : Bk w g t cs) (hu : P.underlying ty = some (.array n e)) (hi : (P.info? ty).map (·.size) = some cs.size) :
    (results fn tmps).run P w = .ok (.tuple #[.agg cs, tmps.getD u undef]) w := by
  rw [results_cell_tmp h, hp]
  have hrun := run_loadVar_row (P := P) w g t ty cs (0, 0) _ hb hu rfl hi
  simp [asAddr, hrun, Result.andThen]
end
end Go.Proofs.Ytckckejgocbkkaa
