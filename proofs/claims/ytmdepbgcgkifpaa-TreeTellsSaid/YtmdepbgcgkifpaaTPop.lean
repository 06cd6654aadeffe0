/- The stack of what is left of the nodes: pop. -/
import Derived.Test.YtmdepbgcgkifpaaTStk
import Derived.Laws.ResultCell
import Derived.Laws.Rows
namespace Go.Proofs.Ytmdepbgcgkifpaa
open Go.RowKit

theorem results_cell_st {P : Program} {fn : Func} {p u : Tmp} {ty : TypeId} (h : fn.results = #[.cell p ty, .tmp u]) (tmps : Array Value) (w : World) (g : Nat) (t : TypeId) (cs : Array Value) (d : TypeDesc)
    (hp : tmps.getD p undef = .pointer (some ⟨g, 0, none⟩)) (hb : Bk w g t cs) (hu : P.underlying ty = some d) (hd : (match d with | .struct _ | .array _ _ => true | _ => false) = true) (hi : (P.info? ty).map (·.size) = some cs.size) :
    (results fn tmps).run P w = .ok (.tuple #[.agg cs, tmps.getD u undef]) w := by
  rw [results_cell_tmp h, hp]
  have hrun := run_loadVar_row (P := P) w g t ty cs (0, 0) d hb hu hd hi
  simp [asAddr, hrun, Result.andThen]
theorem rest_size : (Try.prog.info? 67).map (·.size) = some 2 := by kernel_rfl

set_option maxRecDepth 100000 in
set_option maxHeartbeats 1000000 in
theorem pop_none (dd : Nat) (vw : Value) (Al : Option Addr) (cl : Nat) (w : World) (hb : Bk w dd 63 #[vw, .slice Al 0 cl]) :
    Calls Try.prog 33 #[.pointer (some ⟨dd, 1, none⟩)] w fun e w' => e = .returned (.tuple #[.agg #[.pointer none, .slice none 0 0], .bool false]) ∧ Bl w w' := by
  have HX1 : Hid (Bk (w.alloc (.cells #[.pointer none, .slice none 0 0] 67)) w.heap.size 67 #[.pointer none, .slice none 0 0]) := Bk.new w _ _
  have c0 : w.cell? ⟨dd, 1, none⟩ = some (.slice Al 0 cl) := hb.cell 1
  have l0 := hb.lt
  go_enter Try.func33, Try.ntmps33
  have x0 := HX1.out.cell 0
  have x1 := HX1.out.cell 1
  go_wp2_with fail
  try simp only [Exit.inBlock, Exit.then]
  refine bodyPost_ret (results_cell_st rfl _ _ w.heap.size _ #[.pointer none, .slice none 0 0] _ rfl HX1.out Try.underlying67 rfl rest_size) rfl ?_
  exact ⟨rfl, (Bl.refl w).alloc _⟩

set_option maxRecDepth 100000 in
set_option maxHeartbeats 1000000 in
theorem pop_some (dd lo n : Nat) (vw vl : Value) (P A : Option Addr) (m c : Nat) (cs : List Value) (w : World) (hb : Bk w dd 63 #[vw, vl]) (ho : w.ownsRow lo 67 2 vl (n + 1) (cs ++ [.pointer P, .slice A m c])) (hcs : cs.length = n * 2) (hn : n ≤ 1000000) :
    Calls Try.prog 33 #[.pointer (some ⟨dd, 1, none⟩)] w fun e w' => e = .returned (.tuple #[.agg #[.pointer P, .slice A m c], .bool true]) ∧ ∃ vl', Bk w' dd 63 #[vw, vl'] ∧ w'.ownsRow lo 67 2 vl' n cs ∧ vl'.ownBlock = vl.ownBlock ∧ Fr (fun k => k = dd) w w' := by
  obtain ⟨g, cl, hv, _, l1⟩ := World.ownsRow.form ho (by omega)
  subst hv
  have hcl : n + 1 ≤ cl := by obtain ⟨_, _, hv, h⟩ := own_form ho; cases hv; exact h
  have hcm : cl ≤ maxLen := by
    rcases ho.2 with ⟨_, h0⟩ | ⟨g', cap', cur', hv, _, _, _, h1, _, _⟩
    · omega
    · cases hv; exact h1
  have c0 : w.cell? ⟨dd, 1, none⟩ = some (.slice (some ⟨g, 0, none⟩) (n + 1) cl) := hb.cell 1
  have f0 : w.frozen? ⟨dd, 1, none⟩ = false := hb.free 1
  have c1 : w.cell? ⟨g, n * 2, none⟩ = some (.pointer P) := by
    rw [ho.cellAt (n * 2) (by omega), List.getElem?_append_right (by omega), hcs, Nat.sub_self]; rfl
  have c2 : w.cell? ⟨g, n * 2 + 1, none⟩ = some (.slice A m c) := by
    rw [ho.cellAt (n * 2 + 1) (by omega), List.getElem?_append_right (by omega), hcs, Nat.add_sub_cancel_left]; rfl
  have l0 := hb.lt
  have HB := Lib.hid hb
  have HO := Lib.hid (ownsRow_pop hcs ho)
  have i0 : (0 : Int) ≤ (n : Int) := by omega
  have i1 : (n : Int) < ((n + 1 : Nat) : Int) := by omega
  have e1 : (((n + 1 : Nat) : Int) - 1) = (n : Int) := by omega
  have e2 : (n : Int).toNat = n := by omega
  simp only [maxLen] at hcm
  clear hb ho
  go_enter Try.func33, Try.ntmps33
  go_wp2_with fail
  try simp only [Exit.inBlock, Exit.then]
  refine bodyPost_ret (results_cell_st rfl _ _ w.heap.size 67 #[.pointer P, .slice A m c] _ rfl ?hbk Try.underlying67 rfl rest_size) rfl ?_
  case hbk =>
    have h := Bk.new (w.setCell ⟨dd, 1, none⟩ (.slice (some ⟨g, 0, none⟩) n cl)) 67 #[.pointer P, .slice A m c]
    rw [show (w.setCell ⟨dd, 1, none⟩ (.slice (some ⟨g, 0, none⟩) n cl)).heap.size = w.heap.size by simp [World.setCell]] at h
    exact h
  exact ⟨rfl, .slice (some ⟨g, 0, none⟩) n cl, (HB.out.put 1 _).alloc _, (own_fr (S := fun k => k = dd) HO.out ((Fr.refl _ _).own 1 _) (fun k hv e => HB.out.row HO.out (by decide) (by rw [hv, e]))).alloc _, rfl, ((Fr.refl _ _).own 1 _).alloc _⟩
end Go.Proofs.Ytmdepbgcgkifpaa
