/- The reference's has: is an item in a set? -/
import Derived.Test.YtdfhhbncmdpoeaaClKeep
import Derived.Test.YtdfhhbncmdpoeaaFactM
import Derived.Deep.RegionHeld3
import Derived.Deep.DeepCutAuto
import Derived.Deep.CutRange
import Derived.BigQuiet
import Derived.Laws.StructEq
import Derived.OwnWalk
namespace Go.Proofs.Ytdfhhbncmdpoeaa
open Go.RowKit

set_option maxRecDepth 100000 in
set_option maxHeartbeats 4000000 in
theorem rhas_any (A : Option Addr) (n c : Nat) (l : List Ix) (x : Ix) (w : World) (B : Nat) (hn : n = l.length) (hm : n ≤ 1000000) (hr : Rd w B A (ixRow l)) (hB : B ≤ w.heap.size) :
    Calls Try.prog 20 #[.slice A n c, .agg #[.int .i64 x.prod, .int .i64 x.dot, .int .i64 x.frm]] w fun e w' => ∃ b : Bool, e = .returned (.bool b) ∧ (b = true ↔ x ∈ l) ∧ Bl w w' := by
  have HN := Lib.hid hn
  have HR := Lib.hid (fun (wx : World) (hb : Bl w wx) => hr.bl hB hb)
  have HB0 : Hid (Bl w (w.alloc (.cells #[.int .i64 x.prod, .int .i64 x.dot, .int .i64 x.frm] 42))) := (Bl.refl w).alloc _
  have HX0 := Lib.hid (Bk.new w 42 #[.int .i64 x.prod, .int .i64 x.dot, .int .i64 x.frm])
  clear hn hr
  go_enter Try.func20, Try.ntmps20
  go_wp2_with fail
  generalize w.alloc (.cells #[.int .i64 x.prod, .int .i64 x.dot, .int .i64 x.frm] 42) = w1 at *
  go_loopw [5] (fun i wr => ∃ k : Nat, k ≤ n ∧ i = .int .i64 (k : Int) ∧ Hid (x ∉ l.take k) ∧ Hid (Bl w1 wr)) (fun i _ => n - (intOf i).toNat)
  case atStart => exact ⟨0, Nat.zero_le _, rfl, (fun h => by simp at h), Bl.refl _⟩
  case round =>
    obtain ⟨k, hk, rfl, HT, HBr⟩ := hrel
    by_cases hlt : k < n
    · have hj : k < l.length := by have := HN.out; omega
      have HBw := Lib.hid (HB0.out.trans HBr.out)
      have HX := Lib.hid (HX0.out.bl HBr.out)
      obtain ⟨b, off, rfl, hb, q0, q1, q2⟩ := (HR.out wr HBw.out).ix hj
      have HM : Hid (l[k] ∈ l) := List.getElem_mem hj
      have HTk : Hid (l.take (k + 1) = l.take k ++ [l[k]]) := take_snoc hj
      have hbl : b < wr.heap.size := Nat.lt_of_lt_of_le hb (Nat.le_trans hB HBw.out.size)
      have x0 : wr.cell? ⟨w.heap.size, 0, none⟩ = some (.int .i64 x.prod) := HX.out.cell 0
      have x1 : wr.cell? ⟨w.heap.size, 1, none⟩ = some (.int .i64 x.dot) := HX.out.cell 1
      have x2 : wr.cell? ⟨w.heap.size, 2, none⟩ = some (.int .i64 x.frm) := HX.out.cell 2
      have xl := HX.out.lt
      have hik : (k : Int) < (n : Int) := by omega
      have hk0 : (0 : Int) ≤ (k : Int) := by omega
      generalize l[k] = y at *
      obtain ⟨yp, yd, yf⟩ := y
      obtain ⟨xp, xd, xf⟩ := x
      simp only at q0 q1 q2 x0 x1 x2
      clear hj
      by_cases e : (⟨yp, yd, yf⟩ : Ix) = ⟨xp, xd, xf⟩
      · have HY : Hid ((⟨xp, xd, xf⟩ : Ix) ∈ l) := by rw [← e]; exact HM.out
        injection e with e1 e2 e3
        subst e1 e2 e3
        go_upto_region 4 with fail
        go_quiet (fail)
        go_wp2_with fail
        go_ret
        exact .inr ⟨rfl, HY.out, HBw.out.drewN _⟩
      · have HNo : Hid ((⟨xp, xd, xf⟩ : Ix) ∉ l.take (k + 1)) := fun h => by
          rw [HTk.out, List.mem_append, List.mem_singleton] at h
          rcases h with h | h
          · exact HT.out h
          · exact e h.symm
        go_upto_region 4 with fail
        go_cut [17] from 12 to 17 (fun v wx => v = .bool false ∧ Hid (Bl wr wx))
        case first =>
          by_cases e1 : yp = xp
          · subst e1
            by_cases e2 : yd = xd
            · subst e2
              have q3 : (yf == xf) = false := by rw [beq_eq_false_iff_ne]; intro h; exact e (by rw [h])
              clear e
              go_quiet (fail)
              go_wp2_with fail
              go_meet
              exact ⟨rfl, (Bl.refl wr).drewN _⟩
            · have q3 : (yd == xd) = false := by rw [beq_eq_false_iff_ne]; exact e2
              clear e
              go_quiet (fail)
              go_wp2_with fail
              go_meet
              exact ⟨rfl, (Bl.refl wr).drewN _⟩
          · have q3 : (yp == xp) = false := by rw [beq_eq_false_iff_ne]; exact e1
            clear e
            go_quiet (fail)
            go_wp2_with fail
            go_meet
            exact ⟨rfl, (Bl.refl wr).drewN _⟩
        case rest =>
          obtain ⟨rfl, HBc⟩ := hcut
          have HBx := Lib.hid (HBr.out.trans HBc.out)
          clear q0 q1 q2 x0 x1 x2 xl hbl e
          go_wp2_with fail
          go_roundw
          case rel => exact ⟨k + 1, by omega, by go_num, HNo.out, HBx.out⟩
          case measure => simp [intOf]; omega
    · have hik : ¬ (k : Int) < (n : Int) := by omega
      go_wp2_with fail
      go_ret
      refine .inl ⟨rfl, fun h => ?_, HB0.out.trans HBr.out⟩
      have h9 := HT.out
      rw [List.take_of_length_le (by have := HN.out; omega)] at h9
      exact h9 h
end Go.Proofs.Ytdfhhbncmdpoeaa
