/- The reference's Whole; rows of items cut (made by tools/genradd.py, cut by hand). -/
import Derived.Test.YtdfhhbncmdpoeaaItemA
import Derived.Test.YtdfhhbncmdpoeaaBaseS
import Derived.Test.YtdfhhbncmdpoeaaFactM
import Derived.Deep.RegionHeld3
import Derived.Deep.DeepCutAuto
import Derived.Deep.CutRange
import Derived.BigQuiet
import Derived.Laws.StructEq
import Derived.OwnWalk
namespace Go.Proofs.Ytdfhhbncmdpoeaa
open Go.RowKit

theorem icells {w : World} {g : Nat} {x : Ch.Im} (h : Bk w g 42 #[.int .i64 (x.prod : Int), .int .i64 (x.dot : Int), .int .i64 (x.frm : Int)]) : w.cell? ⟨g, 0, none⟩ = some (.int .i64 (x.prod : Int)) ∧ w.cell? ⟨g, 1, none⟩ = some (.int .i64 (x.dot : Int)) ∧ w.cell? ⟨g, 2, none⟩ = some (.int .i64 (x.frm : Int)) := ⟨h.cell 0, h.cell 1, h.cell 2⟩
theorem rd_blockI {w : World} {g : Nat} {x : Ch.Im} {t : TypeId} (h : Bk w g t #[.int .i64 (x.prod : Int), .int .i64 (x.dot : Int), .int .i64 (x.frm : Int)]) : Rd w w.heap.size (some ⟨g, 0, none⟩) (imRow [x]) := fun _ => ⟨g, 0, rfl, h.lt, fun j u hu => by
  have e : imRow [x] = (#[.int .i64 (x.prod : Int), .int .i64 (x.dot : Int), .int .i64 (x.frm : Int)] : Array Value).toList := rfl
  rw [Nat.zero_add, h.cell j, ← Array.getElem?_toList, ← e]
  exact hu⟩
theorem own_emptyN (w : World) (base : Nat) (e : TypeId) (size : Nat) (h : base ≤ w.heap.size) : (w.alloc (.cells #[] e)).ownsRow base e size (.slice (some ⟨w.heap.size, 0, none⟩) 0 0) 0 [] :=
  World.ownsRow_lit (base := base) (e := e) (size := size) w #[] 0 h (by simp [maxLen]) (by simp)
theorem own_emptyM (w : World) (o : Obj) (base : Nat) (e : TypeId) (size : Nat) (h : base ≤ w.heap.size) : ((w.alloc o).alloc (.cells #[] e)).ownsRow base e size (.slice (some ⟨w.heap.size + 1, 0, none⟩) 0 0) 0 [] := by
  have h1 := own_emptyN (w.alloc o) base e size (by rw [World.size_alloc]; omega)
  rw [World.size_alloc] at h1
  exact h1
theorem own_drewI {w : World} {base e n size : Nat} {v : Value} {xs : List Value} (h : w.ownsRow base e size v n xs) : w.drew.ownsRow base e size v n xs := h
theorem own_allocI {w : World} {base e n size : Nat} {v : Value} {xs : List Value} (h : w.ownsRow base e size v n xs) (o : Obj) : (w.alloc o).ownsRow base e size v n xs := own_bl h ((Bl.refl w).alloc o)
theorem im_size : (Try.prog.info? 42).map (·.size) = some 3 := by kernel_rfl
theorem im_info : (Try.prog.info? 42).map (fun i => (i.zero, i.size, i.bytes)) = some (some (.agg #[.int .i64 0, .int .i64 0, .int .i64 0]), 3, 24) := by kernel_rfl
theorem Rd.im_cut {w : World} {B : Nat} {A : Option Addr} {l : List Ch.Im} (h : Rd w B A (imRow l)) {k cap : Nat} (hc : l.length ≤ cap) : Rd w B (if cap = k then A else A.map (·.add (k * 3))) (imRow (l.drop k)) := fun hn => by
  rw [imRow_len, List.length_drop] at hn
  obtain ⟨b, off, e, hb, hcell⟩ := h (by rw [imRow_len]; omega)
  rw [if_neg (by omega)]
  refine ⟨b, off + k * 3, ?_, hb, fun j u hu => ?_⟩
  · subst e
    simp only [Option.map_some, Addr.add]
    split
    · rename_i h0; rw [h0]; rfl
    · rfl
  · rw [Nat.add_assoc]
    refine hcell (k * 3 + j) u ?_
    have e2 : l = l.take k ++ l.drop k := (List.take_append_drop k l).symm
    rw [e2, imRow_append, List.getElem?_append_right (by rw [imRow_len, List.length_take]; omega), imRow_len, List.length_take, show k * 3 + j - min k l.length * 3 = j by omega]
    exact hu
theorem Rd.im_take {w : World} {B : Nat} {A : Option Addr} {l : List Ch.Im} (h : Rd w B A (imRow l)) (k : Nat) : Rd w B A (imRow (l.take k)) := fun hn => by
  rw [imRow_len, List.length_take] at hn
  obtain ⟨b, off, e, hb, hcell⟩ := h (by rw [imRow_len]; omega)
  refine ⟨b, off, e, hb, fun j u hu => hcell j u ?_⟩
  have e2 : l = l.take k ++ l.drop k := (List.take_append_drop k l).symm
  have hj : j < (imRow (l.take k)).length := by
    rcases Nat.lt_or_ge j (imRow (l.take k)).length with h | h
    · exact h
    · rw [List.getElem?_eq_none h] at hu; cases hu
  rw [e2, imRow_append, List.getElem?_append_left hj]
  exact hu

set_option maxRecDepth 100000 in
set_option maxHeartbeats 4000000 in
theorem rwhole_any (t n s : Int) (A : Option Addr) (len c : Nat) (ps : List Gr.Pr) (i d : Nat) (fr : Int) (w : World) (B : Nat) (hlen : len = ps.length) (hr : Prs w B A ps) (hB : B ≤ w.heap.size) (hi : i < ps.length) :
    Calls Try.prog 42 #[.agg #[.int .i64 t, .int .i64 n, .int .i64 s, .slice A len c], .agg #[.int .i64 (i : Int), .int .i64 (d : Int), .int .i64 fr]] w fun e w' => e = .returned (.bool (decide (d = ps[i].right.length))) ∧ Bl w w' := by
  have HK1 : Hid (Bk ((w.alloc (.cells #[.int .i64 t, .int .i64 n, .int .i64 s, .slice A len c] 24)).alloc (.cells #[.int .i64 (i : Int), .int .i64 (d : Int), .int .i64 fr] 42)) w.heap.size 24 #[.int .i64 t, .int .i64 n, .int .i64 s, .slice A len c]) := (Bk.new w _ _).alloc _
  have HK2 : Hid (Bk ((w.alloc (.cells #[.int .i64 t, .int .i64 n, .int .i64 s, .slice A len c] 24)).alloc (.cells #[.int .i64 (i : Int), .int .i64 (d : Int), .int .i64 fr] 42)) (w.heap.size + 1) 42 #[.int .i64 (i : Int), .int .i64 (d : Int), .int .i64 fr]) := by
    have h := Bk.new (w.alloc (.cells #[.int .i64 t, .int .i64 n, .int .i64 s, .slice A len c] 24)) 42 #[.int .i64 (i : Int), .int .i64 (d : Int), .int .i64 fr]
    rw [World.size_alloc] at h
    exact h
  have HB1 : Hid (Bl w ((w.alloc (.cells #[.int .i64 t, .int .i64 n, .int .i64 s, .slice A len c] 24)).alloc (.cells #[.int .i64 (i : Int), .int .i64 (d : Int), .int .i64 fr] 42))) := ((Bl.refl w).alloc _).alloc _
  obtain ⟨b, off, Ax, cx, rfl, hbB, hrx, hc0, hc1⟩ := (hr.bl hB HB1.out).at_ hi
  have hbl : b < ((w.alloc (.cells #[.int .i64 t, .int .i64 n, .int .i64 s, .slice (some ⟨b, off, none⟩) len c] 24)).alloc (.cells #[.int .i64 (i : Int), .int .i64 (d : Int), .int .i64 fr] 42)).heap.size := Nat.lt_of_lt_of_le hbB (Nat.le_trans hB HB1.out.size)
  have i0 : (0 : Int) ≤ (i : Int) := by omega
  have i1 : (i : Int) < (len : Int) := by omega
  have HQ : Hid (((d : Int) == (ps[i].right.length : Int)) = decide (d = ps[i].right.length)) := by
    show _ = _
    by_cases e : d = ps[i].right.length
    · rw [decide_eq_true e, beq_iff_eq]; omega
    · rw [decide_eq_false e, beq_eq_false_iff_ne]; omega
  clear hr hrx hc0 hlen
  generalize decide (d = ps[i].right.length) = q at *
  generalize ps[i].right.length = rl at *
  go_enter Try.func42, Try.ntmps42
  go_upto_region 1 with fail
  generalize (w.alloc (.cells #[.int .i64 t, .int .i64 n, .int .i64 s, .slice (some ⟨b, off, none⟩) len c] 24)).alloc (.cells #[.int .i64 (i : Int), .int .i64 (d : Int), .int .i64 fr] 42) = w1 at *
  have k3 : w1.cell? ⟨w.heap.size, 3, none⟩ = some (.slice (some ⟨b, off, none⟩) len c) := HK1.out.cell 3
  have j0 : w1.cell? ⟨w.heap.size + 1, 0, none⟩ = some (.int .i64 (i : Int)) := HK2.out.cell 0
  have j1 : w1.cell? ⟨w.heap.size + 1, 1, none⟩ = some (.int .i64 (d : Int)) := HK2.out.cell 1
  have l0 := HK1.out.lt
  have l1 := HK2.out.lt
  have hq := HQ.out
  go_quiet (fail)
  go_wp2_with fail
  go_ret
  exact ⟨by first | rfl | rw [hq], HB1.out.drewN _⟩

end Go.Proofs.Ytdfhhbncmdpoeaa
