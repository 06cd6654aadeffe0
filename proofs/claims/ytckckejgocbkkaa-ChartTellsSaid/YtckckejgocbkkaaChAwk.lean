/- The chart laws' awake. -/
import Derived.Test.YtckckejgocbkkaaChF
import Derived.Test.YtckckejgocbkkaaLitS
import Derived.BigFrame
namespace Go.Proofs.Ytckckejgocbkkaa
open Go.RowKit

theorem prs18 (w : World) : PrsC (((w.alloc (.cells #[.bool false, .int .i64 0, .bool true, .int .i64 0, .bool false, .int .i64 1] 48)).alloc (.cells #[.int .i64 0, .slice (some ⟨w.heap.size, 0, none⟩) 3 3, .int .i64 0, .slice none 0 0] 45)).alloc (.cells #[.int .i64 2, .int .i64 1, .int .i64 0, .slice (some ⟨w.heap.size + 1, 0, none⟩) 2 2] 24)) (((w.alloc (.cells #[.bool false, .int .i64 0, .bool true, .int .i64 0, .bool false, .int .i64 1] 48)).alloc (.cells #[.int .i64 0, .slice (some ⟨w.heap.size, 0, none⟩) 3 3, .int .i64 0, .slice none 0 0] 45)).alloc (.cells #[.int .i64 2, .int .i64 1, .int .i64 0, .slice (some ⟨w.heap.size + 1, 0, none⟩) 2 2] 24)).heap.size (some ⟨w.heap.size + 1, 0, none⟩) ps18 := by
  refine ⟨[⟨0, [⟨false, 0⟩, ⟨true, 0⟩, ⟨false, 1⟩], some ⟨w.heap.size, 0, none⟩, 3⟩, ⟨0, [], none, 0⟩], rfl, lrd_on (lrd_new _ _ #[.int .i64 0, .slice (some ⟨w.heap.size, 0, none⟩) 3 3, .int .i64 0, .slice none 0 0] rfl (by simp)) ((Bl.refl _).alloc _), ?_⟩
  intro h hh
  simp only [List.mem_cons, List.not_mem_nil, or_false] at hh
  rcases hh with rfl | rfl
  · exact ⟨lrd_on (lrd_new _ _ #[.bool false, .int .i64 0, .bool true, .int .i64 0, .bool false, .int .i64 1] rfl (by simp)) (((Bl.refl _).alloc _).alloc _), (show (3 : Nat) ≤ 3 from Nat.le_refl _), (show (3 : Nat) ≤ maxLen by simp only [maxLen]; omega)⟩
  · exact ⟨Rd.nil, Nat.le_refl _, Nat.zero_le _⟩
theorem sr18 (w : World) : SetsR (((w.alloc (.cells #[.int .i64 0, .int .i64 0, .int .i64 0, .int .i64 1, .int .i64 0, .int .i64 0] 42)).alloc (.cells #[.int .i64 0, .int .i64 0, .int .i64 1, .int .i64 0, .int .i64 1, .int .i64 0, .int .i64 0, .int .i64 2, .int .i64 0, .int .i64 1, .int .i64 0, .int .i64 1] 42)).alloc (.cells #[.slice (some ⟨w.heap.size, 0, none⟩) 2 2, .slice (some ⟨w.heap.size + 1, 0, none⟩) 4 4] 26)) (some ⟨w.heap.size + 1 + 1, 0, none⟩) ms18 := by
  refine ⟨[.slice (some ⟨w.heap.size, 0, none⟩) 2 2, .slice (some ⟨w.heap.size + 1, 0, none⟩) 4 4], lrd_new _ _ #[.slice (some ⟨w.heap.size, 0, none⟩) 2 2, .slice (some ⟨w.heap.size + 1, 0, none⟩) 4 4] rfl (by simp), rfl, fun i l hl => ?_⟩
  match i, hl with
  | 0, hl =>
    injection hl with hl
    subst hl
    exact ⟨_, _, rfl, Nat.le_refl 2, lrd_on (lrd_new _ _ #[.int .i64 0, .int .i64 0, .int .i64 0, .int .i64 1, .int .i64 0, .int .i64 0] rfl rfl) (((Bl.refl _).alloc _).alloc _)⟩
  | 1, hl =>
    injection hl with hl
    subst hl
    exact ⟨_, _, rfl, Nat.le_refl 4, lrd_on (lrd_new _ _ #[.int .i64 0, .int .i64 0, .int .i64 1, .int .i64 0, .int .i64 1, .int .i64 0, .int .i64 0, .int .i64 2, .int .i64 0, .int .i64 1, .int .i64 0, .int .i64 1] rfl (by simp)) ((Bl.refl _).alloc _)⟩
  | k + 2, hl => simp [ms18] at hl
theorem few18 : Few ms18 := by
  refine ⟨by decide, fun b l h => ?_⟩
  have := List.mem_of_getElem? h
  simp only [ms18, List.mem_cons, List.not_mem_nil, or_false] at this
  rcases this with rfl | rfl <;> decide

set_option maxRecDepth 100000 in
set_option maxHeartbeats 4000000 in
theorem awake18_any (w : World) : Calls Try.prog 6 #[] w fun e w' => e = .returned (.bool true) ∧ Bl w w' := by
  have HP0 := Lib.hid (prs18 w)
  have HB0 : Hid (Bl w (((w.alloc (.cells #[.bool false, .int .i64 0, .bool true, .int .i64 0, .bool false, .int .i64 1] 48)).alloc (.cells #[.int .i64 0, .slice (some ⟨w.heap.size, 0, none⟩) 3 3, .int .i64 0, .slice none 0 0] 45)).alloc (.cells #[.int .i64 2, .int .i64 1, .int .i64 0, .slice (some ⟨w.heap.size + 1, 0, none⟩) 2 2] 24))) := (((Bl.refl w).alloc _).alloc _).alloc _
  have HG0 : Hid (Bk (((w.alloc (.cells #[.bool false, .int .i64 0, .bool true, .int .i64 0, .bool false, .int .i64 1] 48)).alloc (.cells #[.int .i64 0, .slice (some ⟨w.heap.size, 0, none⟩) 3 3, .int .i64 0, .slice none 0 0] 45)).alloc (.cells #[.int .i64 2, .int .i64 1, .int .i64 0, .slice (some ⟨w.heap.size + 1, 0, none⟩) 2 2] 24)) (w.heap.size + 1 + 1) 24 #[.int .i64 2, .int .i64 1, .int .i64 0, .slice (some ⟨w.heap.size + 1, 0, none⟩) 2 2]) := by
    have h := Bk.new ((w.alloc (.cells #[.bool false, .int .i64 0, .bool true, .int .i64 0, .bool false, .int .i64 1] 48)).alloc (.cells #[.int .i64 0, .slice (some ⟨w.heap.size, 0, none⟩) 3 3, .int .i64 0, .slice none 0 0] 45)) 24 #[.int .i64 2, .int .i64 1, .int .i64 0, .slice (some ⟨w.heap.size + 1, 0, none⟩) 2 2]
    rw [show ((w.alloc (.cells #[.bool false, .int .i64 0, .bool true, .int .i64 0, .bool false, .int .i64 1] 48)).alloc (.cells #[.int .i64 0, .slice (some ⟨w.heap.size, 0, none⟩) 3 3, .int .i64 0, .slice none 0 0] 45)).heap.size = w.heap.size + 1 + 1 by simp] at h
    exact h
  go_enter Try.func6, Try.ntmps6
  go_upto_region 2 with fail
  generalize (((w.alloc (.cells #[.bool false, .int .i64 0, .bool true, .int .i64 0, .bool false, .int .i64 1] 48)).alloc (.cells #[.int .i64 0, .slice (some ⟨w.heap.size, 0, none⟩) 3 3, .int .i64 0, .slice none 0 0] 45)).alloc (.cells #[.int .i64 2, .int .i64 1, .int .i64 0, .slice (some ⟨w.heap.size + 1, 0, none⟩) 2 2] 24)) = w0 at *
  generalize w.heap.size + 1 + 1 = gv at *
  generalize w.heap.size + 1 = gp at *
  have g0 := HG0.out.cell 0
  have g1 := HG0.out.cell 1
  have g2 := HG0.out.cell 2
  have g3 := HG0.out.cell 3
  have gl := HG0.out.lt
  go_wp2_with fail
  refine (cstop_any 2 1 0 (some ⟨gp, 0, none⟩) 2 2 ps18 (some ⟨w0.heap.size, 0, none⟩) 2 2 [0, 0] _ _ rfl (by decide) (lprs_on HP0.out ((Bl.refl _).alloc _)) rfl (by decide) (lrd_new w0 3 #[.int .i64 0, .int .i64 0] rfl rfl) (Nat.le_refl _)).mono ?_
  rintro e w1 ⟨L, hy, hn, rfl, hb⟩
  rw [(hy fit18.2.1).one is18a, show stopFrom ⟨2, 1, 0, ps18⟩ [0, 0] 0 ms18a = _ from st18a, show stopV (some (2, 3)) = .tuple #[.int .i64 2, .int .u32 3, .bool true] from rfl]
  clear hy hn L
  have HB1 : Hid (Bl w0 w1) := ((Bl.refl w0).alloc _).trans hb
  clear hb g0 g1 g2 g3 gl
  have HG1 := Lib.hid (HG0.out.bl HB1.out)
  have HP1 := Lib.hid (lprs_on HP0.out HB1.out)
  have g0 := HG1.out.cell 0
  have g1 := HG1.out.cell 1
  have g2 := HG1.out.cell 2
  have g3 := HG1.out.cell 3
  have gl := HG1.out.lt
  go_wp2_with fail
  refine (cstop_any 2 1 0 (some ⟨gp, 0, none⟩) 2 2 ps18 (some ⟨w1.heap.size, 0, none⟩) 2 2 [0, 1] _ _ rfl (by decide) (lprs_on HP1.out ((Bl.refl _).alloc _)) rfl (by decide) (lrd_new w1 3 #[.int .i64 0, .int .i64 1] rfl rfl) (Nat.le_refl _)).mono ?_
  rintro e w2 ⟨L, hy, hn, rfl, hb⟩
  rw [(hy fit18.2.2).one is18b, show stopFrom ⟨2, 1, 0, ps18⟩ [0, 1] 0 ms18b = _ from st18b, show stopV (none) = .tuple #[.int .i64 0, .int .u32 0, .bool false] from rfl]
  clear hy hn L
  have HB2 : Hid (Bl w1 w2) := ((Bl.refl w1).alloc _).trans hb
  clear hb g0 g1 g2 g3 gl
  have HG2 := Lib.hid (HG1.out.bl HB2.out)
  have HP2 := Lib.hid (lprs_on HP1.out HB2.out)
  have g0 := HG2.out.cell 0
  have g1 := HG2.out.cell 1
  have g2 := HG2.out.cell 2
  have g3 := HG2.out.cell 3
  have gl := HG2.out.lt
  go_wp2_with fail
  refine (csets_any 2 1 0 (some ⟨gp, 0, none⟩) 2 2 ps18 (some ⟨w2.heap.size, 0, none⟩) 1 1 [0] _ _ rfl (by decide) (lprs_on HP2.out ((Bl.refl _).alloc _)) rfl (by decide) (lrd_new w2 3 #[.int .i64 0] rfl rfl) (Nat.le_refl _)).mono ?_
  rintro e w3 ⟨A1, L, c1, rfl, hc1, hsr, hb, hy, hn⟩
  obtain rfl := (hy fit18.1).one is18
  have HB3 : Hid (Bl w2 w3) := ((Bl.refl w2).alloc _).trans hb
  have HS3 := Lib.hid hsr
  clear hb hsr hc1 hy hn g0 g1 g2 g3 gl
  have HG3 := Lib.hid (HG2.out.bl HB3.out)
  have HP3 := Lib.hid (lprs_on HP2.out HB3.out)
  rw [show ms18.length = 2 from rfl]
  go_upto_region 6 with fail
  have HSw := Lib.hid (sr18 w3)
  have HBw : Hid (Bl w3 (((w3.alloc (.cells #[.int .i64 0, .int .i64 0, .int .i64 0, .int .i64 1, .int .i64 0, .int .i64 0] 42)).alloc (.cells #[.int .i64 0, .int .i64 0, .int .i64 1, .int .i64 0, .int .i64 1, .int .i64 0, .int .i64 0, .int .i64 2, .int .i64 0, .int .i64 1, .int .i64 0, .int .i64 1] 42)).alloc (.cells #[.slice (some ⟨w3.heap.size, 0, none⟩) 2 2, .slice (some ⟨w3.heap.size + 1, 0, none⟩) 4 4] 26))) := (((Bl.refl w3).alloc _).alloc _).alloc _
  generalize (((w3.alloc (.cells #[.int .i64 0, .int .i64 0, .int .i64 0, .int .i64 1, .int .i64 0, .int .i64 0] 42)).alloc (.cells #[.int .i64 0, .int .i64 0, .int .i64 1, .int .i64 0, .int .i64 1, .int .i64 0, .int .i64 0, .int .i64 2, .int .i64 0, .int .i64 1, .int .i64 0, .int .i64 1] 42)).alloc (.cells #[.slice (some ⟨w3.heap.size, 0, none⟩) 2 2, .slice (some ⟨w3.heap.size + 1, 0, none⟩) 4 4] 26)) = w4 at *
  generalize w3.heap.size + 1 + 1 = gw at *
  have HBx := Lib.hid (Bl.refl w4)
  have HG4 := Lib.hid (HG3.out.bl HBw.out)
  have HP4 := Lib.hid (lprs_on HP3.out HBw.out)
  have HS4 := Lib.hid (HS3.out.bl HBw.out)
  obtain ⟨bs, os, Ai, ci, rfl, hbs, hcs, hci, hri⟩ := HS4.out.at_ (show 0 < ms18.length by decide)
  rw [show (ms18[0]'(by decide)).length = 2 from rfl] at hcs
  have HX : Hid (∀ wx, Bl w4 wx → wx.cell? ⟨gv, 0, none⟩ = some (.int .i64 2) ∧ wx.cell? ⟨gv, 1, none⟩ = some (.int .i64 1) ∧ wx.cell? ⟨gv, 2, none⟩ = some (.int .i64 0) ∧ wx.cell? ⟨gv, 3, none⟩ = some (.slice (some ⟨gp, 0, none⟩) 2 2) ∧ wx.cell? ⟨bs, os, none⟩ = some (.slice Ai 2 ci)) := fun wx hb =>
    ⟨(HG4.out.bl hb).cell 0, (HG4.out.bl hb).cell 1, (HG4.out.bl hb).cell 2, (HG4.out.bl hb).cell 3, (Below.cell hb (p := ⟨bs, os, none⟩) hbs).trans hcs⟩
  have HSm := Lib.hid (fun (wx : World) (hb : Bl w4 wx) => csame_any (some ⟨bs, os, none⟩) (some ⟨gw, 0, none⟩) 2 2 c1 2 ms18 ms18 wx rfl rfl (HS4.out.bl hb) (HSw.out.bl hb) few18 few18)
  have HNt := Lib.hid (fun (wx : World) (hb : Bl w4 wx) => cnext_any 2 1 0 (some ⟨gp, 0, none⟩) 2 2 ps18 Ai 2 ci ((ms18[0]'(by decide)).map Ch.Im.ix) wx wx.heap.size rfl (by decide) (lprs_on HP4.out hb).prs rfl (by decide) (by rw [← imRow_ix]; exact lrd_on hri hb) (Nat.le_refl _))
  have HNv : Hid (nxtN ⟨2, 1, 0, ps18⟩ ((ms18[0]'(by decide)).map Ch.Im.ix) = 65537) := by
    exact (if_pos (show okB ⟨2, 1, 0, ps18⟩ = true from ok18)).trans nx18
  clear hbs hcs hci hri
  have tk1 : True := trivial
  have tk2 : True := trivial
  go_region_held3 (fun wx => wx.cell? ⟨gv, 0, none⟩ = some (.int .i64 2) ∧ wx.cell? ⟨gv, 1, none⟩ = some (.int .i64 1) ∧ wx.cell? ⟨gv, 2, none⟩ = some (.int .i64 0) ∧ wx.cell? ⟨gv, 3, none⟩ = some (.slice (some ⟨gp, 0, none⟩) 2 2) ∧ wx.cell? ⟨bs, os, none⟩ = some (.slice Ai 2 ci)) (first | with_reducible exact HX.out _ HBx.out | with_reducible exact HX.out _ HBx.out.drew) (first
    | (go_at_call 10; have _t := tk1; ((with_reducible refine (HSm.out _ (by first | exact HBx.out | exact HBx.out.drew)).mono ?_); rintro e v1 ⟨rfl, hb1⟩; rw [show decide (ms18 = ms18) = true from decide_eq_true rfl]; have HBx := Lib.hid (HBx.out.trans (Bl.undrew hb1)); clear hb1; clear tk1))
    | (go_at_call 13; have _t := tk2; ((with_reducible refine (HNt.out _ (by first | exact HBx.out | exact HBx.out.drew)).mono ?_); rintro e v2 ⟨rfl, hb2⟩; rw [HNv.out]; have HBx := Lib.hid (HBx.out.trans hb2); clear hb2; clear tk2)))
  all_goals
    go_wp2_with fail
    go_ret
    exact ⟨rfl, HB0.out.trans (HB1.out.trans (HB2.out.trans (HB3.out.trans (HBw.out.trans HBx.out))))⟩
end Go.Proofs.Ytckckejgocbkkaa
