/- The tree laws' awake. -/
import Derived.Test.YtmdepbgcgkifpaaTCode
import Derived.Test.YtmdepbgcgkifpaaTOwn
import Derived.Test.YtmdepbgcgkifpaaTNSame
import Derived.Test.YtmdepbgcgkifpaaTCmp
namespace Go.Proofs.Ytmdepbgcgkifpaa
open Go.RowKit

def ps15 : List Gr.Pr := [⟨0, [⟨false, 0⟩, ⟨true, 1⟩, ⟨false, 1⟩]⟩, ⟨1, []⟩]
def nd15 : List (Int × List Int) := [(0, [0, 1, 1, 2]), (1, [1])]
theorem rp15a : Dv.replayOf (okB ⟨2, 2, 0, ps15⟩) ⟨2, 2, 0, ps15⟩ [0, 1] = ([0, 1], 0) := by kernel_rfl
theorem rp15b : Dv.replayOf (okB ⟨2, 2, 0, ps15⟩) ⟨2, 2, 0, ps15⟩ [0] = ([], 3) := by kernel_rfl
theorem rp15c : Dv.replayOf (okB ⟨2, 2, 0, ps15⟩) ⟨2, 2, 0, ps15⟩ [1] = ([], 2) := by kernel_rfl
theorem nd15_of {nd : List (Int × List Int)} (h : Dv.NodesOf ps15 0 [0, 1] nd) : nd = nd15 := by
  have hd : Al.Nd ps15 [0, 1] [0, 1] [⟨true, 0⟩] 0 2 _ _ :=
    .non (l := [1]) (m := []) (p := ⟨0, [⟨false, 0⟩, ⟨true, 1⟩, ⟨false, 1⟩]⟩) rfl rfl rfl (.tok rfl rfl (.non (l := []) (m := []) (p := ⟨1, []⟩) rfl rfl rfl .nil (.tok rfl rfl .nil))) .nil
  have := h [0, 1] [0, 1] 2 _ _ rfl hd
  rw [this]
  rfl
theorem prsC_on {w w' : World} {A : Option Addr} {ps : List Gr.Pr} (h : PrsC w w.heap.size A ps) (hb : Bl w w') : PrsC w' w'.heap.size A ps := (h.bl (Nat.le_refl _) hb).more hb.size
theorem rd_new1 (w : World) (t : TypeId) (cs : Array Value) {xs : List Value} (h : cs.toList = xs) {g : Nat} (hg : g = w.heap.size) : Rd (w.alloc (.cells cs t)) (w.alloc (.cells cs t)).heap.size (some ⟨g, 0, none⟩) xs := by
  subst h hg
  exact (rd_newB w t cs).more (by simp)
theorem rd_onb {w w' : World} {A : Option Addr} {xs : List Value} (h : Rd w w.heap.size A xs) (hb : Bl w w') : Rd w' w'.heap.size A xs := (h.bl (Nat.le_refl _) hb).more hb.size
theorem prs15 (w : World) : PrsC (((w.alloc (.cells #[.bool false, .int .i64 0, .bool true, .int .i64 1, .bool false, .int .i64 1] 43)).alloc (.cells #[.int .i64 0, .slice (some ⟨w.heap.size, 0, none⟩) 3 3, .int .i64 1, .slice none 0 0] 46)).alloc (.cells #[.int .i64 2, .int .i64 2, .int .i64 0, .slice (some ⟨w.heap.size + 1, 0, none⟩) 2 2] 24))
    (((w.alloc (.cells #[.bool false, .int .i64 0, .bool true, .int .i64 1, .bool false, .int .i64 1] 43)).alloc (.cells #[.int .i64 0, .slice (some ⟨w.heap.size, 0, none⟩) 3 3, .int .i64 1, .slice none 0 0] 46)).alloc (.cells #[.int .i64 2, .int .i64 2, .int .i64 0, .slice (some ⟨w.heap.size + 1, 0, none⟩) 2 2] 24)).heap.size (some ⟨w.heap.size + 1, 0, none⟩) ps15 := by
  refine ⟨[⟨0, [⟨false, 0⟩, ⟨true, 1⟩, ⟨false, 1⟩], some ⟨w.heap.size, 0, none⟩, 3⟩, ⟨1, [], none, 0⟩], rfl, rd_onb (rd_new1 _ _ #[.int .i64 0, .slice (some ⟨w.heap.size, 0, none⟩) 3 3, .int .i64 1, .slice none 0 0] rfl (by simp)) ((Bl.refl _).alloc _), ?_⟩
  intro h hh
  simp only [List.mem_cons, List.not_mem_nil, or_false] at hh
  rcases hh with rfl | rfl
  · exact ⟨rd_onb (rd_new1 w _ #[.bool false, .int .i64 0, .bool true, .int .i64 1, .bool false, .int .i64 1] rfl rfl) (((Bl.refl _).alloc _).alloc _), (show (3 : Nat) ≤ 3 from Nat.le_refl _), (show (3 : Nat) ≤ maxLen by simp only [maxLen]; omega)⟩
  · exact ⟨Rd.nil, Nat.le_refl _, Nat.zero_le _⟩

theorem NRd.onb {w w' : World} {A : Option Addr} {nd : List (Int × List Int)} (h : NRd w w.heap.size A nd) (hb : Bl w w') : NRd w' w'.heap.size A nd := by
  obtain ⟨hs, e, h⟩ := h.rows
  have h2 := ((h.bl (Nat.le_refl _) hb).more hb.size).rd
  rw [e] at h2
  exact h2
theorem nds15 (w : World) : NRd (((w.alloc (.cells #[.int .i64 0, .int .i64 1, .int .i64 1, .int .i64 2] 3)).alloc (.cells #[.int .i64 1] 3)).alloc (.cells #[.int .i64 0, .slice (some ⟨w.heap.size, 0, none⟩) 4 4, .int .i64 1, .slice (some ⟨w.heap.size + 1, 0, none⟩) 1 1] 48))
    (((w.alloc (.cells #[.int .i64 0, .int .i64 1, .int .i64 1, .int .i64 2] 3)).alloc (.cells #[.int .i64 1] 3)).alloc (.cells #[.int .i64 0, .slice (some ⟨w.heap.size, 0, none⟩) 4 4, .int .i64 1, .slice (some ⟨w.heap.size + 1, 0, none⟩) 1 1] 48)).heap.size (some ⟨w.heap.size + 1 + 1, 0, none⟩) nd15 := by
  refine NRh.rd (hs := [⟨0, [0, 1, 1, 2], some ⟨w.heap.size, 0, none⟩, 4⟩, ⟨1, [1], some ⟨w.heap.size + 1, 0, none⟩, 1⟩]) ⟨rd_new1 _ _ _ rfl (by simp), ?_⟩
  intro h hh
  simp only [List.mem_cons, List.not_mem_nil, or_false] at hh
  rcases hh with rfl | rfl
  · exact rd_onb (rd_new1 w _ #[.int .i64 0, .int .i64 1, .int .i64 1, .int .i64 2] rfl rfl) (((Bl.refl _).alloc _).alloc _)
  · exact rd_onb (rd_new1 _ _ #[.int .i64 1] rfl (by simp)) ((Bl.refl _).alloc _)

set_option maxRecDepth 100000 in
set_option maxHeartbeats 4000000 in
theorem awake15_any (w : World) : Calls Try.prog 6 #[] w fun e w' => e = .returned (.bool true) ∧ Bl w w' := by
  have HP0 := Lib.hid (prs15 w)
  have HB0 : Hid (Bl w (((w.alloc (.cells #[.bool false, .int .i64 0, .bool true, .int .i64 1, .bool false, .int .i64 1] 43)).alloc (.cells #[.int .i64 0, .slice (some ⟨w.heap.size, 0, none⟩) 3 3, .int .i64 1, .slice none 0 0] 46)).alloc (.cells #[.int .i64 2, .int .i64 2, .int .i64 0, .slice (some ⟨w.heap.size + 1, 0, none⟩) 2 2] 24))) := (((Bl.refl w).alloc _).alloc _).alloc _
  have HG0 : Hid (Bk (((w.alloc (.cells #[.bool false, .int .i64 0, .bool true, .int .i64 1, .bool false, .int .i64 1] 43)).alloc (.cells #[.int .i64 0, .slice (some ⟨w.heap.size, 0, none⟩) 3 3, .int .i64 1, .slice none 0 0] 46)).alloc (.cells #[.int .i64 2, .int .i64 2, .int .i64 0, .slice (some ⟨w.heap.size + 1, 0, none⟩) 2 2] 24)) (w.heap.size + 1 + 1) 24 #[.int .i64 2, .int .i64 2, .int .i64 0, .slice (some ⟨w.heap.size + 1, 0, none⟩) 2 2]) := by
    have h := Bk.new ((w.alloc (.cells #[.bool false, .int .i64 0, .bool true, .int .i64 1, .bool false, .int .i64 1] 43)).alloc (.cells #[.int .i64 0, .slice (some ⟨w.heap.size, 0, none⟩) 3 3, .int .i64 1, .slice none 0 0] 46)) 24 #[.int .i64 2, .int .i64 2, .int .i64 0, .slice (some ⟨w.heap.size + 1, 0, none⟩) 2 2]
    rw [show ((w.alloc (.cells #[.bool false, .int .i64 0, .bool true, .int .i64 1, .bool false, .int .i64 1] 43)).alloc (.cells #[.int .i64 0, .slice (some ⟨w.heap.size, 0, none⟩) 3 3, .int .i64 1, .slice none 0 0] 46)).heap.size = w.heap.size + 1 + 1 by simp] at h
    exact h
  go_enter Try.func6, Try.ntmps6
  go_upto_region 2 with fail
  generalize ((w.alloc (.cells #[.bool false, .int .i64 0, .bool true, .int .i64 1, .bool false, .int .i64 1] 43)).alloc (.cells #[.int .i64 0, .slice (some ⟨w.heap.size, 0, none⟩) 3 3, .int .i64 1, .slice none 0 0] 46)).alloc (.cells #[.int .i64 2, .int .i64 2, .int .i64 0, .slice (some ⟨w.heap.size + 1, 0, none⟩) 2 2] 24) = w0 at *
  generalize w.heap.size + 1 + 1 = gv at *
  generalize w.heap.size + 1 = gp at *
  have g0 := HG0.out.cell 0
  have g1 := HG0.out.cell 1
  have g2 := HG0.out.cell 2
  have g3 := HG0.out.cell 3
  have gl := HG0.out.lt
  go_wp2_with fail
  refine (replay_any 2 2 0 (some ⟨gp, 0, none⟩) 2 2 ps15 (some ⟨w0.heap.size, 0, none⟩) 2 2 [0, 1] _ _ rfl (by decide) (prsC_on HP0.out ((Bl.refl _).alloc _)) (Nat.le_refl _) rfl (by decide) (rd_new1 w0 3 #[.int .i64 0, .int .i64 1] rfl rfl)).mono ?_
  rw [rp15a]
  rintro e w1 ⟨A1, n1, c1, rfl, hn1, ho1, hb1⟩
  have hn1 : n1 = 2 := hn1
  subst hn1
  have HR1 := Lib.hid (Rd.own ho1)
  have HB1 : Hid (Bl w0 w1) := ((Bl.refl w0).alloc _).trans hb1
  clear ho1 hb1 g0 g1 g2 g3 gl
  have HG1 := Lib.hid (HG0.out.bl HB1.out)
  have HP1 := Lib.hid (prsC_on HP0.out HB1.out)
  have g0 := HG1.out.cell 0
  have g1 := HG1.out.cell 1
  have g2 := HG1.out.cell 2
  have g3 := HG1.out.cell 3
  have gl := HG1.out.lt
  go_wp2_with fail
  refine (nodes_any 2 2 0 (some ⟨gp, 0, none⟩) 2 2 ps15 (some ⟨w1.heap.size, 0, none⟩) 2 2 [0, 1] _ _ rfl (by decide) (prsC_on HP1.out ((Bl.refl _).alloc _)) (Nat.le_refl _) rfl (by decide) (rd_new1 w1 3 #[.int .i64 0, .int .i64 1] rfl rfl)).mono ?_
  rw [rp15a]
  rintro e w2 ⟨nd, _, hno, _, A2, n2, c2, rfl, hn2, hr2, hb2⟩
  have hnd := nd15_of (hno rfl)
  subst hnd
  have hn2 : n2 = 2 := hn2
  subst hn2
  have HN2 := Lib.hid hr2
  have HB2 : Hid (Bl w1 w2) := ((Bl.refl w1).alloc _).trans hb2
  clear hr2 hb2 hno g0 g1 g2 g3 gl HG0 HP0
  have HG2 := Lib.hid (HG1.out.bl HB2.out)
  have HP2 := Lib.hid (prsC_on HP1.out HB2.out)
  have HR2 := Lib.hid (rd_onb HR1.out HB2.out)
  have g0 := HG2.out.cell 0
  have g1 := HG2.out.cell 1
  have g2 := HG2.out.cell 2
  have g3 := HG2.out.cell 3
  have gl := HG2.out.lt
  go_wp2_with fail
  refine (replay_any 2 2 0 (some ⟨gp, 0, none⟩) 2 2 ps15 (some ⟨w2.heap.size, 0, none⟩) 1 1 [0] _ _ rfl (by decide) (prsC_on HP2.out ((Bl.refl _).alloc _)) (Nat.le_refl _) rfl (by decide) (rd_new1 w2 3 #[.int .i64 0] rfl rfl)).mono ?_
  rw [rp15b]
  rintro e w3 ⟨A3, n3, c3, rfl, hn3, _, hb3⟩
  have HB3 : Hid (Bl w2 w3) := ((Bl.refl w2).alloc _).trans hb3
  clear hb3 hn3 g0 g1 g2 g3 gl HG1 HP1 HR1
  have HG3 := Lib.hid (HG2.out.bl HB3.out)
  have HP3 := Lib.hid (prsC_on HP2.out HB3.out)
  have g0 := HG3.out.cell 0
  have g1 := HG3.out.cell 1
  have g2 := HG3.out.cell 2
  have g3 := HG3.out.cell 3
  have gl := HG3.out.lt
  go_wp2_with fail
  refine (replay_any 2 2 0 (some ⟨gp, 0, none⟩) 2 2 ps15 (some ⟨w3.heap.size, 0, none⟩) 1 1 [1] _ _ rfl (by decide) (prsC_on HP3.out ((Bl.refl _).alloc _)) (Nat.le_refl _) rfl (by decide) (rd_new1 w3 3 #[.int .i64 1] rfl rfl)).mono ?_
  rw [rp15c]
  rintro e w4 ⟨A4, n4, c4, rfl, hn4, _, hb4⟩
  have HB4 : Hid (Bl w2 w4) := HB3.out.trans (((Bl.refl w3).alloc _).trans hb4)
  clear hb4 hn4 g0 g1 g2 g3 gl HG2 HP2 HG3 HP3 HB3
  have HR4 := Lib.hid (rd_onb HR2.out HB4.out)
  have HN4 := Lib.hid (HN2.out.onb HB4.out)
  have HBw4 : Hid (Bl w w4) := HB0.out.trans (HB1.out.trans (HB2.out.trans HB4.out))
  clear HR2 HN2 HB0 HB1 HB2 HB4
  go_wp2_with fail
  refine (isame_any A1 (some ⟨w4.heap.size, 0, none⟩) 2 2 c1 2 [0, 1] [0, 1] _ _ rfl rfl (by decide) (rd_onb HR4.out ((Bl.refl _).alloc _)) (rd_new1 w4 3 #[.int .i64 0, .int .i64 1] rfl rfl)).mono ?_
  rw [show decide (([0, 1] : List Int) = [0, 1]) = true from rfl]
  rintro e w5 ⟨rfl, q5, rfl⟩
  have HB5 : Hid (Bl w4 ((w4.alloc (.cells #[.int .i64 0, .int .i64 1] 3)).drewN q5)) := ((Bl.refl w4).alloc _).drewN _
  generalize (w4.alloc (.cells #[.int .i64 0, .int .i64 1] 3)).drewN q5 = w5 at *
  have HBw5 : Hid (Bl w w5) := HBw4.out.trans HB5.out
  have HN5 := Lib.hid (HN4.out.onb HB5.out)
  clear HR4 HN4 HBw4 HB5
  go_wp2_with fail
  refine (own_any A2 2 c2 nd15 w5 _ rfl (by decide) HN5.out (Nat.le_refl _)).mono ?_
  rintro e w6 ⟨A6, n6, c6, rfl, hn6, hr6, hb6⟩
  have hn6 : n6 = 2 := hn6
  subst hn6
  have HN6 := Lib.hid hr6
  have HBw6 : Hid (Bl w w6) := HBw5.out.trans hb6
  clear hr6 hb6 HN5 HBw5
  have HL6 := Lib.hid (nds15 w6)
  have hb7 : Bl w6 (((w6.alloc (.cells #[.int .i64 0, .int .i64 1, .int .i64 1, .int .i64 2] 3)).alloc (.cells #[.int .i64 1] 3)).alloc (.cells #[.int .i64 0, .slice (some ⟨w6.heap.size, 0, none⟩) 4 4, .int .i64 1, .slice (some ⟨w6.heap.size + 1, 0, none⟩) 1 1] 48)) := (((Bl.refl _).alloc _).alloc _).alloc _
  have HN7 := Lib.hid (HN6.out.onb hb7)
  have HBw7 := Lib.hid (HBw6.out.trans hb7)
  clear hb7 HN6 HBw6
  go_wp2_with fail
  refine (nsame_any A6 (some ⟨w6.heap.size + 1 + 1, 0, none⟩) 2 2 c6 2 nd15 nd15 _ _ rfl rfl (by decide) (by decide) HN7.out HL6.out).mono ?_
  rw [show decide (nd15 = nd15) = true from rfl]
  rintro e w8 ⟨rfl, q8, rfl⟩
  have HBw8 := Lib.hid (HBw7.out.drewN q8)
  clear HN7 HL6 HBw7
  generalize World.drewN _ q8 = w8 at *
  have hb9 : Bl w8 ((w8.alloc (.cells #[.int .i64 0] 3)).alloc (.cells #[.int .i64 0, .int .i64 0] 3)) := ((Bl.refl _).alloc _).alloc _
  have HBw9 := Lib.hid (HBw8.out.trans hb9)
  clear hb9 HBw8
  go_wp2_with fail
  refine (less_any (some ⟨w8.heap.size, 0, none⟩) (some ⟨w8.heap.size + 1, 0, none⟩) 1 2 1 2 [0] [0, 0] _ _ rfl rfl (by decide) (rd_onb (rd_new1 w8 _ #[.int .i64 0] rfl rfl) ((Bl.refl _).alloc _)) (rd_new1 _ _ #[.int .i64 0, .int .i64 0] rfl (by simp))).mono ?_
  rw [show Dv.less [0] [0, 0] = true from rfl]
  rintro e w10 ⟨rfl, rfl⟩
  generalize (w8.alloc (.cells #[.int .i64 0] 3)).alloc (.cells #[.int .i64 0, .int .i64 0] 3) = w9 at *
  have hb10 : Bl w9 ((w9.alloc (.cells #[.int .i64 1] 3)).alloc (.cells #[.int .i64 0, .int .i64 5] 3)) := ((Bl.refl _).alloc _).alloc _
  have HBw10 := Lib.hid (HBw9.out.trans hb10)
  clear hb10 HBw9
  go_wp2_with fail
  refine (less_any (some ⟨w9.heap.size, 0, none⟩) (some ⟨w9.heap.size + 1, 0, none⟩) 1 2 1 2 [1] [0, 5] _ _ rfl rfl (by decide) (rd_onb (rd_new1 w9 _ #[.int .i64 1] rfl rfl) ((Bl.refl _).alloc _)) (rd_new1 _ _ #[.int .i64 0, .int .i64 5] rfl (by simp))).mono ?_
  rw [show Dv.less [1] [0, 5] = false from rfl]
  rintro e w11 ⟨rfl, rfl⟩
  go_wp2_with fail
  go_ret
  exact ⟨rfl, HBw10.out⟩
end Go.Proofs.Ytmdepbgcgkifpaa
