/- The lead laws' Large and awake. -/
import Derived.Test.YtpblamiiggglaaaLdC
import Derived.Test.YtpblamiiggglaaaLitS
import Derived.BigFrame
namespace Go.Proofs.Ytpblamiiggglaaa
open Go.RowKit

/-- Is it more than is looked at? -/
def lg17 (ps : List Gr.Pr) (lw : Nat) : Bool := lgB ps || decide (20 < ps.length) || (decide (8 < lw) && decide (lw ≤ 24)) || decide (40 < lw)

set_option maxRecDepth 100000 in
set_option maxHeartbeats 3200000 in
theorem large17_any (t n s : Int) (A : Option Addr) (len c : Nat) (ps : List Gr.Pr) (Aw : Option Addr) (lw cw : Nat) (w : World) (B : Nat) (hlen : len = ps.length) (hmax : len ≤ 9223372036854775807) (hmw : lw ≤ 9223372036854775807) (hr : Prs w B A ps) (hB : B ≤ w.heap.size) :
    Calls Try.prog 8 #[.agg #[.int .i64 t, .int .i64 n, .int .i64 s, .slice A len c], .slice Aw lw cw] w fun e w' => e = .returned (.bool (lg17 ps lw)) ∧ Bl w w' := by
  have HB0 : Hid (Bl w (w.alloc (.cells #[.int .i64 t, .int .i64 n, .int .i64 s, .slice A len c] 24))) := (Bl.refl w).alloc _
  have HK0 := Lib.hid (Bk.new w 24 #[.int .i64 t, .int .i64 n, .int .i64 s, .slice A len c])
  have HLa := Lib.hid (large9_any t n s A len c ps (w.alloc (.cells #[.int .i64 t, .int .i64 n, .int .i64 s, .slice A len c] 24)) B hlen hmax (hr.bl hB HB0.out) (Nat.le_trans hB HB0.out.size))
  have HG : Hid (lg17 ps lw = (lgB ps || decide (20 < len) || (decide (8 < lw) && decide (lw ≤ 24)) || decide (40 < lw))) := by rw [hlen]; rfl
  clear hr hlen
  cases hl : lgB ps with
  | true =>
    rw [hl] at HLa HG
    clear hl
    have HGt : Hid (lg17 ps lw = true) := by unfold Hid; rw [HG.out]; simp
    go_enter Try.func8, Try.ntmps8
    go_wp2_with fail
    refine HLa.out.mono ?_
    rintro e w1 ⟨rfl, hb1⟩
    have HB1 := Lib.hid (HB0.out.trans hb1)
    clear hb1
    go_wp2_with fail
    go_ret
    exact ⟨by rw [HGt.out]; rfl, HB1.out⟩
  | false =>
    rw [hl] at HLa HG
    clear hl
    have key : (20 < len) ∨ (¬ 20 < len ∧ 8 < lw ∧ lw ≤ 24) ∨ (¬ 20 < len ∧ 8 < lw ∧ ¬ lw ≤ 24 ∧ 40 < lw) ∨ (¬ 20 < len ∧ 8 < lw ∧ ¬ lw ≤ 24 ∧ ¬ 40 < lw) ∨ (¬ 20 < len ∧ ¬ 8 < lw ∧ ¬ 40 < lw) := by omega
    go_enter Try.func8, Try.ntmps8
    go_wp2_with fail
    refine HLa.out.mono ?_
    rintro e w1 ⟨rfl, hb1⟩
    have HB1 := Lib.hid (HB0.out.trans hb1)
    have HK1 := Lib.hid (HK0.out.bl hb1)
    have k3 : w1.cell? ⟨w.heap.size, 3, none⟩ = some (.slice A len c) := HK1.out.cell 3
    have kl := HK1.out.lt
    clear hb1
    rcases key with k1 | ⟨k1, k2, k3'⟩ | ⟨k1, k2, k3', k4⟩ | ⟨k1, k2, k3', k4⟩ | ⟨k1, k2, k4⟩
    · have HGt : Hid (lg17 ps lw = true) := by unfold Hid; rw [HG.out, decide_eq_true k1]; simp
      have d1 : decide ((20 : Int) < (len : Int)) = true := decide_eq_true (by omega)
      clear k1
      go_wp2_with fail
      go_ret
      exact ⟨by rw [HGt.out]; rfl, HB1.out⟩
    · have HGt : Hid (lg17 ps lw = true) := by unfold Hid; rw [HG.out, decide_eq_true k2, decide_eq_true k3']; simp
      have d1 : decide ((20 : Int) < (len : Int)) = false := decide_eq_false (by omega)
      have d2 : decide ((8 : Int) < (lw : Int)) = true := decide_eq_true (by omega)
      have d3 : decide ((lw : Int) ≤ (24 : Int)) = true := decide_eq_true (by omega)
      clear k1 k2 k3'
      go_wp2_with fail
      go_ret
      exact ⟨by rw [HGt.out]; rfl, HB1.out⟩
    · have HGt : Hid (lg17 ps lw = true) := by unfold Hid; rw [HG.out, decide_eq_true k4]; simp
      have d1 : decide ((20 : Int) < (len : Int)) = false := decide_eq_false (by omega)
      have d2 : decide ((8 : Int) < (lw : Int)) = true := decide_eq_true (by omega)
      have d3 : decide ((lw : Int) ≤ (24 : Int)) = false := decide_eq_false (by omega)
      have d4 : decide ((40 : Int) < (lw : Int)) = true := decide_eq_true (by omega)
      clear k1 k2 k3' k4
      go_wp2_with fail
      go_ret
      exact ⟨by rw [HGt.out]; rfl, HB1.out⟩
    · have HGt : Hid (lg17 ps lw = false) := by unfold Hid; rw [HG.out, decide_eq_false k1, decide_eq_false k3', decide_eq_false k4]; simp
      have d1 : decide ((20 : Int) < (len : Int)) = false := decide_eq_false (by omega)
      have d2 : decide ((8 : Int) < (lw : Int)) = true := decide_eq_true (by omega)
      have d3 : decide ((lw : Int) ≤ (24 : Int)) = false := decide_eq_false (by omega)
      have d4 : decide ((40 : Int) < (lw : Int)) = false := decide_eq_false (by omega)
      clear k1 k2 k3' k4
      go_wp2_with fail
      go_ret
      exact ⟨by rw [HGt.out]; rfl, HB1.out⟩
    · have HGt : Hid (lg17 ps lw = false) := by unfold Hid; rw [HG.out, decide_eq_false k1, decide_eq_false k2, decide_eq_false k4]; simp
      have d1 : decide ((20 : Int) < (len : Int)) = false := decide_eq_false (by omega)
      have d2 : decide ((8 : Int) < (lw : Int)) = false := decide_eq_false (by omega)
      have d4 : decide ((40 : Int) < (lw : Int)) = false := decide_eq_false (by omega)
      clear k1 k2 k4
      go_wp2_with fail
      go_ret
      exact ⟨by rw [HGt.out]; rfl, HB1.out⟩

theorem lrd_new (w : World) (t : TypeId) (cs : Array Value) {xs : List Value} (h : cs.toList = xs) {g : Nat} (hg : g = w.heap.size) : Rd (w.alloc (.cells cs t)) (w.alloc (.cells cs t)).heap.size (some ⟨g, 0, none⟩) xs := by
  subst h hg
  exact (rd_newB w t cs).more (by simp)
theorem lrd_on {w w' : World} {A : Option Addr} {xs : List Value} (h : Rd w w.heap.size A xs) (hb : Bl w w') : Rd w' w'.heap.size A xs := (h.bl (Nat.le_refl _) hb).more hb.size
theorem lprs_on {w w' : World} {A : Option Addr} {ps : List Gr.Pr} (h : PrsC w w.heap.size A ps) (hb : Bl w w') : PrsC w' w'.heap.size A ps := (h.bl (Nat.le_refl _) hb).more hb.size
theorem prs17 (w : World) : PrsC ((((((w.alloc (.cells #[.bool true, .int .i64 1] 41)).alloc (.cells #[.bool true, .int .i64 1, .bool true, .int .i64 1] 41)).alloc (.cells #[.bool false, .int .i64 0] 41)).alloc (.cells #[.bool false, .int .i64 1] 41)).alloc (.cells #[.int .i64 0, .slice (some ⟨w.heap.size + 1, 0, none⟩) 2 2, .int .i64 1, .slice (some ⟨w.heap.size + 1 + 1, 0, none⟩) 1 1, .int .i64 1, .slice none 0 0, .int .i64 1, .slice (some ⟨w.heap.size + 1 + 1 + 1, 0, none⟩) 1 1] 44)).alloc (.cells #[.int .i64 2, .int .i64 2, .int .i64 0, .slice (some ⟨w.heap.size + 1 + 1 + 1 + 1, 0, none⟩) 4 4] 24)) ((((((w.alloc (.cells #[.bool true, .int .i64 1] 41)).alloc (.cells #[.bool true, .int .i64 1, .bool true, .int .i64 1] 41)).alloc (.cells #[.bool false, .int .i64 0] 41)).alloc (.cells #[.bool false, .int .i64 1] 41)).alloc (.cells #[.int .i64 0, .slice (some ⟨w.heap.size + 1, 0, none⟩) 2 2, .int .i64 1, .slice (some ⟨w.heap.size + 1 + 1, 0, none⟩) 1 1, .int .i64 1, .slice none 0 0, .int .i64 1, .slice (some ⟨w.heap.size + 1 + 1 + 1, 0, none⟩) 1 1] 44)).alloc (.cells #[.int .i64 2, .int .i64 2, .int .i64 0, .slice (some ⟨w.heap.size + 1 + 1 + 1 + 1, 0, none⟩) 4 4] 24)).heap.size (some ⟨w.heap.size + 1 + 1 + 1 + 1, 0, none⟩) ps17 := by
  refine ⟨[⟨0, [⟨true, 1⟩, ⟨true, 1⟩], some ⟨w.heap.size + 1, 0, none⟩, 2⟩, ⟨1, [⟨false, 0⟩], some ⟨w.heap.size + 1 + 1, 0, none⟩, 1⟩, ⟨1, [], none, 0⟩, ⟨1, [⟨false, 1⟩], some ⟨w.heap.size + 1 + 1 + 1, 0, none⟩, 1⟩], rfl, lrd_on (lrd_new _ _ #[.int .i64 0, .slice (some ⟨w.heap.size + 1, 0, none⟩) 2 2, .int .i64 1, .slice (some ⟨w.heap.size + 1 + 1, 0, none⟩) 1 1, .int .i64 1, .slice none 0 0, .int .i64 1, .slice (some ⟨w.heap.size + 1 + 1 + 1, 0, none⟩) 1 1] rfl (by simp)) ((Bl.refl _).alloc _), ?_⟩
  intro h hh
  simp only [List.mem_cons, List.not_mem_nil, or_false] at hh
  rcases hh with rfl | rfl | rfl | rfl
  · exact ⟨lrd_on (lrd_new _ _ #[.bool true, .int .i64 1, .bool true, .int .i64 1] rfl (by simp)) (((((Bl.refl _).alloc _).alloc _).alloc _).alloc _), (show (2 : Nat) ≤ 2 from Nat.le_refl _), (show (2 : Nat) ≤ maxLen by simp only [maxLen]; omega)⟩
  · exact ⟨lrd_on (lrd_new _ _ #[.bool false, .int .i64 0] rfl (by simp)) ((((Bl.refl _).alloc _).alloc _).alloc _), (show (1 : Nat) ≤ 1 from Nat.le_refl _), (show (1 : Nat) ≤ maxLen by simp only [maxLen]; omega)⟩
  · exact ⟨Rd.nil, Nat.le_refl _, Nat.zero_le _⟩
  · exact ⟨lrd_on (lrd_new _ _ #[.bool false, .int .i64 1] rfl (by simp)) (((Bl.refl _).alloc _).alloc _), (show (1 : Nat) ≤ 1 from Nat.le_refl _), (show (1 : Nat) ≤ maxLen by simp only [maxLen]; omega)⟩

set_option maxRecDepth 100000 in
set_option maxHeartbeats 4000000 in
theorem awake17_any (w : World) : Calls Try.prog 7 #[] w fun e w' => e = .returned (.bool true) ∧ Bl w w' := by
  have HP0 := Lib.hid (prs17 w)
  have HB0 : Hid (Bl w ((((((w.alloc (.cells #[.bool true, .int .i64 1] 41)).alloc (.cells #[.bool true, .int .i64 1, .bool true, .int .i64 1] 41)).alloc (.cells #[.bool false, .int .i64 0] 41)).alloc (.cells #[.bool false, .int .i64 1] 41)).alloc (.cells #[.int .i64 0, .slice (some ⟨w.heap.size + 1, 0, none⟩) 2 2, .int .i64 1, .slice (some ⟨w.heap.size + 1 + 1, 0, none⟩) 1 1, .int .i64 1, .slice none 0 0, .int .i64 1, .slice (some ⟨w.heap.size + 1 + 1 + 1, 0, none⟩) 1 1] 44)).alloc (.cells #[.int .i64 2, .int .i64 2, .int .i64 0, .slice (some ⟨w.heap.size + 1 + 1 + 1 + 1, 0, none⟩) 4 4] 24))) := ((((((Bl.refl w).alloc _).alloc _).alloc _).alloc _).alloc _).alloc _
  have HG0 : Hid (Bk ((((((w.alloc (.cells #[.bool true, .int .i64 1] 41)).alloc (.cells #[.bool true, .int .i64 1, .bool true, .int .i64 1] 41)).alloc (.cells #[.bool false, .int .i64 0] 41)).alloc (.cells #[.bool false, .int .i64 1] 41)).alloc (.cells #[.int .i64 0, .slice (some ⟨w.heap.size + 1, 0, none⟩) 2 2, .int .i64 1, .slice (some ⟨w.heap.size + 1 + 1, 0, none⟩) 1 1, .int .i64 1, .slice none 0 0, .int .i64 1, .slice (some ⟨w.heap.size + 1 + 1 + 1, 0, none⟩) 1 1] 44)).alloc (.cells #[.int .i64 2, .int .i64 2, .int .i64 0, .slice (some ⟨w.heap.size + 1 + 1 + 1 + 1, 0, none⟩) 4 4] 24)) (w.heap.size + 1 + 1 + 1 + 1 + 1) 24 #[.int .i64 2, .int .i64 2, .int .i64 0, .slice (some ⟨w.heap.size + 1 + 1 + 1 + 1, 0, none⟩) 4 4]) := by
    have h := Bk.new (((((w.alloc (.cells #[.bool true, .int .i64 1] 41)).alloc (.cells #[.bool true, .int .i64 1, .bool true, .int .i64 1] 41)).alloc (.cells #[.bool false, .int .i64 0] 41)).alloc (.cells #[.bool false, .int .i64 1] 41)).alloc (.cells #[.int .i64 0, .slice (some ⟨w.heap.size + 1, 0, none⟩) 2 2, .int .i64 1, .slice (some ⟨w.heap.size + 1 + 1, 0, none⟩) 1 1, .int .i64 1, .slice none 0 0, .int .i64 1, .slice (some ⟨w.heap.size + 1 + 1 + 1, 0, none⟩) 1 1] 44)) 24 #[.int .i64 2, .int .i64 2, .int .i64 0, .slice (some ⟨w.heap.size + 1 + 1 + 1 + 1, 0, none⟩) 4 4]
    rw [show (((((w.alloc (.cells #[.bool true, .int .i64 1] 41)).alloc (.cells #[.bool true, .int .i64 1, .bool true, .int .i64 1] 41)).alloc (.cells #[.bool false, .int .i64 0] 41)).alloc (.cells #[.bool false, .int .i64 1] 41)).alloc (.cells #[.int .i64 0, .slice (some ⟨w.heap.size + 1, 0, none⟩) 2 2, .int .i64 1, .slice (some ⟨w.heap.size + 1 + 1, 0, none⟩) 1 1, .int .i64 1, .slice none 0 0, .int .i64 1, .slice (some ⟨w.heap.size + 1 + 1 + 1, 0, none⟩) 1 1] 44)).heap.size = w.heap.size + 1 + 1 + 1 + 1 + 1 by simp] at h
    exact h
  go_enter Try.func7, Try.ntmps7
  go_upto_region 3 with fail
  generalize ((((((w.alloc (.cells #[.bool true, .int .i64 1] 41)).alloc (.cells #[.bool true, .int .i64 1, .bool true, .int .i64 1] 41)).alloc (.cells #[.bool false, .int .i64 0] 41)).alloc (.cells #[.bool false, .int .i64 1] 41)).alloc (.cells #[.int .i64 0, .slice (some ⟨w.heap.size + 1, 0, none⟩) 2 2, .int .i64 1, .slice (some ⟨w.heap.size + 1 + 1, 0, none⟩) 1 1, .int .i64 1, .slice none 0 0, .int .i64 1, .slice (some ⟨w.heap.size + 1 + 1 + 1, 0, none⟩) 1 1] 44)).alloc (.cells #[.int .i64 2, .int .i64 2, .int .i64 0, .slice (some ⟨w.heap.size + 1 + 1 + 1 + 1, 0, none⟩) 4 4] 24)) = w0 at *
  generalize w.heap.size + 1 + 1 + 1 + 1 + 1 = gv at *
  generalize w.heap.size + 1 + 1 + 1 + 1 = gp at *
  have g0 := HG0.out.cell 0
  have g1 := HG0.out.cell 1
  have g2 := HG0.out.cell 2
  have g3 := HG0.out.cell 3
  have gl := HG0.out.lt
  go_wp2_with fail
  refine (lead_any 2 2 0 (some ⟨gp, 0, none⟩) 4 4 ps17 (some ⟨w0.heap.size, 0, none⟩) 1 1 [0] 0 _ _ rfl (by decide) (lprs_on HP0.out ((Bl.refl _).alloc _)) rfl (by decide) (Nat.le_refl _) (lrd_new w0 3 #[.int .i64 0] rfl rfl) (Nat.le_refl _)).mono ?_
  rw [show leadsOf ⟨2, 2, 0, ps17⟩ [0] 0 = _ from ans17a]
  rintro e w1 ⟨A1, c1, rfl, hc1, hr1, hb1⟩
  have HR1 := Lib.hid hr1
  have HB1 : Hid (Bl w0 w1) := ((Bl.refl w0).alloc _).trans hb1
  clear hr1 hb1 hc1 g0 g1 g2 g3 gl
  have HG1 := Lib.hid (HG0.out.bl HB1.out)
  have HP1 := Lib.hid (lprs_on HP0.out HB1.out)
  have g0 := HG1.out.cell 0
  have g1 := HG1.out.cell 1
  have g2 := HG1.out.cell 2
  have g3 := HG1.out.cell 3
  have gl := HG1.out.lt
  go_wp2_with fail
  refine (lead_any 2 2 0 (some ⟨gp, 0, none⟩) 4 4 ps17 (some ⟨w1.heap.size, 0, none⟩) 1 1 [0] 1 _ _ rfl (by decide) (lprs_on HP1.out ((Bl.refl _).alloc _)) rfl (by decide) (Nat.le_refl _) (lrd_new w1 3 #[.int .i64 0] rfl rfl) (Nat.le_refl _)).mono ?_
  rw [show leadsOf ⟨2, 2, 0, ps17⟩ [0] 1 = _ from ans17b]
  rintro e w2 ⟨A2, c2, rfl, hc2, hr2, hb2⟩
  have HR2 := Lib.hid hr2
  have HB2 : Hid (Bl w1 w2) := ((Bl.refl w1).alloc _).trans hb2
  clear hr2 hb2 hc2 g0 g1 g2 g3 gl
  have HG2 := Lib.hid (HG1.out.bl HB2.out)
  have HP2 := Lib.hid (lprs_on HP1.out HB2.out)
  have g0 := HG2.out.cell 0
  have g1 := HG2.out.cell 1
  have g2 := HG2.out.cell 2
  have g3 := HG2.out.cell 3
  have gl := HG2.out.lt
  go_wp2_with fail
  refine (lead_any 2 2 0 (some ⟨gp, 0, none⟩) 4 4 ps17 (some ⟨w2.heap.size, 0, none⟩) 1 1 [1] 2 _ _ rfl (by decide) (lprs_on HP2.out ((Bl.refl _).alloc _)) rfl (by decide) (Nat.le_refl _) (lrd_new w2 3 #[.int .i64 1] rfl rfl) (Nat.le_refl _)).mono ?_
  rw [show leadsOf ⟨2, 2, 0, ps17⟩ [1] 2 = _ from ans17c]
  rintro e w3 ⟨A3, c3, rfl, hc3, hr3, hb3⟩
  have HR3 := Lib.hid hr3
  have HB3 : Hid (Bl w2 w3) := ((Bl.refl w2).alloc _).trans hb3
  clear hr3 hb3 hc3 g0 g1 g2 g3 gl
  have HG3 := Lib.hid (HG2.out.bl HB3.out)
  have HP3 := Lib.hid (lprs_on HP2.out HB3.out)
  have g0 := HG3.out.cell 0
  have g1 := HG3.out.cell 1
  have g2 := HG3.out.cell 2
  have g3 := HG3.out.cell 3
  have gl := HG3.out.lt
  go_wp2_with fail
  refine (lead_any 2 2 0 (some ⟨gp, 0, none⟩) 4 4 ps17 (some ⟨w3.heap.size, 0, none⟩) 3 3 [0, 0, 0] 0 _ _ rfl (by decide) (lprs_on HP3.out ((Bl.refl _).alloc _)) rfl (by decide) (Nat.le_refl _) (lrd_new w3 3 #[.int .i64 0, .int .i64 0, .int .i64 0] rfl rfl) (Nat.le_refl _)).mono ?_
  rw [show leadsOf ⟨2, 2, 0, ps17⟩ [0, 0, 0] 0 = _ from ans17d]
  rintro e w4 ⟨A4, c4, rfl, hc4, hr4, hb4⟩
  have HR4 := Lib.hid hr4
  have HB4 : Hid (Bl w3 w4) := ((Bl.refl w3).alloc _).trans hb4
  clear hr4 hb4 hc4 g0 g1 g2 g3 gl
  have HG4 := Lib.hid (HG3.out.bl HB4.out)
  have HP4 := Lib.hid (lprs_on HP3.out HB4.out)
  have g0 := HG4.out.cell 0
  have g1 := HG4.out.cell 1
  have g2 := HG4.out.cell 2
  have g3 := HG4.out.cell 3
  have gl := HG4.out.lt
  go_wp2_with fail
  refine (lead_any 2 2 0 (some ⟨gp, 0, none⟩) 4 4 ps17 (some ⟨w4.heap.size, 0, none⟩) 1 1 [0] 3 _ _ rfl (by decide) (lprs_on HP4.out ((Bl.refl _).alloc _)) rfl (by decide) (Nat.le_refl _) (lrd_new w4 3 #[.int .i64 0] rfl rfl) (Nat.le_refl _)).mono ?_
  rw [show leadsOf ⟨2, 2, 0, ps17⟩ [0] 3 = _ from ans17e]
  rintro e w5 ⟨A5, c5, rfl, hc5, hr5, hb5⟩
  have HR5 := Lib.hid hr5
  have HB5 : Hid (Bl w4 w5) := ((Bl.refl w4).alloc _).trans hb5
  clear hr5 hb5 hc5 g0 g1 g2 g3 gl
  have HG5 := Lib.hid (HG4.out.bl HB5.out)
  have HP5 := Lib.hid (lprs_on HP4.out HB5.out)
  have g0 := HG5.out.cell 0
  have g1 := HG5.out.cell 1
  have g2 := HG5.out.cell 2
  have g3 := HG5.out.cell 3
  have gl := HG5.out.lt
  go_wp2_with fail
  have HC1_5 : Hid (Bl w1 w5) := HB2.out.trans (HB3.out.trans (HB4.out.trans HB5.out))
  have HC2_5 : Hid (Bl w2 w5) := HB3.out.trans (HB4.out.trans HB5.out)
  have HC3_5 : Hid (Bl w3 w5) := HB4.out.trans HB5.out
  refine (isame_any A1 (some ⟨w5.heap.size, 0, none⟩) 3 3 c1 3 [0, 1, 2] [0, 1, 2] _ (w5.alloc (.cells #[.int .i64 0, .int .i64 1, .int .i64 2] 3)).heap.size rfl rfl (by decide) (lrd_on HR1.out (HC1_5.out.alloc _)) (lrd_new w5 3 #[.int .i64 0, .int .i64 1, .int .i64 2] rfl rfl)).mono ?_
  rintro e w6 ⟨rfl, q6, hq6⟩
  rw [show decide (([0, 1, 2] : List Int) = [0, 1, 2]) = true from rfl]
  have HB6 : Hid (Bl w5 w6) := by rw [hq6]; exact ((Bl.refl _).alloc _).drewN _
  clear hq6
  have HC2_6 := Lib.hid (HC2_5.out.trans HB6.out)
  have HC3_6 := Lib.hid (HC3_5.out.trans HB6.out)
  go_wp2_with fail
  refine (isame_any A2 (some ⟨w6.heap.size, 0, none⟩) 3 3 c2 3 [0, 2, 1] [0, 2, 1] _ (w6.alloc (.cells #[.int .i64 0, .int .i64 2, .int .i64 1] 3)).heap.size rfl rfl (by decide) (lrd_on HR2.out (HC2_6.out.alloc _)) (lrd_new w6 3 #[.int .i64 0, .int .i64 2, .int .i64 1] rfl rfl)).mono ?_
  rintro e w7 ⟨rfl, q7, hq7⟩
  rw [show decide (([0, 2, 1] : List Int) = [0, 2, 1]) = true from rfl]
  have HB7 : Hid (Bl w6 w7) := by rw [hq7]; exact ((Bl.refl _).alloc _).drewN _
  clear hq7
  have HC3_7 := Lib.hid (HC3_6.out.trans HB7.out)
  go_wp2_with fail
  refine (isame_any A3 (some ⟨w7.heap.size, 0, none⟩) 3 3 c3 3 [0, 2, 3] [0, 2, 3] _ (w7.alloc (.cells #[.int .i64 0, .int .i64 2, .int .i64 3] 3)).heap.size rfl rfl (by decide) (lrd_on HR3.out (HC3_7.out.alloc _)) (lrd_new w7 3 #[.int .i64 0, .int .i64 2, .int .i64 3] rfl rfl)).mono ?_
  rintro e w8 ⟨rfl, q8, hq8⟩
  rw [show decide (([0, 2, 3] : List Int) = [0, 2, 3]) = true from rfl]
  have HB8 : Hid (Bl w7 w8) := by rw [hq8]; exact ((Bl.refl _).alloc _).drewN _
  clear hq8
  have HBw : Hid (Bl w w8) := HB0.out.trans (HB1.out.trans (HC1_5.out.trans (HB6.out.trans (HB7.out.trans HB8.out))))
  go_wp2_with fail
  go_ret
  exact ⟨rfl, HBw.out⟩
end Go.Proofs.Ytpblamiiggglaaa
/- LeadBy: by a word's rows the same is told. -/
namespace Go.Proofs.Ytpblamiiggglaaa
open Go.RowKit

theorem leadOf_len (g : Gr.Gm) (u : List Int) (K : Nat) : (leadOf g u K).1.length ≤ 2000 := by
  unfold leadOf
  split
  · split
    · exact Nat.zero_le _
    · rename_i h
      exact Nat.le_trans (Nat.le_of_eq (ns_len _)) (Ld.lead_len h)
  · exact Nat.zero_le _
set_option maxRecDepth 100000 in
set_option maxHeartbeats 8000000 in
theorem leadBy_any (t n s : Int) (A : Option Addr) (len c : Nat) (ps : List Gr.Pr) (Al : Option Addr) (ll cl : Nat) (xs : List Int) (W : World) (hlen : len = ps.length) (hmax : len ≤ 9223372036854775807) (hr : PrsC W W.heap.size A ps)
    (hll : ll = xs.length) (hrl : Rd W W.heap.size Al (ins xs)) (hcl : ll ≤ cl) (hml : ll ≤ 9223372036854775807) :
    Calls Try.prog 6 #[.agg #[.int .i64 t, .int .i64 n, .int .i64 s, .slice A len c], .slice Al ll cl] W fun e w' => e = .returned (.bool true) ∧ Bl W w' := by
  have HB0 : Hid (Bl W (W.alloc (.cells #[.int .i64 t, .int .i64 n, .int .i64 s, .slice A len c] 24))) := (Bl.refl W).alloc _
  have HK0 := Lib.hid (Bk.new W 24 #[.int .i64 t, .int .i64 n, .int .i64 s, .slice A len c])
  have HL := Lib.hid hlen
  have HLL := Lib.hid hll
  have HPc : Hid (∀ w', Bl W w' → PrsC w' w'.heap.size A ps) := fun _ hb => lprs_on hr hb
  have HXc : Hid (∀ w', Bl W w' → Rd w' w'.heap.size Al (ins xs)) := fun _ hb => lrd_on hrl hb
  clear hlen hll hr hrl
  go_enter Try.func6, Try.ntmps6
  go_wp2_with fail
  refine (awake17_any _).mono ?_
  rintro e w1 ⟨rfl, hb1⟩
  have HB1 := Lib.hid (HB0.out.trans hb1)
  have HK1 := Lib.hid (HK0.out.bl hb1)
  clear hb1 HB0 HK0
  have k0 : w1.cell? ⟨W.heap.size, 0, none⟩ = some (.int .i64 t) := HK1.out.cell 0
  have k1 : w1.cell? ⟨W.heap.size, 1, none⟩ = some (.int .i64 n) := HK1.out.cell 1
  have k2 : w1.cell? ⟨W.heap.size, 2, none⟩ = some (.int .i64 s) := HK1.out.cell 2
  have k3 : w1.cell? ⟨W.heap.size, 3, none⟩ = some (.slice A len c) := HK1.out.cell 3
  have kl := HK1.out.lt
  go_wp2_with fail
  refine (large17_any t n s A len c ps Al ll cl w1 w1.heap.size HL.out hmax hml (HPc.out w1 HB1.out).prs (Nat.le_refl _)).mono ?_
  rintro e w2 ⟨rfl, hb2⟩
  have HB2 := Lib.hid (HB1.out.trans hb2)
  have HK2 := Lib.hid (HK1.out.bl hb2)
  clear hb2 HB1 HK1 k0 k1 k2 k3 kl
  cases hl : lg17 ps ll with
  | true =>
    go_wp2_with fail
    go_ret
    exact ⟨rfl, HB2.out⟩
  | false =>
  clear hl
  have k0 : w2.cell? ⟨W.heap.size, 0, none⟩ = some (.int .i64 t) := HK2.out.cell 0
  have k1 : w2.cell? ⟨W.heap.size, 1, none⟩ = some (.int .i64 n) := HK2.out.cell 1
  have k2 : w2.cell? ⟨W.heap.size, 2, none⟩ = some (.int .i64 s) := HK2.out.cell 2
  have k3 : w2.cell? ⟨W.heap.size, 3, none⟩ = some (.slice A len c) := HK2.out.cell 3
  have kl := HK2.out.lt
  go_wp2_with fail
  refine (rfit_any t n s A len c ps Al ll cl xs w2 w2.heap.size HL.out hmax (HPc.out w2 HB2.out).prs HLL.out hml (HXc.out w2 HB2.out) (Nat.le_refl _)).mono ?_
  rintro e w3 ⟨rfl, hb3⟩
  have HB3 := Lib.hid (HB2.out.trans hb3)
  have HK3 := Lib.hid (HK2.out.bl hb3)
  clear hb3 HB2 HK2 k0 k1 k2 k3 kl
  cases hf : fitB ⟨t, n, s, ps⟩ xs with
  | false =>
    clear hf
    go_wp2_with fail
    go_ret
    exact ⟨rfl, HB3.out⟩
  | true =>
  have hl24 : ll ≤ 24 := by have h := (fit_good hf).2.2; have := HLL.out; omega
  have HF := Lib.hid hf
  clear hf
  have k0 : w3.cell? ⟨W.heap.size, 0, none⟩ = some (.int .i64 t) := HK3.out.cell 0
  have k1 : w3.cell? ⟨W.heap.size, 1, none⟩ = some (.int .i64 n) := HK3.out.cell 1
  have k2 : w3.cell? ⟨W.heap.size, 2, none⟩ = some (.int .i64 s) := HK3.out.cell 2
  have k3 : w3.cell? ⟨W.heap.size, 3, none⟩ = some (.slice A len c) := HK3.out.cell 3
  have kl := HK3.out.lt
  go_wp2_with fail
  refine (sprows_any t n s A len c ps Al ll cl xs w3 w3.heap.size HL.out hmax (HPc.out w3 HB3.out) HLL.out (by omega) hcl (HXc.out w3 HB3.out) (Nat.le_refl _)).mono ?_
  rintro e w4 ⟨hp4, -, hb4⟩
  obtain ⟨b, he, hbx, hn⟩ := hp4 HF.out
  rw [← HLL.out] at he
  subst he
  have HB4 := Lib.hid (HB3.out.trans hb4)
  have HK4 := Lib.hid (HK3.out.bl hb4)
  have HN4 := Lib.hid (hn.rd)
  rw [← HLL.out] at HN4

  clear hb4 hp4 hn hbx HB3 HK3 k0 k1 k2 k3 kl
  go_wp2_with fail
  go_loopw [6] (fun v wr => ∃ k : Nat, k ≤ 3 ∧ v = .int .i64 (k : Int) ∧ Hid (Bl w4 wr)) (fun v _ => 3 - (intOf v).toNat)
  case atStart => exact ⟨0, by omega, rfl, Bl.refl _⟩
  case round =>
    obtain ⟨k, hk, rfl, HBr⟩ := hrel
    have HBw := Lib.hid (HB4.out.trans HBr.out)
    have HKr := Lib.hid (HK4.out.bl HBr.out)
    have k0 : wr.cell? ⟨W.heap.size, 0, none⟩ = some (.int .i64 t) := HKr.out.cell 0
    have k1 : wr.cell? ⟨W.heap.size, 1, none⟩ = some (.int .i64 n) := HKr.out.cell 1
    have k2 : wr.cell? ⟨W.heap.size, 2, none⟩ = some (.int .i64 s) := HKr.out.cell 2
    have k3 : wr.cell? ⟨W.heap.size, 3, none⟩ = some (.slice A len c) := HKr.out.cell 3
    have kl := HKr.out.lt
    by_cases hlt : k < 3
    · have hle : (k : Int) ≤ 2 := by omega
      have HLd := Lib.hid (lead_any t n s A len c ps Al ll cl xs (k : Int) wr wr.heap.size HL.out hmax (HPc.out wr HBw.out) HLL.out (by omega) hcl (HXc.out wr HBw.out) (Nat.le_refl _))
      rw [leadsOf_yes (by omega) HF.out] at HLd
      have HBy : Hid (∀ wx, Bl wr wx → Calls Try.prog 19 #[.agg #[.int .i64 t, .int .i64 n, .int .i64 s, .slice A len c], .slice Al ll cl, .int .i64 (k : Int), .slice (some ⟨b, 0, none⟩) (ll + 1) (ll + 1)] wx (LPost (leadOf ⟨t, n, s, ps⟩ xs k) wx)) := fun wx hb =>
        lby_any t n s A len c ps Al ll cl xs k (some ⟨b, 0, none⟩) (ll + 1) wx wx.heap.size HL.out hmax (HPc.out wx (HBw.out.trans hb)).prs HLL.out (HXc.out wx (HBw.out.trans hb)) (Nat.le_refl _) HF.out (lrd_on HN4.out (HBr.out.trans hb)) (by omega)

      have hln := leadOf_len ⟨t, n, s, ps⟩ xs k
      generalize leadOf ⟨t, n, s, ps⟩ xs k = x at *
      obtain ⟨l, en⟩ := x
      have HLn : Hid (l.length ≤ 2000) := hln
      clear hln
      go_wp2_with fail
      refine HLd.out.mono ?_
      rintro e w5 ⟨A5, c5, rfl, hc5, hr5, hb5⟩
      have HR5 := Lib.hid hr5
      have HB5 := Lib.hid hb5
      have HK5 := Lib.hid (HKr.out.bl hb5)
      clear hr5 hb5 k0 k1 k2 k3 kl HLd
      have k0 : w5.cell? ⟨W.heap.size, 0, none⟩ = some (.int .i64 t) := HK5.out.cell 0
      have k1 : w5.cell? ⟨W.heap.size, 1, none⟩ = some (.int .i64 n) := HK5.out.cell 1
      have k2 : w5.cell? ⟨W.heap.size, 2, none⟩ = some (.int .i64 s) := HK5.out.cell 2
      have k3 : w5.cell? ⟨W.heap.size, 3, none⟩ = some (.slice A len c) := HK5.out.cell 3
      have kl := HK5.out.lt
      go_wp2_with fail
      refine (HBy.out _ HB5.out).mono ?_
      rintro e w6 ⟨A6, c6, rfl, hc6, hr6, hb6⟩
      have HR6 := Lib.hid hr6
      have HR5 := Lib.hid (lrd_on HR5.out hb6)
      have HB6 := Lib.hid (HB5.out.trans hb6)
      clear hr6 hb6 k0 k1 k2 k3 kl HBy HB5 HK5
      go_wp2_with fail
      have HSm := Lib.hid (isame_any A5 A6 l.length l.length c5 c6 l l w6 w6.heap.size rfl rfl (by have := HLn.out; omega) HR5.out HR6.out)
      rw [show decide (l = l) = true from decide_eq_true rfl] at HSm
      refine HSm.out.mono ?_
      rintro e w7 ⟨rfl, q, hq⟩
      have HB7 : Hid (Bl w4 w7) := by rw [hq]; exact (HBr.out.trans HB6.out).drewN _
      clear hq
      go_wp2_with fail
      go_roundw
      case rel => exact ⟨k + 1, by omega, by go_num, HB7.out⟩
      case measure => simp [intOf]; omega
    · go_wp2_with fail
      go_ret
      exact ⟨rfl, HBw.out⟩
end Go.Proofs.Ytpblamiiggglaaa
