/- The lead laws' Large and awake. -/
import Derived.Test.YtpblamiiggglaaaLdC
import Derived.Test.YtpblamiiggglaaaKLarge
import Derived.Test.YtpblamiiggglaaaISame
import Derived.Test.YtpblamiiggglaaaPlainT
import Derived.Test.YtpblamiiggglaaaPlainS
import Derived.Test.YtpblamiiggglaaaSpansS
import Derived.Test.YtpblamiiggglaaaSpWild
import Derived.Test.YtpblamiiggglaaaTRep
import Derived.Test.YtpblamiiggglaaaFoApp
import Derived.BigFrame
namespace Go.Proofs.Ytpblamiiggglaaa
open Go.RowKit

/-- Is it more than is looked at? -/
def lg17 (ps : List Gr.Pr) (lw : Nat) : Bool := lgB ps || decide (20 < ps.length) || (decide (8 < lw) && decide (lw ≤ 24)) || decide (40 < lw)

set_option maxRecDepth 100000 in
set_option maxHeartbeats 3200000 in
theorem large17_any (t n s : Int) (A : Option Addr) (len c : Nat) (ps : List Gr.Pr) (Aw : Option Addr) (lw cw : Nat) (w : World) (B : Nat) (hlen : len = ps.length) (hmax : len ≤ 9223372036854775807) (hmw : lw ≤ 9223372036854775807) (hr : Prs w B A ps) (hB : B ≤ w.heap.size) :
    Calls Try.prog 8 #[.agg #[.int .i64 t, .int .i64 n, .int .i64 s, .slice A len c], .slice Aw lw cw] w fun e w' => e = .returned (.bool (lg17 ps lw)) ∧ Bl w w' := by
  have HB0 : Hid (Bl w (w.alloc (.cells #[.int .i64 t, .int .i64 n, .int .i64 s, .slice A len c] 24))) := (Bl.refl w).alloc _
  have HK0 := Lib.hid (Bk.new w 24 #[.int .i64 t, .int .i64 n, .int .i64 s, .slice A len c])
  have HLa := Lib.hid (large9_any t n s A len c ps (w.alloc (.cells #[.int .i64 t, .int .i64 n, .int .i64 s, .slice A len c] 24)) B hlen hmax (hr.bl hB HB0.out) (Nat.le_trans hB HB0.out.size))
  have HG : Hid (lg17 ps lw = (lgB ps || decide (20 < len) || (decide (8 < lw) && decide (lw ≤ 24)) || decide (40 < lw))) := by rw [hlen]; rfl
  clear hr hlen
  cases hl : lgB ps with
  | true =>
    rw [hl] at HLa HG
    clear hl
    have HGt : Hid (lg17 ps lw = true) := by unfold Hid; rw [HG.out]; simp
    go_enter Try.func8, Try.ntmps8
    go_wp2_with fail
    refine HLa.out.mono ?_
    rintro e w1 ⟨rfl, hb1⟩
    have HB1 := Lib.hid (HB0.out.trans hb1)
    clear hb1
    go_wp2_with fail
    go_ret
    exact ⟨by rw [HGt.out]; rfl, HB1.out⟩
  | false =>
    rw [hl] at HLa HG
    clear hl
    have key : (20 < len) ∨ (¬ 20 < len ∧ 8 < lw ∧ lw ≤ 24) ∨ (¬ 20 < len ∧ 8 < lw ∧ ¬ lw ≤ 24 ∧ 40 < lw) ∨ (¬ 20 < len ∧ 8 < lw ∧ ¬ lw ≤ 24 ∧ ¬ 40 < lw) ∨ (¬ 20 < len ∧ ¬ 8 < lw ∧ ¬ 40 < lw) := by omega
    go_enter Try.func8, Try.ntmps8
    go_wp2_with fail
    refine HLa.out.mono ?_
    rintro e w1 ⟨rfl, hb1⟩
    have HB1 := Lib.hid (HB0.out.trans hb1)
    have HK1 := Lib.hid (HK0.out.bl hb1)
    have k3 : w1.cell? ⟨w.heap.size, 3, none⟩ = some (.slice A len c) := HK1.out.cell 3
    have kl := HK1.out.lt
    clear hb1
    rcases key with k1 | ⟨k1, k2, k3'⟩ | ⟨k1, k2, k3', k4⟩ | ⟨k1, k2, k3', k4⟩ | ⟨k1, k2, k4⟩
    · have HGt : Hid (lg17 ps lw = true) := by unfold Hid; rw [HG.out, decide_eq_true k1]; simp
      have d1 : decide ((20 : Int) < (len : Int)) = true := decide_eq_true (by omega)
      clear k1
      go_wp2_with fail
      go_ret
      exact ⟨by rw [HGt.out]; rfl, HB1.out⟩
    · have HGt : Hid (lg17 ps lw = true) := by unfold Hid; rw [HG.out, decide_eq_true k2, decide_eq_true k3']; simp
      have d1 : decide ((20 : Int) < (len : Int)) = false := decide_eq_false (by omega)
      have d2 : decide ((8 : Int) < (lw : Int)) = true := decide_eq_true (by omega)
      have d3 : decide ((lw : Int) ≤ (24 : Int)) = true := decide_eq_true (by omega)
      clear k1 k2 k3'
      go_wp2_with fail
      go_ret
      exact ⟨by rw [HGt.out]; rfl, HB1.out⟩
    · have HGt : Hid (lg17 ps lw = true) := by unfold Hid; rw [HG.out, decide_eq_true k4]; simp
      have d1 : decide ((20 : Int) < (len : Int)) = false := decide_eq_false (by omega)
      have d2 : decide ((8 : Int) < (lw : Int)) = true := decide_eq_true (by omega)
      have d3 : decide ((lw : Int) ≤ (24 : Int)) = false := decide_eq_false (by omega)
      have d4 : decide ((40 : Int) < (lw : Int)) = true := decide_eq_true (by omega)
      clear k1 k2 k3' k4
      go_wp2_with fail
      go_ret
      exact ⟨by rw [HGt.out]; rfl, HB1.out⟩
    · have HGt : Hid (lg17 ps lw = false) := by unfold Hid; rw [HG.out, decide_eq_false k1, decide_eq_false k3', decide_eq_false k4]; simp
      have d1 : decide ((20 : Int) < (len : Int)) = false := decide_eq_false (by omega)
      have d2 : decide ((8 : Int) < (lw : Int)) = true := decide_eq_true (by omega)
      have d3 : decide ((lw : Int) ≤ (24 : Int)) = false := decide_eq_false (by omega)
      have d4 : decide ((40 : Int) < (lw : Int)) = false := decide_eq_false (by omega)
      clear k1 k2 k3' k4
      go_wp2_with fail
      go_ret
      exact ⟨by rw [HGt.out]; rfl, HB1.out⟩
    · have HGt : Hid (lg17 ps lw = false) := by unfold Hid; rw [HG.out, decide_eq_false k1, decide_eq_false k2, decide_eq_false k4]; simp
      have d1 : decide ((20 : Int) < (len : Int)) = false := decide_eq_false (by omega)
      have d2 : decide ((8 : Int) < (lw : Int)) = false := decide_eq_false (by omega)
      have d4 : decide ((40 : Int) < (lw : Int)) = false := decide_eq_false (by omega)
      clear k1 k2 k4
      go_wp2_with fail
      go_ret
      exact ⟨by rw [HGt.out]; rfl, HB1.out⟩

theorem lrd_new (w : World) (t : TypeId) (cs : Array Value) {xs : List Value} (h : cs.toList = xs) {g : Nat} (hg : g = w.heap.size) : Rd (w.alloc (.cells cs t)) (w.alloc (.cells cs t)).heap.size (some ⟨g, 0, none⟩) xs := by
  subst h hg
  exact (rd_newB w t cs).more (by simp)
theorem lrd_on {w w' : World} {A : Option Addr} {xs : List Value} (h : Rd w w.heap.size A xs) (hb : Bl w w') : Rd w' w'.heap.size A xs := (h.bl (Nat.le_refl _) hb).more hb.size
theorem lprs_on {w w' : World} {A : Option Addr} {ps : List Gr.Pr} (h : PrsC w w.heap.size A ps) (hb : Bl w w') : PrsC w' w'.heap.size A ps := (h.bl (Nat.le_refl _) hb).more hb.size
theorem prs17 (w : World) : PrsC ((((((w.alloc (.cells #[.bool true, .int .i64 1] 41)).alloc (.cells #[.bool true, .int .i64 1, .bool true, .int .i64 1] 41)).alloc (.cells #[.bool false, .int .i64 0] 41)).alloc (.cells #[.bool false, .int .i64 1] 41)).alloc (.cells #[.int .i64 0, .slice (some ⟨w.heap.size + 1, 0, none⟩) 2 2, .int .i64 1, .slice (some ⟨w.heap.size + 1 + 1, 0, none⟩) 1 1, .int .i64 1, .slice none 0 0, .int .i64 1, .slice (some ⟨w.heap.size + 1 + 1 + 1, 0, none⟩) 1 1] 44)).alloc (.cells #[.int .i64 2, .int .i64 2, .int .i64 0, .slice (some ⟨w.heap.size + 1 + 1 + 1 + 1, 0, none⟩) 4 4] 24)) ((((((w.alloc (.cells #[.bool true, .int .i64 1] 41)).alloc (.cells #[.bool true, .int .i64 1, .bool true, .int .i64 1] 41)).alloc (.cells #[.bool false, .int .i64 0] 41)).alloc (.cells #[.bool false, .int .i64 1] 41)).alloc (.cells #[.int .i64 0, .slice (some ⟨w.heap.size + 1, 0, none⟩) 2 2, .int .i64 1, .slice (some ⟨w.heap.size + 1 + 1, 0, none⟩) 1 1, .int .i64 1, .slice none 0 0, .int .i64 1, .slice (some ⟨w.heap.size + 1 + 1 + 1, 0, none⟩) 1 1] 44)).alloc (.cells #[.int .i64 2, .int .i64 2, .int .i64 0, .slice (some ⟨w.heap.size + 1 + 1 + 1 + 1, 0, none⟩) 4 4] 24)).heap.size (some ⟨w.heap.size + 1 + 1 + 1 + 1, 0, none⟩) ps17 := by
  refine ⟨[⟨0, [⟨true, 1⟩, ⟨true, 1⟩], some ⟨w.heap.size + 1, 0, none⟩, 2⟩, ⟨1, [⟨false, 0⟩], some ⟨w.heap.size + 1 + 1, 0, none⟩, 1⟩, ⟨1, [], none, 0⟩, ⟨1, [⟨false, 1⟩], some ⟨w.heap.size + 1 + 1 + 1, 0, none⟩, 1⟩], rfl, lrd_on (lrd_new _ _ #[.int .i64 0, .slice (some ⟨w.heap.size + 1, 0, none⟩) 2 2, .int .i64 1, .slice (some ⟨w.heap.size + 1 + 1, 0, none⟩) 1 1, .int .i64 1, .slice none 0 0, .int .i64 1, .slice (some ⟨w.heap.size + 1 + 1 + 1, 0, none⟩) 1 1] rfl (by simp)) ((Bl.refl _).alloc _), ?_⟩
  intro h hh
  simp only [List.mem_cons, List.not_mem_nil, or_false] at hh
  rcases hh with rfl | rfl | rfl | rfl
  · exact ⟨lrd_on (lrd_new _ _ #[.bool true, .int .i64 1, .bool true, .int .i64 1] rfl (by simp)) (((((Bl.refl _).alloc _).alloc _).alloc _).alloc _), (show (2 : Nat) ≤ 2 from Nat.le_refl _), (show (2 : Nat) ≤ maxLen by simp only [maxLen]; omega)⟩
  · exact ⟨lrd_on (lrd_new _ _ #[.bool false, .int .i64 0] rfl (by simp)) ((((Bl.refl _).alloc _).alloc _).alloc _), (show (1 : Nat) ≤ 1 from Nat.le_refl _), (show (1 : Nat) ≤ maxLen by simp only [maxLen]; omega)⟩
  · exact ⟨Rd.nil, Nat.le_refl _, Nat.zero_le _⟩
  · exact ⟨lrd_on (lrd_new _ _ #[.bool false, .int .i64 1] rfl (by simp)) (((Bl.refl _).alloc _).alloc _), (show (1 : Nat) ≤ 1 from Nat.le_refl _), (show (1 : Nat) ≤ maxLen by simp only [maxLen]; omega)⟩

set_option maxRecDepth 100000 in
set_option maxHeartbeats 4000000 in
theorem awake17_any (w : World) : Calls Try.prog 7 #[] w fun e w' => e = .returned (.bool true) ∧ Bl w w' := by
  have HP0 := Lib.hid (prs17 w)
  have HB0 : Hid (Bl w ((((((w.alloc (.cells #[.bool true, .int .i64 1] 41)).alloc (.cells #[.bool true, .int .i64 1, .bool true, .int .i64 1] 41)).alloc (.cells #[.bool false, .int .i64 0] 41)).alloc (.cells #[.bool false, .int .i64 1] 41)).alloc (.cells #[.int .i64 0, .slice (some ⟨w.heap.size + 1, 0, none⟩) 2 2, .int .i64 1, .slice (some ⟨w.heap.size + 1 + 1, 0, none⟩) 1 1, .int .i64 1, .slice none 0 0, .int .i64 1, .slice (some ⟨w.heap.size + 1 + 1 + 1, 0, none⟩) 1 1] 44)).alloc (.cells #[.int .i64 2, .int .i64 2, .int .i64 0, .slice (some ⟨w.heap.size + 1 + 1 + 1 + 1, 0, none⟩) 4 4] 24))) := ((((((Bl.refl w).alloc _).alloc _).alloc _).alloc _).alloc _).alloc _
  have HG0 : Hid (Bk ((((((w.alloc (.cells #[.bool true, .int .i64 1] 41)).alloc (.cells #[.bool true, .int .i64 1, .bool true, .int .i64 1] 41)).alloc (.cells #[.bool false, .int .i64 0] 41)).alloc (.cells #[.bool false, .int .i64 1] 41)).alloc (.cells #[.int .i64 0, .slice (some ⟨w.heap.size + 1, 0, none⟩) 2 2, .int .i64 1, .slice (some ⟨w.heap.size + 1 + 1, 0, none⟩) 1 1, .int .i64 1, .slice none 0 0, .int .i64 1, .slice (some ⟨w.heap.size + 1 + 1 + 1, 0, none⟩) 1 1] 44)).alloc (.cells #[.int .i64 2, .int .i64 2, .int .i64 0, .slice (some ⟨w.heap.size + 1 + 1 + 1 + 1, 0, none⟩) 4 4] 24)) (w.heap.size + 1 + 1 + 1 + 1 + 1) 24 #[.int .i64 2, .int .i64 2, .int .i64 0, .slice (some ⟨w.heap.size + 1 + 1 + 1 + 1, 0, none⟩) 4 4]) := by
    have h := Bk.new (((((w.alloc (.cells #[.bool true, .int .i64 1] 41)).alloc (.cells #[.bool true, .int .i64 1, .bool true, .int .i64 1] 41)).alloc (.cells #[.bool false, .int .i64 0] 41)).alloc (.cells #[.bool false, .int .i64 1] 41)).alloc (.cells #[.int .i64 0, .slice (some ⟨w.heap.size + 1, 0, none⟩) 2 2, .int .i64 1, .slice (some ⟨w.heap.size + 1 + 1, 0, none⟩) 1 1, .int .i64 1, .slice none 0 0, .int .i64 1, .slice (some ⟨w.heap.size + 1 + 1 + 1, 0, none⟩) 1 1] 44)) 24 #[.int .i64 2, .int .i64 2, .int .i64 0, .slice (some ⟨w.heap.size + 1 + 1 + 1 + 1, 0, none⟩) 4 4]
    rw [show (((((w.alloc (.cells #[.bool true, .int .i64 1] 41)).alloc (.cells #[.bool true, .int .i64 1, .bool true, .int .i64 1] 41)).alloc (.cells #[.bool false, .int .i64 0] 41)).alloc (.cells #[.bool false, .int .i64 1] 41)).alloc (.cells #[.int .i64 0, .slice (some ⟨w.heap.size + 1, 0, none⟩) 2 2, .int .i64 1, .slice (some ⟨w.heap.size + 1 + 1, 0, none⟩) 1 1, .int .i64 1, .slice none 0 0, .int .i64 1, .slice (some ⟨w.heap.size + 1 + 1 + 1, 0, none⟩) 1 1] 44)).heap.size = w.heap.size + 1 + 1 + 1 + 1 + 1 by simp] at h
    exact h
  go_enter Try.func7, Try.ntmps7
  go_upto_region 3 with fail
  generalize ((((((w.alloc (.cells #[.bool true, .int .i64 1] 41)).alloc (.cells #[.bool true, .int .i64 1, .bool true, .int .i64 1] 41)).alloc (.cells #[.bool false, .int .i64 0] 41)).alloc (.cells #[.bool false, .int .i64 1] 41)).alloc (.cells #[.int .i64 0, .slice (some ⟨w.heap.size + 1, 0, none⟩) 2 2, .int .i64 1, .slice (some ⟨w.heap.size + 1 + 1, 0, none⟩) 1 1, .int .i64 1, .slice none 0 0, .int .i64 1, .slice (some ⟨w.heap.size + 1 + 1 + 1, 0, none⟩) 1 1] 44)).alloc (.cells #[.int .i64 2, .int .i64 2, .int .i64 0, .slice (some ⟨w.heap.size + 1 + 1 + 1 + 1, 0, none⟩) 4 4] 24)) = w0 at *
  generalize w.heap.size + 1 + 1 + 1 + 1 + 1 = gv at *
  generalize w.heap.size + 1 + 1 + 1 + 1 = gp at *
  have g0 := HG0.out.cell 0
  have g1 := HG0.out.cell 1
  have g2 := HG0.out.cell 2
  have g3 := HG0.out.cell 3
  have gl := HG0.out.lt
  go_wp2_with fail
  refine (lead_any 2 2 0 (some ⟨gp, 0, none⟩) 4 4 ps17 (some ⟨w0.heap.size, 0, none⟩) 1 1 [0] 0 _ _ rfl (by decide) (lprs_on HP0.out ((Bl.refl _).alloc _)) rfl (by decide) (Nat.le_refl _) (lrd_new w0 3 #[.int .i64 0] rfl rfl) (Nat.le_refl _)).mono ?_
  rw [show leadsOf ⟨2, 2, 0, ps17⟩ [0] 0 = _ from ans17a]
  rintro e w1 ⟨A1, c1, rfl, hc1, hr1, hb1⟩
  have HR1 := Lib.hid hr1
  have HB1 : Hid (Bl w0 w1) := ((Bl.refl w0).alloc _).trans hb1
  clear hr1 hb1 hc1 g0 g1 g2 g3 gl
  have HG1 := Lib.hid (HG0.out.bl HB1.out)
  have HP1 := Lib.hid (lprs_on HP0.out HB1.out)
  have g0 := HG1.out.cell 0
  have g1 := HG1.out.cell 1
  have g2 := HG1.out.cell 2
  have g3 := HG1.out.cell 3
  have gl := HG1.out.lt
  go_wp2_with fail
  refine (lead_any 2 2 0 (some ⟨gp, 0, none⟩) 4 4 ps17 (some ⟨w1.heap.size, 0, none⟩) 1 1 [0] 1 _ _ rfl (by decide) (lprs_on HP1.out ((Bl.refl _).alloc _)) rfl (by decide) (Nat.le_refl _) (lrd_new w1 3 #[.int .i64 0] rfl rfl) (Nat.le_refl _)).mono ?_
  rw [show leadsOf ⟨2, 2, 0, ps17⟩ [0] 1 = _ from ans17b]
  rintro e w2 ⟨A2, c2, rfl, hc2, hr2, hb2⟩
  have HR2 := Lib.hid hr2
  have HB2 : Hid (Bl w1 w2) := ((Bl.refl w1).alloc _).trans hb2
  clear hr2 hb2 hc2 g0 g1 g2 g3 gl
  have HG2 := Lib.hid (HG1.out.bl HB2.out)
  have HP2 := Lib.hid (lprs_on HP1.out HB2.out)
  have g0 := HG2.out.cell 0
  have g1 := HG2.out.cell 1
  have g2 := HG2.out.cell 2
  have g3 := HG2.out.cell 3
  have gl := HG2.out.lt
  go_wp2_with fail
  refine (lead_any 2 2 0 (some ⟨gp, 0, none⟩) 4 4 ps17 (some ⟨w2.heap.size, 0, none⟩) 1 1 [1] 2 _ _ rfl (by decide) (lprs_on HP2.out ((Bl.refl _).alloc _)) rfl (by decide) (Nat.le_refl _) (lrd_new w2 3 #[.int .i64 1] rfl rfl) (Nat.le_refl _)).mono ?_
  rw [show leadsOf ⟨2, 2, 0, ps17⟩ [1] 2 = _ from ans17c]
  rintro e w3 ⟨A3, c3, rfl, hc3, hr3, hb3⟩
  have HR3 := Lib.hid hr3
  have HB3 : Hid (Bl w2 w3) := ((Bl.refl w2).alloc _).trans hb3
  clear hr3 hb3 hc3 g0 g1 g2 g3 gl
  have HG3 := Lib.hid (HG2.out.bl HB3.out)
  have HP3 := Lib.hid (lprs_on HP2.out HB3.out)
  have g0 := HG3.out.cell 0
  have g1 := HG3.out.cell 1
  have g2 := HG3.out.cell 2
  have g3 := HG3.out.cell 3
  have gl := HG3.out.lt
  go_wp2_with fail
  refine (lead_any 2 2 0 (some ⟨gp, 0, none⟩) 4 4 ps17 (some ⟨w3.heap.size, 0, none⟩) 3 3 [0, 0, 0] 0 _ _ rfl (by decide) (lprs_on HP3.out ((Bl.refl _).alloc _)) rfl (by decide) (Nat.le_refl _) (lrd_new w3 3 #[.int .i64 0, .int .i64 0, .int .i64 0] rfl rfl) (Nat.le_refl _)).mono ?_
  rw [show leadsOf ⟨2, 2, 0, ps17⟩ [0, 0, 0] 0 = _ from ans17d]
  rintro e w4 ⟨A4, c4, rfl, hc4, hr4, hb4⟩
  have HR4 := Lib.hid hr4
  have HB4 : Hid (Bl w3 w4) := ((Bl.refl w3).alloc _).trans hb4
  clear hr4 hb4 hc4 g0 g1 g2 g3 gl
  have HG4 := Lib.hid (HG3.out.bl HB4.out)
  have HP4 := Lib.hid (lprs_on HP3.out HB4.out)
  have g0 := HG4.out.cell 0
  have g1 := HG4.out.cell 1
  have g2 := HG4.out.cell 2
  have g3 := HG4.out.cell 3
  have gl := HG4.out.lt
  go_wp2_with fail
  refine (lead_any 2 2 0 (some ⟨gp, 0, none⟩) 4 4 ps17 (some ⟨w4.heap.size, 0, none⟩) 1 1 [0] 3 _ _ rfl (by decide) (lprs_on HP4.out ((Bl.refl _).alloc _)) rfl (by decide) (Nat.le_refl _) (lrd_new w4 3 #[.int .i64 0] rfl rfl) (Nat.le_refl _)).mono ?_
  rw [show leadsOf ⟨2, 2, 0, ps17⟩ [0] 3 = _ from ans17e]
  rintro e w5 ⟨A5, c5, rfl, hc5, hr5, hb5⟩
  have HR5 := Lib.hid hr5
  have HB5 : Hid (Bl w4 w5) := ((Bl.refl w4).alloc _).trans hb5
  clear hr5 hb5 hc5 g0 g1 g2 g3 gl
  have HG5 := Lib.hid (HG4.out.bl HB5.out)
  have HP5 := Lib.hid (lprs_on HP4.out HB5.out)
  have g0 := HG5.out.cell 0
  have g1 := HG5.out.cell 1
  have g2 := HG5.out.cell 2
  have g3 := HG5.out.cell 3
  have gl := HG5.out.lt
  go_wp2_with fail
  have HC1_5 : Hid (Bl w1 w5) := HB2.out.trans (HB3.out.trans (HB4.out.trans HB5.out))
  have HC2_5 : Hid (Bl w2 w5) := HB3.out.trans (HB4.out.trans HB5.out)
  have HC3_5 : Hid (Bl w3 w5) := HB4.out.trans HB5.out
  refine (isame_any A1 (some ⟨w5.heap.size, 0, none⟩) 3 3 c1 3 [0, 1, 2] [0, 1, 2] _ (w5.alloc (.cells #[.int .i64 0, .int .i64 1, .int .i64 2] 3)).heap.size rfl rfl (by decide) (lrd_on HR1.out (HC1_5.out.alloc _)) (lrd_new w5 3 #[.int .i64 0, .int .i64 1, .int .i64 2] rfl rfl)).mono ?_
  rintro e w6 ⟨rfl, q6, hq6⟩
  rw [show decide (([0, 1, 2] : List Int) = [0, 1, 2]) = true from rfl]
  have HB6 : Hid (Bl w5 w6) := by rw [hq6]; exact ((Bl.refl _).alloc _).drewN _
  clear hq6
  have HC2_6 := Lib.hid (HC2_5.out.trans HB6.out)
  have HC3_6 := Lib.hid (HC3_5.out.trans HB6.out)
  go_wp2_with fail
  refine (isame_any A2 (some ⟨w6.heap.size, 0, none⟩) 3 3 c2 3 [0, 2, 1] [0, 2, 1] _ (w6.alloc (.cells #[.int .i64 0, .int .i64 2, .int .i64 1] 3)).heap.size rfl rfl (by decide) (lrd_on HR2.out (HC2_6.out.alloc _)) (lrd_new w6 3 #[.int .i64 0, .int .i64 2, .int .i64 1] rfl rfl)).mono ?_
  rintro e w7 ⟨rfl, q7, hq7⟩
  rw [show decide (([0, 2, 1] : List Int) = [0, 2, 1]) = true from rfl]
  have HB7 : Hid (Bl w6 w7) := by rw [hq7]; exact ((Bl.refl _).alloc _).drewN _
  clear hq7
  have HC3_7 := Lib.hid (HC3_6.out.trans HB7.out)
  go_wp2_with fail
  refine (isame_any A3 (some ⟨w7.heap.size, 0, none⟩) 3 3 c3 3 [0, 2, 3] [0, 2, 3] _ (w7.alloc (.cells #[.int .i64 0, .int .i64 2, .int .i64 3] 3)).heap.size rfl rfl (by decide) (lrd_on HR3.out (HC3_7.out.alloc _)) (lrd_new w7 3 #[.int .i64 0, .int .i64 2, .int .i64 3] rfl rfl)).mono ?_
  rintro e w8 ⟨rfl, q8, hq8⟩
  rw [show decide (([0, 2, 3] : List Int) = [0, 2, 3]) = true from rfl]
  have HB8 : Hid (Bl w7 w8) := by rw [hq8]; exact ((Bl.refl _).alloc _).drewN _
  clear hq8
  have HBw : Hid (Bl w w8) := HB0.out.trans (HB1.out.trans (HC1_5.out.trans (HB6.out.trans (HB7.out.trans HB8.out))))
  go_wp2_with fail
  go_ret
  exact ⟨rfl, HBw.out⟩
end Go.Proofs.Ytpblamiiggglaaa
/- LeadBy: by a word's rows the same is told. -/
namespace Go.Proofs.Ytpblamiiggglaaa
open Go.RowKit

theorem leadOf_len (g : Gr.Gm) (u : List Int) (K : Nat) : (leadOf g u K).1.length ≤ 2000 := by
  unfold leadOf
  split
  · split
    · exact Nat.zero_le _
    · rename_i h
      exact Nat.le_trans (Nat.le_of_eq (ns_len _)) (Ld.lead_len h)
  · exact Nat.zero_le _
set_option maxRecDepth 100000 in
set_option maxHeartbeats 8000000 in
theorem leadBy_any (t n s : Int) (A : Option Addr) (len c : Nat) (ps : List Gr.Pr) (Al : Option Addr) (ll cl : Nat) (xs : List Int) (W : World) (hlen : len = ps.length) (hmax : len ≤ 9223372036854775807) (hr : PrsC W W.heap.size A ps)
    (hll : ll = xs.length) (hrl : Rd W W.heap.size Al (ins xs)) (hcl : ll ≤ cl) (hml : ll ≤ 9223372036854775807) :
    Calls Try.prog 6 #[.agg #[.int .i64 t, .int .i64 n, .int .i64 s, .slice A len c], .slice Al ll cl] W fun e w' => e = .returned (.bool true) ∧ Bl W w' := by
  have HB0 : Hid (Bl W (W.alloc (.cells #[.int .i64 t, .int .i64 n, .int .i64 s, .slice A len c] 24))) := (Bl.refl W).alloc _
  have HK0 := Lib.hid (Bk.new W 24 #[.int .i64 t, .int .i64 n, .int .i64 s, .slice A len c])
  have HL := Lib.hid hlen
  have HLL := Lib.hid hll
  have HPc : Hid (∀ w', Bl W w' → PrsC w' w'.heap.size A ps) := fun _ hb => lprs_on hr hb
  have HXc : Hid (∀ w', Bl W w' → Rd w' w'.heap.size Al (ins xs)) := fun _ hb => lrd_on hrl hb
  clear hlen hll hr hrl
  go_enter Try.func6, Try.ntmps6
  go_wp2_with fail
  refine (awake17_any _).mono ?_
  rintro e w1 ⟨rfl, hb1⟩
  have HB1 := Lib.hid (HB0.out.trans hb1)
  have HK1 := Lib.hid (HK0.out.bl hb1)
  clear hb1 HB0 HK0
  have k0 : w1.cell? ⟨W.heap.size, 0, none⟩ = some (.int .i64 t) := HK1.out.cell 0
  have k1 : w1.cell? ⟨W.heap.size, 1, none⟩ = some (.int .i64 n) := HK1.out.cell 1
  have k2 : w1.cell? ⟨W.heap.size, 2, none⟩ = some (.int .i64 s) := HK1.out.cell 2
  have k3 : w1.cell? ⟨W.heap.size, 3, none⟩ = some (.slice A len c) := HK1.out.cell 3
  have kl := HK1.out.lt
  go_wp2_with fail
  refine (large17_any t n s A len c ps Al ll cl w1 w1.heap.size HL.out hmax hml (HPc.out w1 HB1.out).prs (Nat.le_refl _)).mono ?_
  rintro e w2 ⟨rfl, hb2⟩
  have HB2 := Lib.hid (HB1.out.trans hb2)
  have HK2 := Lib.hid (HK1.out.bl hb2)
  clear hb2 HB1 HK1 k0 k1 k2 k3 kl
  cases hl : lg17 ps ll with
  | true =>
    go_wp2_with fail
    go_ret
    exact ⟨rfl, HB2.out⟩
  | false =>
  clear hl
  have k0 : w2.cell? ⟨W.heap.size, 0, none⟩ = some (.int .i64 t) := HK2.out.cell 0
  have k1 : w2.cell? ⟨W.heap.size, 1, none⟩ = some (.int .i64 n) := HK2.out.cell 1
  have k2 : w2.cell? ⟨W.heap.size, 2, none⟩ = some (.int .i64 s) := HK2.out.cell 2
  have k3 : w2.cell? ⟨W.heap.size, 3, none⟩ = some (.slice A len c) := HK2.out.cell 3
  have kl := HK2.out.lt
  go_wp2_with fail
  refine (rfit_any t n s A len c ps Al ll cl xs w2 w2.heap.size HL.out hmax (HPc.out w2 HB2.out).prs HLL.out hml (HXc.out w2 HB2.out) (Nat.le_refl _)).mono ?_
  rintro e w3 ⟨rfl, hb3⟩
  have HB3 := Lib.hid (HB2.out.trans hb3)
  have HK3 := Lib.hid (HK2.out.bl hb3)
  clear hb3 HB2 HK2 k0 k1 k2 k3 kl
  cases hf : fitB ⟨t, n, s, ps⟩ xs with
  | false =>
    clear hf
    go_wp2_with fail
    go_ret
    exact ⟨rfl, HB3.out⟩
  | true =>
  have hl24 : ll ≤ 24 := by have h := (fit_good hf).2.2; have := HLL.out; omega
  have HF := Lib.hid hf
  clear hf
  have k0 : w3.cell? ⟨W.heap.size, 0, none⟩ = some (.int .i64 t) := HK3.out.cell 0
  have k1 : w3.cell? ⟨W.heap.size, 1, none⟩ = some (.int .i64 n) := HK3.out.cell 1
  have k2 : w3.cell? ⟨W.heap.size, 2, none⟩ = some (.int .i64 s) := HK3.out.cell 2
  have k3 : w3.cell? ⟨W.heap.size, 3, none⟩ = some (.slice A len c) := HK3.out.cell 3
  have kl := HK3.out.lt
  go_wp2_with fail
  refine (sprows_any t n s A len c ps Al ll cl xs w3 w3.heap.size HL.out hmax (HPc.out w3 HB3.out) HLL.out (by omega) hcl (HXc.out w3 HB3.out) (Nat.le_refl _)).mono ?_
  rintro e w4 ⟨hp4, -, hb4⟩
  obtain ⟨b, he, hbx, hn⟩ := hp4 HF.out
  rw [← HLL.out] at he
  subst he
  have HB4 := Lib.hid (HB3.out.trans hb4)
  have HK4 := Lib.hid (HK3.out.bl hb4)
  have HN4 := Lib.hid (hn.rd)
  rw [← HLL.out] at HN4

  clear hb4 hp4 hn hbx HB3 HK3 k0 k1 k2 k3 kl
  go_wp2_with fail
  go_loopw [6] (fun v wr => ∃ k : Nat, k ≤ 3 ∧ v = .int .i64 (k : Int) ∧ Hid (Bl w4 wr)) (fun v _ => 3 - (intOf v).toNat)
  case atStart => exact ⟨0, by omega, rfl, Bl.refl _⟩
  case round =>
    obtain ⟨k, hk, rfl, HBr⟩ := hrel
    have HBw := Lib.hid (HB4.out.trans HBr.out)
    have HKr := Lib.hid (HK4.out.bl HBr.out)
    have k0 : wr.cell? ⟨W.heap.size, 0, none⟩ = some (.int .i64 t) := HKr.out.cell 0
    have k1 : wr.cell? ⟨W.heap.size, 1, none⟩ = some (.int .i64 n) := HKr.out.cell 1
    have k2 : wr.cell? ⟨W.heap.size, 2, none⟩ = some (.int .i64 s) := HKr.out.cell 2
    have k3 : wr.cell? ⟨W.heap.size, 3, none⟩ = some (.slice A len c) := HKr.out.cell 3
    have kl := HKr.out.lt
    by_cases hlt : k < 3
    · have hle : (k : Int) ≤ 2 := by omega
      have HLd := Lib.hid (lead_any t n s A len c ps Al ll cl xs (k : Int) wr wr.heap.size HL.out hmax (HPc.out wr HBw.out) HLL.out (by omega) hcl (HXc.out wr HBw.out) (Nat.le_refl _))
      rw [leadsOf_yes (by omega) HF.out] at HLd
      have HBy : Hid (∀ wx, Bl wr wx → Calls Try.prog 19 #[.agg #[.int .i64 t, .int .i64 n, .int .i64 s, .slice A len c], .slice Al ll cl, .int .i64 (k : Int), .slice (some ⟨b, 0, none⟩) (ll + 1) (ll + 1)] wx (LPost (leadOf ⟨t, n, s, ps⟩ xs k) wx)) := fun wx hb =>
        lby_any t n s A len c ps Al ll cl xs k (some ⟨b, 0, none⟩) (ll + 1) wx wx.heap.size HL.out hmax (HPc.out wx (HBw.out.trans hb)).prs HLL.out (HXc.out wx (HBw.out.trans hb)) (Nat.le_refl _) HF.out (lrd_on HN4.out (HBr.out.trans hb)) (by omega)

      have hln := leadOf_len ⟨t, n, s, ps⟩ xs k
      generalize leadOf ⟨t, n, s, ps⟩ xs k = x at *
      obtain ⟨l, en⟩ := x
      have HLn : Hid (l.length ≤ 2000) := hln
      clear hln
      go_wp2_with fail
      refine HLd.out.mono ?_
      rintro e w5 ⟨A5, c5, rfl, hc5, hr5, hb5⟩
      have HR5 := Lib.hid hr5
      have HB5 := Lib.hid hb5
      have HK5 := Lib.hid (HKr.out.bl hb5)
      clear hr5 hb5 k0 k1 k2 k3 kl HLd
      have k0 : w5.cell? ⟨W.heap.size, 0, none⟩ = some (.int .i64 t) := HK5.out.cell 0
      have k1 : w5.cell? ⟨W.heap.size, 1, none⟩ = some (.int .i64 n) := HK5.out.cell 1
      have k2 : w5.cell? ⟨W.heap.size, 2, none⟩ = some (.int .i64 s) := HK5.out.cell 2
      have k3 : w5.cell? ⟨W.heap.size, 3, none⟩ = some (.slice A len c) := HK5.out.cell 3
      have kl := HK5.out.lt
      go_wp2_with fail
      refine (HBy.out _ HB5.out).mono ?_
      rintro e w6 ⟨A6, c6, rfl, hc6, hr6, hb6⟩
      have HR6 := Lib.hid hr6
      have HR5 := Lib.hid (lrd_on HR5.out hb6)
      have HB6 := Lib.hid (HB5.out.trans hb6)
      clear hr6 hb6 k0 k1 k2 k3 kl HBy HB5 HK5
      go_wp2_with fail
      have HSm := Lib.hid (isame_any A5 A6 l.length l.length c5 c6 l l w6 w6.heap.size rfl rfl (by have := HLn.out; omega) HR5.out HR6.out)
      rw [show decide (l = l) = true from decide_eq_true rfl] at HSm
      refine HSm.out.mono ?_
      rintro e w7 ⟨rfl, q, hq⟩
      have HB7 : Hid (Bl w4 w7) := by rw [hq]; exact (HBr.out.trans HB6.out).drewN _
      clear hq
      go_wp2_with fail
      go_roundw
      case rel => exact ⟨k + 1, by omega, by go_num, HB7.out⟩
      case measure => simp [intOf]; omega
    · go_wp2_with fail
      go_ret
      exact ⟨rfl, HBw.out⟩
end Go.Proofs.Ytpblamiiggglaaa
/- The least and the greatest: no derivation stands ahead of the one, or behind the other. -/
namespace Go.Proofs.Ytpblamiiggglaaa
open Go.RowKit

theorem leadOf_cases (g : Gr.Gm) (u : List Int) (K : Nat) : (leadOf g u K = ([], 11) ∧ Ld.mayB K g u [⟨true, g.start⟩] 0 = false) ∨ (Ld.mayB K g u [⟨true, g.start⟩] 0 = true ∧ (leadOf g u K = ([], 5) ∨ ∃ m, leadOf g u K = (ns m, 0) ∧ Ld.lead K g (factP g) u 2000 0 [⟨true, g.start⟩] = some m)) := by
  unfold leadOf
  cases h : Ld.mayB K g u [⟨true, g.start⟩] 0 with
  | false => exact .inl ⟨if_neg (by decide), rfl⟩
  | true =>
    refine .inr ⟨rfl, ?_⟩
    rw [if_pos rfl]
    cases h2 : Ld.lead K g (factP g) u 2000 0 [⟨true, g.start⟩] with
    | none => exact .inl rfl
    | some m => exact .inr ⟨m, rfl, rfl⟩
theorem start_row {g : Gr.Gm} (hg : Gr.Ok g) : Ld.RowG g [⟨true, g.start⟩] := fun x hx => by
  rw [List.mem_singleton] at hx
  subst hx
  exact ⟨hg.2.2.2.2.1, fun _ => hg.2.2.2.2.2.1, fun e => by cases e⟩
/-- What ends may be. -/
theorem leads_codes (g : Gr.Gm) (u : List Int) : ((leadOf g u 0).2, (leadOf g u 1).2) = (11, 11) ∨ ((leadOf g u 0).2, (leadOf g u 1).2) = (5, 5) ∨ ((leadOf g u 0).2, (leadOf g u 1).2) = (5, 0) ∨ ((leadOf g u 0).2, (leadOf g u 1).2) = (0, 5) ∨ ((leadOf g u 0).2, (leadOf g u 1).2) = (0, 0) := by
  have e : Ld.mayB 0 g u [⟨true, g.start⟩] 0 = Ld.mayB 1 g u [⟨true, g.start⟩] 0 := by rw [Bool.eq_iff_iff, Ld.mayB_iff, Ld.mayB_iff, Ld.may_one (by decide), Ld.may_one (by decide)]
  rcases leadOf_cases g u 0 with ⟨h1, h2⟩ | ⟨h2, h1 | ⟨m, h1, _⟩⟩ <;> rcases leadOf_cases g u 1 with ⟨k1, k2⟩ | ⟨k2, k1 | ⟨m', k1, _⟩⟩ <;> rw [h1, k1] <;> rw [h2, k2] at e <;> simp at e ⊢
theorem leads_ends {g : Gr.Gm} {u : List Int} (hf : fitB g u = true) (h0 : (leadOf g u 0).2 = 0) (h1 : (leadOf g u 1).2 = 0) :
    Dv.less (leadOf g u 1).1 (leadOf g u 0).1 = false ∧ ∀ o : List Int, (Dv.replayOf (okB g) g o).2 = 0 → (Dv.replayOf (okB g) g o).1 = u → Dv.less o (leadOf g u 0).1 = false ∧ Dv.less (leadOf g u 1).1 o = false ∧ ((leadOf g u 0).1 = (leadOf g u 1).1 → (leadOf g u 0).1 = o) := by
  obtain ⟨hok, hv, _⟩ := fit_good hf
  have hfit := factP_fits hok hv
  have hrow := start_row hok
  rcases leadOf_cases g u 0 with ⟨e, _⟩ | ⟨m0, e | ⟨a, e0, l0⟩⟩
  · rw [e] at h0; cases h0
  · rw [e] at h0; cases h0
  rcases leadOf_cases g u 1 with ⟨e, _⟩ | ⟨m1, e | ⟨b, e1, l1⟩⟩
  · rw [e] at h1; cases h1
  · rw [e] at h1; cases h1
  rw [e0, e1]
  have m0 := Ld.mayB_iff.1 m0
  have m1 := Ld.mayB_iff.1 m1
  have least : ∀ o : List Nat, Dv.Dr g.prods o [⟨true, g.start⟩] u → Dv.less (Dv.ints o) (ns a) = false := fun o ho =>
    Ld.lead_least hok hv hfit (Nat.zero_le _) hrow m0 l0 (by rw [List.drop_zero]; exact ho)
  have great : ∀ o : List Nat, Dv.Dr g.prods o [⟨true, g.start⟩] u → Dv.less (ns b) (Dv.ints o) = false := fun o ho =>
    Ld.lead_greatest hok hv hfit (Nat.zero_le _) hrow m1 l1 (by rw [List.drop_zero]; exact ho)
  refine ⟨?_, fun o ho hu => ?_⟩
  · obtain ⟨v, hd, _, h3⟩ := Ld.lead_dr hok hv hfit (Nat.zero_le _) hrow m1 l1
    have h4 := h3 (by decide)
    rw [List.drop_zero] at h4
    subst h4
    exact least b hd
  · obtain ⟨_, _, m, rfl, hd⟩ := Dv.replay_ok ho
    rw [hu] at hd
    refine ⟨least m hd, great m hd, fun hab => ?_⟩
    have hab : ns a = ns b := hab
    show ns a = Dv.ints m
    have k1 := least m hd
    have k2 := great m hd
    rw [← hab] at k2
    apply Classical.byContradiction
    intro hne
    have := Dv.less_total _ _ hne k2
    rw [k1] at this
    cases this
end Go.Proofs.Ytpblamiiggglaaa
/- The reference's In: does a word come of a grammar? -/
namespace Go.Proofs.Ytpblamiiggglaaa
open Go.RowKit

set_option maxRecDepth 100000 in
set_option maxHeartbeats 2000000 in
theorem in_gen (t : Int) (N st : Nat) (A : Option Addr) (len c : Nat) (ps : List Gr.Pr) (Aw : Option Addr) (lw cw : Nat) (xs : List Int) (w : World) (B : Nat) (hlen : len = ps.length) (hn : 1 ≤ N ∧ N ≤ 1000 ∧ ps.length ≤ 1000) (hst : st < N)
    (hso : ∀ p ∈ ps, (0 ≤ p.left ∧ p.left < (N : Int)) ∧ p.right.length ≤ 8 ∧ (∀ x ∈ p.right, x.non = true → 0 ≤ x.n ∧ x.n < (N : Int)) ∧ Cf.Pos p.right) (hr : Prs w B A ps)
    (hlw : lw = xs.length) (hmw : lw ≤ 100) (hrw : Rd w B Aw (ins xs)) (hB : B ≤ w.heap.size) :
    Calls Try.prog 14 #[.agg #[.int .i64 t, .int .i64 (N : Int), .int .i64 (st : Int), .slice A len c], .slice Aw lw cw] w fun e w' => e = .returned (.bool (Sp.comB ⟨t, (N : Int), (st : Int), ps⟩ st xs)) ∧ Bl w w' := by
  have hb0 : Bl w (w.alloc (.cells #[.int .i64 t, .int .i64 (N : Int), .int .i64 (st : Int), .slice A len c] 24)) := (Bl.refl w).alloc _
  have HC := Lib.hid (spans_gen t N st A len c ps Aw lw cw xs (w.alloc (.cells #[.int .i64 t, .int .i64 (N : Int), .int .i64 (st : Int), .slice A len c] 24)).drew B hlen (by omega) hso (hr.bl hB hb0.drew) hlw (by omega) (hrw.bl hB hb0.drew) (Nat.le_trans hB hb0.size))
  have HG : Hid (Bk (w.alloc (.cells #[.int .i64 t, .int .i64 (N : Int), .int .i64 (st : Int), .slice A len c] 24)) w.heap.size 24 #[.int .i64 t, .int .i64 (N : Int), .int .i64 (st : Int), .slice A len c]) := Bk.new w _ _
  have HB0 := Lib.hid hb0
  have HLw := Lib.hid hlw
  have HM : Hid (xs.length + 1 = lw + 1) := by show _ = _; omega
  obtain ⟨cb, hcb⟩ : ∃ cb, cb = Sp.comB ⟨t, (N : Int), (st : Int), ps⟩ st xs := ⟨_, rfl⟩
  rw [← hcb]
  have HCb := Lib.hid hcb
  clear hlen hr hlw hrw hB hb0 hso hcb
  have i0 : (0 : Int) ≤ (st : Int) := by omega
  have i1 : (st : Int) < (N : Int) := by omega
  have i2 : (0 : Int) < ((lw + 1 : Nat) : Int) := by omega
  have i3 : (0 : Int) ≤ (lw : Int) := by omega
  have i4 : (lw : Int) < (lw : Int) + 1 := by omega
  have i5 : (0 : Int) < (lw : Int) + 1 := by omega
  go_enter Try.func14, Try.ntmps14
  go_wp2_with fail
  generalize w.alloc (.cells #[.int .i64 t, .int .i64 (N : Int), .int .i64 (st : Int), .slice A len c] 24) = w0 at *
  have c0 := HG.out.cell 0
  have c1 := HG.out.cell 1
  have c2 := HG.out.cell 2
  have c3 := HG.out.cell 3
  go_region_law (first
    | (go_simp; go_at_call 24; ((with_reducible refine HC.out.mono ?_); rintro e w2 h6; obtain ⟨bo, c6, B6, rows, TT, he6, hl6, ht6, hs6, hc6, hb6⟩ := h6.lit (N := N) (m := lw + 1) rfl HM.out (by omega); subst he6; have HBc : Hid (Bl w0 w2) := Bl.undrew hb6; have d2 := (HG.out.bl HBc.out).cell 2; obtain ⟨r1, cr1, g1, x1, x2, x3, x4, x5, x6⟩ := ht6.peek hl6 hst (show 0 < lw + 1 by omega) (show lw < lw + 1 by omega); have HT : Hid (TT st 0 lw = cb) := (by rw [HCb.out]; exact Bool.eq_iff_iff.2 ((Cf.table hs6 hc6 st (Nat.zero_le _) (Nat.le_of_eq HLw.out)).trans (by rw [HLw.out, show Cf.part xs 0 xs.length = xs by simp [Cf.part], Sp.comB_iff]))); rw [HT.out] at x6; clear h6 hl6 ht6 hs6 hc6 hb6))
    | fail)
  all_goals
    go_wp2_with fail
    go_ret
    exact ⟨rfl, HB0.out.trans HBc.out⟩
end Go.Proofs.Ytpblamiiggglaaa
/- What comes of a grammar, or begins a word that does: the reference's In, of the grammar and of its wild one; and what a told derivation is played to. -/
namespace Go.Proofs.Ytpblamiiggglaaa
open Go.RowKit

/-- The production of a grammar with nothing but living nonterminals. -/
theorem fit_pos {g : Gr.Gm} (hok : Gr.Ok g) (hv : Wi.Lives g) : 0 < g.prods.length := by
  have h1 := hok.2.2.2.2.1
  have h2 := hok.2.2.2.2.2.1
  obtain ⟨w, hw⟩ := hv g.start h1 h2
  obtain ⟨p, _, _, _, hp, _⟩ := hw.non_inv rfl
  exact List.length_pos_of_mem hp
theorem in8_any (t n s : Int) (A : Option Addr) (len c : Nat) (ps : List Gr.Pr) (Aw : Option Addr) (lw cw : Nat) (xs : List Int) (w : World) (B : Nat) (hlen : len = ps.length) (hr : Prs w B A ps)
    (hlw : lw = xs.length) (hrw : Rd w B Aw (ins xs)) (hB : B ≤ w.heap.size) (hf : fitB ⟨t, n, s, ps⟩ xs = true) :
    Calls Try.prog 14 #[.agg #[.int .i64 t, .int .i64 n, .int .i64 s, .slice A len c], .slice Aw lw cw] w fun e w' => e = .returned (.bool (Ld.mayB 0 ⟨t, n, s, ps⟩ xs [⟨true, s⟩] 0)) ∧ Bl w w' := by
  obtain ⟨hok, hv, h24⟩ := fit_good hf
  have ho := (okB_iff _).2 hok
  obtain ⟨n1, n2, n3⟩ := ok_nons' ho
  have h5 : 0 ≤ s := hok.2.2.2.2.1
  have h6 : s < n := hok.2.2.2.2.2.1
  obtain ⟨N, rfl⟩ : ∃ N : Nat, n = (N : Int) := ⟨n.toNat, by omega⟩
  obtain ⟨st, rfl⟩ : ∃ st : Nat, s = (st : Int) := ⟨s.toNat, by omega⟩
  have h := in_gen t N st A len c ps Aw lw cw xs w B hlen ⟨by omega, by omega, by omega⟩ (by omega) (fun _ hp => ok_syms' ho hp) hr hlw (by omega) hrw hB
  rwa [show Sp.comB ⟨t, (N : Int), (st : Int), ps⟩ st xs = Ld.mayB 0 ⟨t, (N : Int), (st : Int), ps⟩ xs [⟨true, (st : Int)⟩] 0 by
    rw [Bool.eq_iff_iff, Sp.comB_iff, Ld.mayB_iff, Ld.may_one (by decide), List.drop_zero]] at h
theorem inw_any (t n s : Int) (A : Option Addr) (c : Nat) (ps : List Gr.Pr) (Aw : Option Addr) (lw cw : Nat) (xs : List Int) (w : World) (B : Nat) (hr : Prs w B A (Wi.wild ⟨t, n, s, ps⟩).prods)
    (hlw : lw = xs.length) (hrw : Rd w B Aw (ins xs)) (hB : B ≤ w.heap.size) (hf : fitB ⟨t, n, s, ps⟩ xs = true) :
    Calls Try.prog 14 #[.agg #[.int .i64 t, .int .i64 (2 * n), .int .i64 (n + s), .slice A (Wi.wild ⟨t, n, s, ps⟩).prods.length c], .slice Aw lw cw] w fun e w' => e = .returned (.bool (Ld.mayB 2 ⟨t, n, s, ps⟩ xs [⟨true, s⟩] 0)) ∧ Bl w w' := by
  obtain ⟨hok, hv, h24⟩ := fit_good hf
  have ho := (okB_iff _).2 hok
  obtain ⟨n1, n2, n3⟩ := ok_nons' ho
  have h5 : 0 ≤ s := hok.2.2.2.2.1
  have h6 : s < n := hok.2.2.2.2.2.1
  obtain ⟨N, rfl⟩ : ∃ N : Nat, n = (N : Int) := ⟨n.toNat, by omega⟩
  obtain ⟨st, rfl⟩ : ∃ st : Nat, s = (st : Int) := ⟨s.toNat, by omega⟩
  have e1 : ((2 * N : Nat) : Int) = 2 * (N : Int) := by omega
  have e2 : ((N + st : Nat) : Int) = (N : Int) + (st : Int) := by omega
  have h := in_gen t (2 * N) (N + st) A _ c (Wi.wild ⟨t, (N : Int), (st : Int), ps⟩).prods Aw lw cw xs w B rfl ⟨by omega, by omega, by have := Wi.wild_len hok; omega⟩ (by omega) (fun p hp => by rw [e1]; exact Wi.wild_small hok hp) hr hlw (by omega) hrw hB
  rw [e1, e2] at h
  rwa [show Sp.comB ⟨t, 2 * (N : Int), (N : Int) + (st : Int), (Wi.wild ⟨t, (N : Int), (st : Int), ps⟩).prods⟩ (N + st) xs = Ld.mayB 2 ⟨t, (N : Int), (st : Int), ps⟩ xs [⟨true, (st : Int)⟩] 0 by
    rw [Bool.eq_iff_iff, Sp.comB_iff, Ld.mayB_iff, Ld.may_two, List.drop_zero, e2]
    exact Wi.high_iff hok hv h5 h6] at h
/-- A told derivation, played. -/
theorem leads_replay {g : Gr.Gm} {u : List Int} (hf : fitB g u = true) {K : Nat} {m : List Nat} (hm : Ld.mayB K g u [⟨true, g.start⟩] 0 = true) (h : Ld.lead K g (factP g) u 2000 0 [⟨true, g.start⟩] = some m) :
    ∃ v, Dv.replayOf (okB g) g (ns m) = (v, 0) ∧ u <+: v ∧ (K ≠ 2 → v = u) := by
  obtain ⟨hok, hv, _⟩ := fit_good hf
  obtain ⟨v, hd, h2, h3⟩ := Ld.lead_dr hok hv (factP_fits hok hv) (Nat.zero_le _) (start_row hok) (Ld.mayB_iff.1 hm) h
  rw [List.drop_zero] at h2 h3
  refine ⟨v, ?_, h2, h3⟩
  rw [(okB_iff g).2 hok, Dv.replay_play (by rw [ns_len]; exact Ld.lead_len h)]
  exact Dv.play_dr.2 ⟨m, rfl, hd⟩
end Go.Proofs.Ytpblamiiggglaaa
/- LeadComes: what is told is a derivation, and there is one just if the word comes, or begins one that does. -/
namespace Go.Proofs.Ytpblamiiggglaaa
open Go.RowKit

theorem Rd.first {w : World} {B : Nat} {A : Option Addr} {l : List Int} (h : Rd w B A (ins l)) (k : Nat) : Rd w B A (ins (l.take k)) := by
  rw [show ins (l.take k) = (ins l).take k from List.map_take]
  exact h.take k
theorem own_caps {w : World} {base size n c : Nat} {e : TypeId} {A : Option Addr} {xs : List Value} (h : w.ownsRow base e size (.slice A n c) n xs) : n ≤ c := by
  obtain ⟨A', c', hv, hc⟩ := own_form h
  injection hv with _ _ h3
  omega
/-- What a round of the law must find. -/
theorem leads_round {g : Gr.Gm} {u : List Int} (hf : fitB g u = true) (k : Nat) : ∃ (l : List Int) (e : Nat), leadOf g u k = (l, e) ∧ l.length ≤ 2000 ∧ ((e = 11 ∧ l = [] ∧ Ld.mayB (if k = 2 then 2 else 0) g u [⟨true, g.start⟩] 0 = false) ∨ (e = 5 ∧ l = [] ∧ Ld.mayB (if k = 2 then 2 else 0) g u [⟨true, g.start⟩] 0 = true) ∨
    (e = 0 ∧ Ld.mayB (if k = 2 then 2 else 0) g u [⟨true, g.start⟩] 0 = true ∧ ∃ v, Dv.replayOf (okB g) g l = (v, 0) ∧ u <+: v ∧ (k ≠ 2 → v = u))) := by
  have e : Ld.mayB (if k = 2 then 2 else 0) g u [⟨true, g.start⟩] 0 = Ld.mayB k g u [⟨true, g.start⟩] 0 := by
    by_cases h : k = 2
    · rw [if_pos h, h]
    · rw [if_neg h, Bool.eq_iff_iff, Ld.mayB_iff, Ld.mayB_iff, Ld.may_one (by decide), Ld.may_one h]
  rw [e]
  have hn := leadOf_len g u k
  rcases leadOf_cases g u k with ⟨h1, h2⟩ | ⟨h2, h1 | ⟨m, h1, h3⟩⟩
  · exact ⟨[], 11, h1, Nat.zero_le _, .inl ⟨rfl, rfl, h2⟩⟩
  · exact ⟨[], 5, h1, Nat.zero_le _, .inr (.inl ⟨rfl, rfl, h2⟩)⟩
  · rw [h1] at hn
    exact ⟨ns m, 0, h1, hn, .inr (.inr ⟨rfl, h2, leads_replay hf h2 h3⟩)⟩

set_option maxRecDepth 100000 in
set_option maxHeartbeats 8000000 in
theorem leadComes_any (t n s : Int) (A : Option Addr) (len c : Nat) (ps : List Gr.Pr) (Al : Option Addr) (ll cl : Nat) (xs : List Int) (W : World) (hlen : len = ps.length) (hmax : len ≤ 9223372036854775807) (hr : PrsC W W.heap.size A ps)
    (hll : ll = xs.length) (hrl : Rd W W.heap.size Al (ins xs)) (hcl : ll ≤ cl) (hml : ll ≤ 9223372036854775807) :
    Calls Try.prog 4 #[.agg #[.int .i64 t, .int .i64 n, .int .i64 s, .slice A len c], .slice Al ll cl] W fun e w' => e = .returned (.bool true) ∧ Bl W w' := by
  have HB0 : Hid (Bl W (W.alloc (.cells #[.int .i64 t, .int .i64 n, .int .i64 s, .slice A len c] 24))) := (Bl.refl W).alloc _
  have HK0 := Lib.hid (Bk.new W 24 #[.int .i64 t, .int .i64 n, .int .i64 s, .slice A len c])
  have HL := Lib.hid hlen
  have HLL := Lib.hid hll
  have HPc : Hid (∀ w', Bl W w' → PrsC w' w'.heap.size A ps) := fun _ hb => lprs_on hr hb
  have HXc : Hid (∀ w', Bl W w' → Rd w' w'.heap.size Al (ins xs)) := fun _ hb => lrd_on hrl hb
  clear hlen hll hr hrl
  go_enter Try.func4, Try.ntmps4
  go_wp2_with fail
  refine (awake17_any _).mono ?_
  rintro e w1 ⟨rfl, hb1⟩
  have HB1 := Lib.hid (HB0.out.trans hb1)
  have HK1 := Lib.hid (HK0.out.bl hb1)
  clear hb1 HB0 HK0
  have k0 : w1.cell? ⟨W.heap.size, 0, none⟩ = some (.int .i64 t) := HK1.out.cell 0
  have k1 : w1.cell? ⟨W.heap.size, 1, none⟩ = some (.int .i64 n) := HK1.out.cell 1
  have k2 : w1.cell? ⟨W.heap.size, 2, none⟩ = some (.int .i64 s) := HK1.out.cell 2
  have k3 : w1.cell? ⟨W.heap.size, 3, none⟩ = some (.slice A len c) := HK1.out.cell 3
  have kl := HK1.out.lt
  go_wp2_with fail
  refine (large17_any t n s A len c ps Al ll cl w1 w1.heap.size HL.out hmax hml (HPc.out w1 HB1.out).prs (Nat.le_refl _)).mono ?_
  rintro e w2 ⟨rfl, hb2⟩
  have HB2 := Lib.hid (HB1.out.trans hb2)
  have HK2 := Lib.hid (HK1.out.bl hb2)
  clear hb2 HB1 HK1 k0 k1 k2 k3 kl
  cases hl : lg17 ps ll with
  | true =>
    go_wp2_with fail
    go_ret
    exact ⟨rfl, HB2.out⟩
  | false =>
  clear hl
  have k0 : w2.cell? ⟨W.heap.size, 0, none⟩ = some (.int .i64 t) := HK2.out.cell 0
  have k1 : w2.cell? ⟨W.heap.size, 1, none⟩ = some (.int .i64 n) := HK2.out.cell 1
  have k2 : w2.cell? ⟨W.heap.size, 2, none⟩ = some (.int .i64 s) := HK2.out.cell 2
  have k3 : w2.cell? ⟨W.heap.size, 3, none⟩ = some (.slice A len c) := HK2.out.cell 3
  have kl := HK2.out.lt
  go_wp2_with fail
  refine (rfit_any t n s A len c ps Al ll cl xs w2 w2.heap.size HL.out hmax (HPc.out w2 HB2.out).prs HLL.out hml (HXc.out w2 HB2.out) (Nat.le_refl _)).mono ?_
  rintro e w3 ⟨rfl, hb3⟩
  have HB3 := Lib.hid (HB2.out.trans hb3)
  have HK3 := Lib.hid (HK2.out.bl hb3)
  clear hb3 HB2 HK2 k0 k1 k2 k3 kl
  cases hf : fitB ⟨t, n, s, ps⟩ xs with
  | false =>
    clear hf
    go_wp2_with fail
    go_ret
    exact ⟨rfl, HB3.out⟩
  | true =>
  have hl24 : ll ≤ 24 := by have h := (fit_good hf).2.2; have := HLL.out; omega
  have HF := Lib.hid hf
  clear hf
  have k0 : w3.cell? ⟨W.heap.size, 0, none⟩ = some (.int .i64 t) := HK3.out.cell 0
  have k1 : w3.cell? ⟨W.heap.size, 1, none⟩ = some (.int .i64 n) := HK3.out.cell 1
  have k2 : w3.cell? ⟨W.heap.size, 2, none⟩ = some (.int .i64 s) := HK3.out.cell 2
  have k3 : w3.cell? ⟨W.heap.size, 3, none⟩ = some (.slice A len c) := HK3.out.cell 3
  have kl := HK3.out.lt
  have HLd : Hid (∀ (k : Nat) (wx : World), k ≤ 2 → Bl W wx → Calls Try.prog 11 #[.agg #[.int .i64 t, .int .i64 n, .int .i64 s, .slice A len c], .slice Al ll cl, .int .i64 (k : Int)] wx (LPost (leadOf ⟨t, n, s, ps⟩ xs k) wx)) := fun k wx hk hb => by
    have h := lead_any t n s A len c ps Al ll cl xs (k : Int) wx wx.heap.size HL.out hmax (HPc.out wx hb) HLL.out (by omega) hcl (HXc.out wx hb) (Nat.le_refl _)
    rwa [leadsOf_yes hk HF.out] at h
  have HRp : Hid (∀ (m : Nat) (l : List Int) (Ao : Option Addr) (co : Nat) (wx : World), m = l.length → m ≤ 2000 → Rd wx wx.heap.size Ao (ins l) → Bl W wx → Calls Try.prog 16 #[.agg #[.int .i64 t, .int .i64 n, .int .i64 s, .slice A len c], .slice Ao m co] wx (TWPost (Dv.replayOf (okB ⟨t, n, s, ps⟩) ⟨t, n, s, ps⟩ l) wx)) := fun m l Ao co wx hm hm2 hr hb => treplay_any t n s A len c ps Ao m co l wx wx.heap.size HL.out hmax (HPc.out wx hb).prs (Nat.le_refl _) hm (by omega) hr
  have HRd := Lib.hid (leads_round HF.out)
  have hok := (fit_good HF.out).1
  have hpos : 0 < len := by have h := fit_pos hok (fit_good HF.out).2.1; have h2 := HL.out; rw [h2]; exact h
  have HI1 : Hid (∀ wx, Bl W wx → Calls Try.prog 14 #[.agg #[.int .i64 t, .int .i64 n, .int .i64 s, .slice A len c], .slice Al ll cl] wx fun e w' => e = .returned (.bool (Ld.mayB 0 ⟨t, n, s, ps⟩ xs [⟨true, s⟩] 0)) ∧ Bl wx w') := fun wx hb => in8_any t n s A len c ps Al ll cl xs wx wx.heap.size HL.out (HPc.out wx hb).prs HLL.out (HXc.out wx hb) (Nat.le_refl _) HF.out
  have HWi : Hid (∀ wx, Bl W wx → Calls Try.prog 15 #[.agg #[.int .i64 t, .int .i64 n, .int .i64 s, .slice A len c]] wx (WildPost t n s ⟨t, n, s, ps⟩ wx)) := fun wx hb => wild_any t n s A len c ps wx wx.heap.size HL.out hok hpos (HPc.out wx hb) (Nat.le_refl _)
  have HI2 : Hid (∀ wx A3 c3, Bl W wx → Prs wx wx.heap.size A3 (Wi.wild ⟨t, n, s, ps⟩).prods → Calls Try.prog 14 #[.agg #[.int .i64 t, .int .i64 (2 * n), .int .i64 (n + s), .slice A3 (Wi.wild ⟨t, n, s, ps⟩).prods.length c3], .slice Al ll cl] wx fun e w' => e = .returned (.bool (Ld.mayB 2 ⟨t, n, s, ps⟩ xs [⟨true, s⟩] 0)) ∧ Bl wx w') := fun wx A3 c3 hb hp => inw_any t n s A3 c3 ps Al ll cl xs wx wx.heap.size hp HLL.out (HXc.out wx hb) (Nat.le_refl _) HF.out
  have HRd : Hid (∀ k, ∃ (l : List Int) (e : Nat), leadOf ⟨t, n, s, ps⟩ xs k = (l, e) ∧ l.length ≤ 2000 ∧ ((e = 11 ∧ l = [] ∧ Ld.mayB (if k = 2 then 2 else 0) ⟨t, n, s, ps⟩ xs [⟨true, s⟩] 0 = false) ∨ (e = 5 ∧ l = [] ∧ Ld.mayB (if k = 2 then 2 else 0) ⟨t, n, s, ps⟩ xs [⟨true, s⟩] 0 = true) ∨
    (e = 0 ∧ Ld.mayB (if k = 2 then 2 else 0) ⟨t, n, s, ps⟩ xs [⟨true, s⟩] 0 = true ∧ ∃ v, Dv.replayOf (okB ⟨t, n, s, ps⟩) ⟨t, n, s, ps⟩ l = (v, 0) ∧ xs <+: v ∧ (k ≠ 2 → v = xs)))) := HRd.out
  have HMb : Hid (∀ k : Nat, Ld.mayB (if k = 2 then 2 else 0) ⟨t, n, s, ps⟩ xs [⟨true, s⟩] 0 = if k = 2 then Ld.mayB 2 ⟨t, n, s, ps⟩ xs [⟨true, s⟩] 0 else Ld.mayB 0 ⟨t, n, s, ps⟩ xs [⟨true, s⟩] 0) := fun k => by split <;> rfl
  obtain ⟨wb, hwb⟩ : ∃ wb : Nat → Bool, wb = fun k => Ld.mayB (if k = 2 then 2 else 0) ⟨t, n, s, ps⟩ xs [⟨true, s⟩] 0 := ⟨_, rfl⟩
  have HRd : Hid (∀ k, ∃ (l : List Int) (e : Nat), leadOf ⟨t, n, s, ps⟩ xs k = (l, e) ∧ l.length ≤ 2000 ∧ ((e = 11 ∧ l = [] ∧ wb k = false) ∨ (e = 5 ∧ l = [] ∧ wb k = true) ∨
    (e = 0 ∧ wb k = true ∧ ∃ v, Dv.replayOf (okB ⟨t, n, s, ps⟩) ⟨t, n, s, ps⟩ l = (v, 0) ∧ xs <+: v ∧ (k ≠ 2 → v = xs)))) := by rw [hwb]; exact HRd.out
  have HMb : Hid (∀ k : Nat, wb k = if k = 2 then Ld.mayB 2 ⟨t, n, s, ps⟩ xs [⟨true, s⟩] 0 else Ld.mayB 0 ⟨t, n, s, ps⟩ xs [⟨true, s⟩] 0) := by rw [hwb]; exact HMb.out
  clear hwb hok
  generalize Ld.mayB 0 ⟨t, n, s, ps⟩ xs [⟨true, s⟩] 0 = b0 at *
  generalize Ld.mayB 2 ⟨t, n, s, ps⟩ xs [⟨true, s⟩] 0 = b2 at *
  have HS : Hid (∀ wx, Bl w3 wx → wx.cell? ⟨W.heap.size, 0, none⟩ = some (.int .i64 t) ∧ wx.cell? ⟨W.heap.size, 1, none⟩ = some (.int .i64 n) ∧ wx.cell? ⟨W.heap.size, 2, none⟩ = some (.int .i64 s) ∧ wx.cell? ⟨W.heap.size, 3, none⟩ = some (.slice A len c)) := fun wx hb => ⟨(HK3.out.bl hb).cell 0, (HK3.out.bl hb).cell 1, (HK3.out.bl hb).cell 2, (HK3.out.bl hb).cell 3⟩
  have HBc := Lib.hid (Bl.refl w3)
  have tk1 : True := trivial
  have tk2 : True := trivial
  have tk3 : True := trivial
  go_wp2_with fail
  go_region_held3 (fun w' => w'.cell? ⟨W.heap.size, 0, none⟩ = some (.int .i64 t) ∧ w'.cell? ⟨W.heap.size, 1, none⟩ = some (.int .i64 n) ∧ w'.cell? ⟨W.heap.size, 2, none⟩ = some (.int .i64 s) ∧ w'.cell? ⟨W.heap.size, 3, none⟩ = some (.slice A len c)) (first | with_reducible exact HS.out _ HBc.out | with_reducible exact HS.out _ HBc.out.drew) (first
    | (go_at_call 14; have _t := tk1; ((with_reducible refine (HI1.out _ (HB3.out.trans HBc.out.drew)).mono ?_); rintro e v1 ⟨rfl, hb1⟩; have HBc := Lib.hid (HBc.out.drew.trans hb1); clear hb1; clear tk1))
    | (go_at_call 15; have _t := tk2; ((with_reducible refine (HWi.out _ (HB3.out.trans HBc.out)).mono ?_); rintro e v2 ⟨A8, c8, rfl, hp8, hb8⟩; have HBc := Lib.hid (HBc.out.trans hb8); have HP8 := Lib.hid hp8; clear hb8 hp8; clear tk2))
    | (go_at_call 14; have _t := tk3; ((with_reducible refine (HI2.out _ _ _ (HB3.out.trans HBc.out) HP8.out).mono ?_); rintro e w4 ⟨rfl, hb4⟩; have HB34 := Lib.hid (HBc.out.trans hb4); have HBc := Lib.hid (HBc.out.trans hb4); clear hb4; clear tk3)))
  have HB4 := Lib.hid (HB3.out.trans HB34.out)
  have HK4 := Lib.hid (HK3.out.bl HB34.out)
  clear HBc HS HI1 HI2 HWi HP8 HK3 k0 k1 k2 k3 kl
  generalize (Wi.wild ⟨t, n, s, ps⟩).prods.length = wl at *
  go_wp2_with fail
  go_loopw [7] (fun v wr => ∃ k : Nat, k ≤ 3 ∧ v = .int .i64 (k : Int) ∧ Hid (Bl w4 wr)) (fun v _ => 3 - (intOf v).toNat)
  case atStart => exact ⟨0, by omega, rfl, Bl.refl _⟩
  case round =>
    obtain ⟨k, hk, rfl, HBr⟩ := hrel
    have HBw := Lib.hid (HB4.out.trans HBr.out)
    have HKr := Lib.hid (HK4.out.bl HBr.out)
    have k0 : wr.cell? ⟨W.heap.size, 0, none⟩ = some (.int .i64 t) := HKr.out.cell 0
    have k1 : wr.cell? ⟨W.heap.size, 1, none⟩ = some (.int .i64 n) := HKr.out.cell 1
    have k2 : wr.cell? ⟨W.heap.size, 2, none⟩ = some (.int .i64 s) := HKr.out.cell 2
    have k3 : wr.cell? ⟨W.heap.size, 3, none⟩ = some (.slice A len c) := HKr.out.cell 3
    have kl := HKr.out.lt
    by_cases hlt : k < 3
    · have hle : (k : Int) ≤ 2 := by omega
      have HL5 := Lib.hid (HLd.out k wr (by omega) HBw.out)
      obtain ⟨l, en, hle5, hln, hcs⟩ := HRd.out k
      rw [hle5] at HL5
      have HCs := Lib.hid hcs
      have hwk := HMb.out k
      clear hle5 hcs HRd HMb
      by_cases hk2 : k = 2
      · subst hk2
        replace hwk : wb 2 = b2 := hwk
        rw [hwk] at HCs
        clear hwk hlt hle hk
        rcases HCs.out with ⟨rfl, rfl, hb⟩ | ⟨rfl, rfl, hb⟩ | ⟨rfl, hb, hv⟩
        · subst hb
          clear HCs
          go_wp2_with fail
          refine HL5.out.mono ?_
          rintro e w5 ⟨A5, c5, rfl, hc5, hr5, hb5⟩
          have HB5 := Lib.hid (HBr.out.trans hb5)
          clear hr5 hb5 k0 k1 k2 k3 kl HL5
          go_wp2_with fail
          go_roundw
          case rel => exact ⟨3, by omega, by go_num, HB5.out⟩
          case measure => simp [intOf]
        · subst hb
          clear HCs
          go_wp2_with fail
          refine HL5.out.mono ?_
          rintro e w5 ⟨A5, c5, rfl, hc5, hr5, hb5⟩
          have HB5 := Lib.hid (HBr.out.trans hb5)
          clear hr5 hb5 k0 k1 k2 k3 kl HL5
          go_wp2_with fail
          go_roundw
          case rel => exact ⟨3, by omega, by go_num, HB5.out⟩
          case measure => simp [intOf]
        · subst hb
          clear HCs
          obtain ⟨v, hrep, hpre, hnk⟩ := hv
          have HRq := Lib.hid (fun (Ao : Option Addr) (co : Nat) (wx : World) hr hb => HRp.out l.length l Ao co wx rfl hln hr hb)
          rw [hrep] at HRq
          clear hrep HRp
          have hvl : ll ≤ v.length := by have h := hpre.length_le; have := HLL.out; omega
          have HTk : Hid (v.take ll = xs) := by have h := List.prefix_iff_eq_take.1 hpre; rw [HLL.out]; exact h.symm
          have HTl : Hid (ll = (v.take ll).length) := by rw [HTk.out]; exact HLL.out
          clear hnk hpre
          go_wp2_with fail
          refine HL5.out.mono ?_
          rintro e w5 ⟨A5, c5, rfl, hc5, hr5, hb5⟩
          have HR5 := Lib.hid hr5
          have HB5 := Lib.hid (HBr.out.trans hb5)
          have HB5w := Lib.hid (HB4.out.trans HB5.out)
          have HK5 := Lib.hid (HK4.out.bl HB5.out)
          clear hr5 hb5 k0 k1 k2 k3 kl HL5
          have k0 : w5.cell? ⟨W.heap.size, 0, none⟩ = some (.int .i64 t) := HK5.out.cell 0
          have k1 : w5.cell? ⟨W.heap.size, 1, none⟩ = some (.int .i64 n) := HK5.out.cell 1
          have k2 : w5.cell? ⟨W.heap.size, 2, none⟩ = some (.int .i64 s) := HK5.out.cell 2
          have k3 : w5.cell? ⟨W.heap.size, 3, none⟩ = some (.slice A len c) := HK5.out.cell 3
          have kl := HK5.out.lt
          go_wp2_with fail
          refine (HRq.out A5 c5 w5 HR5.out HB5w.out).mono ?_
          rintro e w6 ⟨A6, n6, c6, rfl, hn6, ho6, hb6⟩
          replace hn6 : n6 = v.length := hn6
          have hcap := own_caps ho6
          have HR6 := Lib.hid (Rd.own ho6)
          have HB6 := Lib.hid (HB5.out.trans hb6)
          have HB6w := Lib.hid (HB5w.out.trans hb6)
          clear ho6 hb6 k0 k1 k2 k3 kl HRq
          have h6 : ll ≤ n6 := by omega
          clear hvl
          have HN6 := Lib.hid hn6
          clear hn6
          have h7 : ¬ ((n6 : Int) < (ll : Int)) := by omega
          have hsl := fun (wx : World) => run_slice_head (P := Try.prog) (t := 25) (e := 3) (size := 1) Try.underlying25 int_size A6 n6 c6 ll (ll : Int) rfl (by omega) wx
          have HSm := Lib.hid (isame_any A6 Al ll ll c6 cl (v.take ll) xs w6 w6.heap.size HTl.out HLL.out (by omega) (Rd.first HR6.out ll) (HXc.out w6 HB6w.out))
          rw [decide_eq_true HTk.out] at HSm
          go_wp2_with fail
          refine HSm.out.mono ?_
          rintro e w7 ⟨rfl, q7, hq7⟩
          have HB7 : Hid (Bl w4 w7) := by rw [hq7]; exact HB6.out.drewN _
          clear hq7 HSm
          go_wp2_with fail
          go_roundw
          case rel => exact ⟨3, by omega, by go_num, HB7.out⟩
          case measure => simp [intOf]
      · rw [if_neg hk2] at hwk
        rw [hwk] at HCs
        have hq1 : ((k : Int) == 2) = false := by rw [beq_eq_false_iff_ne]; omega
        have hq2 : ¬ ((k : Int) = 2) := by omega
        clear hwk
        rcases HCs.out with ⟨rfl, rfl, hb⟩ | ⟨rfl, rfl, hb⟩ | ⟨rfl, hb, hv⟩
        · subst hb
          clear HCs
          go_wp2_with fail
          refine HL5.out.mono ?_
          rintro e w5 ⟨A5, c5, rfl, hc5, hr5, hb5⟩
          have HB5 := Lib.hid (HBr.out.trans hb5)
          clear hr5 hb5 k0 k1 k2 k3 kl HL5
          go_wp2_with fail
          go_roundw
          case rel => exact ⟨k + 1, by omega, by go_num, HB5.out⟩
          case measure => simp [intOf]; omega
        · subst hb
          clear HCs
          go_wp2_with fail
          refine HL5.out.mono ?_
          rintro e w5 ⟨A5, c5, rfl, hc5, hr5, hb5⟩
          have HB5 := Lib.hid (HBr.out.trans hb5)
          clear hr5 hb5 k0 k1 k2 k3 kl HL5
          go_wp2_with fail
          go_roundw
          case rel => exact ⟨k + 1, by omega, by go_num, HB5.out⟩
          case measure => simp [intOf]; omega
        · subst hb
          clear HCs
          obtain ⟨v, hrep, hpre, hnk⟩ := hv
          have HRq := Lib.hid (fun (Ao : Option Addr) (co : Nat) (wx : World) hr hb => HRp.out l.length l Ao co wx rfl hln hr hb)
          rw [hrep] at HRq
          clear hrep HRp
          have hvl : ll ≤ v.length := by have h := hpre.length_le; have := HLL.out; omega
          have HTk : Hid (v.take ll = xs) := by have h := List.prefix_iff_eq_take.1 hpre; rw [HLL.out]; exact h.symm
          have HTl : Hid (ll = (v.take ll).length) := by rw [HTk.out]; exact HLL.out
          have HNv : Hid (v.length = ll) := by unfold Hid; rw [hnk (by omega)]; exact HLL.out.symm
          clear hnk hpre
          go_wp2_with fail
          refine HL5.out.mono ?_
          rintro e w5 ⟨A5, c5, rfl, hc5, hr5, hb5⟩
          have HR5 := Lib.hid hr5
          have HB5 := Lib.hid (HBr.out.trans hb5)
          have HB5w := Lib.hid (HB4.out.trans HB5.out)
          have HK5 := Lib.hid (HK4.out.bl HB5.out)
          clear hr5 hb5 k0 k1 k2 k3 kl HL5
          have k0 : w5.cell? ⟨W.heap.size, 0, none⟩ = some (.int .i64 t) := HK5.out.cell 0
          have k1 : w5.cell? ⟨W.heap.size, 1, none⟩ = some (.int .i64 n) := HK5.out.cell 1
          have k2 : w5.cell? ⟨W.heap.size, 2, none⟩ = some (.int .i64 s) := HK5.out.cell 2
          have k3 : w5.cell? ⟨W.heap.size, 3, none⟩ = some (.slice A len c) := HK5.out.cell 3
          have kl := HK5.out.lt
          go_wp2_with fail
          refine (HRq.out A5 c5 w5 HR5.out HB5w.out).mono ?_
          rintro e w6 ⟨A6, n6, c6, rfl, hn6, ho6, hb6⟩
          replace hn6 : n6 = v.length := hn6
          have hcap := own_caps ho6
          have HR6 := Lib.hid (Rd.own ho6)
          have HB6 := Lib.hid (HB5.out.trans hb6)
          have HB6w := Lib.hid (HB5w.out.trans hb6)
          clear ho6 hb6 k0 k1 k2 k3 kl HRq
          replace hn6 : n6 = ll := hn6.trans HNv.out
          clear hvl HNv
          subst hn6
          have h7 : ¬ ((n6 : Int) < (n6 : Int)) := by omega
          have hsl := fun (wx : World) => run_slice_head (P := Try.prog) (t := 25) (e := 3) (size := 1) Try.underlying25 int_size A6 n6 c6 n6 (n6 : Int) rfl (by omega) wx
          have HSm := Lib.hid (isame_any A6 Al n6 n6 c6 cl (v.take n6) xs w6 w6.heap.size HTl.out HLL.out (by omega) (Rd.first HR6.out n6) (HXc.out w6 HB6w.out))
          rw [decide_eq_true HTk.out] at HSm
          go_wp2_with fail
          refine HSm.out.mono ?_
          rintro e w7 ⟨rfl, q7, hq7⟩
          have HB7 : Hid (Bl w4 w7) := by rw [hq7]; exact HB6.out.drewN _
          clear hq7 HSm
          go_wp2_with fail
          go_roundw
          case rel => exact ⟨k + 1, by omega, by go_num, HB7.out⟩
          case measure => simp [intOf]; omega
    · go_wp2_with fail
      go_ret
      exact ⟨rfl, HBw.out⟩
end Go.Proofs.Ytpblamiiggglaaa
