/- probatelaw09.Large: what is more than the laws of ranks (and later ones) look at. -/
import Derived.Test.YtdfhhbncmdpoeaaFactM
import Derived.Test.YtdfhhbncmdpoeaaBaseS
import Derived.BigFrame
namespace Go.Proofs.Ytdfhhbncmdpoeaa
open Go.RowKit

/-- Is a grammar more than is looked at? -/
def lgB (ps : List Gr.Pr) : Bool := !(decide (ps.length ≤ 100) && ps.all fun p => decide (p.right.length ≤ 20))
theorem lgB_false {ps : List Gr.Pr} (h : lgB ps = false) : ps.length ≤ 100 ∧ ∀ p ∈ ps, p.right.length ≤ 20 := by
  unfold lgB at h
  simp only [Bool.not_eq_false', Bool.and_eq_true, decide_eq_true_eq, List.all_eq_true] at h
  exact h
theorem lgB_of {ps : List Gr.Pr} (h : ps.length ≤ 100) (hx : ∀ p ∈ ps, p.right.length ≤ 20) : lgB ps = false := by
  unfold lgB
  simp only [Bool.not_eq_false', Bool.and_eq_true, decide_eq_true_eq, List.all_eq_true]
  exact ⟨h, hx⟩
theorem lgB_long {ps : List Gr.Pr} (h : 100 < ps.length) : lgB ps = true := by unfold lgB; rw [decide_eq_false (by omega)]; rfl
theorem lgB_one {ps : List Gr.Pr} {k : Nat} (h : k < ps.length) (hx : 20 < ps[k].right.length) : lgB ps = true := by
  cases hl : lgB ps with
  | true => rfl
  | false => have := (lgB_false hl).2 _ (List.getElem_mem h); omega

set_option maxRecDepth 100000 in
set_option maxHeartbeats 1000000 in
theorem large9_any (t n s : Int) (A : Option Addr) (len c : Nat) (ps : List Gr.Pr) (w : World) (B : Nat) (hlen : len = ps.length) (hmax : len ≤ 9223372036854775807) (hr : Prs w B A ps) (hB : B ≤ w.heap.size) :
    Calls Try.prog 15 #[.agg #[.int .i64 t, .int .i64 n, .int .i64 s, .slice A len c]] w fun e w' => e = .returned (.bool (lgB ps)) ∧ Bl w w' := by
  have HL := Lib.hid hlen; clear hlen
  have HA := Lib.hid hr; clear hr
  have HB0 : Hid (Bl w (w.alloc (.cells #[.int .i64 t, .int .i64 n, .int .i64 s, .slice A len c] 24))) := (Bl.refl w).alloc _
  by_cases h100 : 100 < len
  · have HG : Hid (lgB ps = true) := lgB_long (by rw [← HL.out]; exact h100)
    go_enter Try.func15, Try.ntmps15
    go_wp2_with fail
    go_ret
    exact ⟨by rw [HG.out]; rfl, HB0.out⟩
  · go_enter Try.func15, Try.ntmps15
    go_wp2_with fail
    generalize hw0 : w.alloc (.cells #[.int .i64 t, .int .i64 n, .int .i64 s, .slice A len c] 24) = w0 at HB0 ⊢
    have HW0 := Lib.hid hw0; clear hw0
    go_loopw [12] (fun i wr => ∃ k : Nat, k ≤ len ∧ i = .int .i64 k ∧ Hid (∀ x ∈ ps.take k, x.right.length ≤ 20) ∧ Hid (Bl w0 wr)) (fun i _ => len - (intOf i).toNat)
    case atStart => exact ⟨0, Nat.zero_le _, rfl, by simp [Hid], Bl.refl w0⟩
    case round =>
      obtain ⟨k, hk, rfl, HF, HB⟩ := hrel
      by_cases hlt : k < len
      · have hj : k < ps.length := by have := HL.out; omega
        obtain ⟨b, off, Ax, cx, rfl, hbB, hrx, hc0, hc1⟩ := (HA.out.bl hB (HB0.out.trans HB.out)).at_ hj
        have HBad := Lib.hid (fun h => lgB_one hj h)
        have HGood := Lib.hid (all_snoc (P := fun x : Gr.Pr => x.right.length ≤ 20) hj HF.out)
        generalize ps[k] = x at *
        obtain ⟨xl, xs⟩ := x
        simp only at hc0 hc1 HBad HGood
        clear hj hrx
        by_cases hx : 20 < xs.length
        · have HG := Lib.hid (HBad.out hx)
          go_wp2_with fail
          go_ret
          exact ⟨by rw [HG.out]; rfl, (HB0.out.trans HB.out).alloc _⟩
        · have HY := Lib.hid (HGood.out (by omega))
          go_wp2_with fail
          go_roundw
          case rel => exact ⟨k + 1, by omega, by go_num, HY.out, HB.out.alloc _⟩
          case measure => simp [intOf]; omega
      · go_wp2_with fail
        go_ret
        have hg : lgB ps = false := lgB_of (by have := HL.out; omega) (by
          have h := HF.out
          rw [List.take_of_length_le (by have := HL.out; omega)] at h
          exact h)
        exact ⟨by rw [hg]; rfl, HB0.out.trans HB.out⟩
end Go.Proofs.Ytdfhhbncmdpoeaa
/- The lead laws' Large; what reads, reads on. -/
namespace Go.Proofs.Ytdfhhbncmdpoeaa
open Go.RowKit

/-- Is it more than is looked at? -/
def lg17 (ps : List Gr.Pr) (lw : Nat) : Bool := lgB ps || decide (20 < ps.length) || (decide (8 < lw) && decide (lw ≤ 24)) || decide (40 < lw)

set_option maxRecDepth 100000 in
set_option maxHeartbeats 3200000 in
theorem large17_any (t n s : Int) (A : Option Addr) (len c : Nat) (ps : List Gr.Pr) (Aw : Option Addr) (lw cw : Nat) (w : World) (B : Nat) (hlen : len = ps.length) (hmax : len ≤ 9223372036854775807) (hmw : lw ≤ 9223372036854775807) (hr : Prs w B A ps) (hB : B ≤ w.heap.size) :
    Calls Try.prog 6 #[.agg #[.int .i64 t, .int .i64 n, .int .i64 s, .slice A len c], .slice Aw lw cw] w fun e w' => e = .returned (.bool (lg17 ps lw)) ∧ Bl w w' := by
  have HB0 : Hid (Bl w (w.alloc (.cells #[.int .i64 t, .int .i64 n, .int .i64 s, .slice A len c] 24))) := (Bl.refl w).alloc _
  have HK0 := Lib.hid (Bk.new w 24 #[.int .i64 t, .int .i64 n, .int .i64 s, .slice A len c])
  have HLa := Lib.hid (large9_any t n s A len c ps (w.alloc (.cells #[.int .i64 t, .int .i64 n, .int .i64 s, .slice A len c] 24)) B hlen hmax (hr.bl hB HB0.out) (Nat.le_trans hB HB0.out.size))
  have HG : Hid (lg17 ps lw = (lgB ps || decide (20 < len) || (decide (8 < lw) && decide (lw ≤ 24)) || decide (40 < lw))) := by rw [hlen]; rfl
  clear hr hlen
  cases hl : lgB ps with
  | true =>
    rw [hl] at HLa HG
    clear hl
    have HGt : Hid (lg17 ps lw = true) := by unfold Hid; rw [HG.out]; simp
    go_enter Try.func6, Try.ntmps6
    go_wp2_with fail
    refine HLa.out.mono ?_
    rintro e w1 ⟨rfl, hb1⟩
    have HB1 := Lib.hid (HB0.out.trans hb1)
    clear hb1
    go_wp2_with fail
    go_ret
    exact ⟨by rw [HGt.out]; rfl, HB1.out⟩
  | false =>
    rw [hl] at HLa HG
    clear hl
    have key : (20 < len) ∨ (¬ 20 < len ∧ 8 < lw ∧ lw ≤ 24) ∨ (¬ 20 < len ∧ 8 < lw ∧ ¬ lw ≤ 24 ∧ 40 < lw) ∨ (¬ 20 < len ∧ 8 < lw ∧ ¬ lw ≤ 24 ∧ ¬ 40 < lw) ∨ (¬ 20 < len ∧ ¬ 8 < lw ∧ ¬ 40 < lw) := by omega
    go_enter Try.func6, Try.ntmps6
    go_wp2_with fail
    refine HLa.out.mono ?_
    rintro e w1 ⟨rfl, hb1⟩
    have HB1 := Lib.hid (HB0.out.trans hb1)
    have HK1 := Lib.hid (HK0.out.bl hb1)
    have k3 : w1.cell? ⟨w.heap.size, 3, none⟩ = some (.slice A len c) := HK1.out.cell 3
    have kl := HK1.out.lt
    clear hb1
    rcases key with k1 | ⟨k1, k2, k3'⟩ | ⟨k1, k2, k3', k4⟩ | ⟨k1, k2, k3', k4⟩ | ⟨k1, k2, k4⟩
    · have HGt : Hid (lg17 ps lw = true) := by unfold Hid; rw [HG.out, decide_eq_true k1]; simp
      have d1 : decide ((20 : Int) < (len : Int)) = true := decide_eq_true (by omega)
      clear k1
      go_wp2_with fail
      go_ret
      exact ⟨by rw [HGt.out]; rfl, HB1.out⟩
    · have HGt : Hid (lg17 ps lw = true) := by unfold Hid; rw [HG.out, decide_eq_true k2, decide_eq_true k3']; simp
      have d1 : decide ((20 : Int) < (len : Int)) = false := decide_eq_false (by omega)
      have d2 : decide ((8 : Int) < (lw : Int)) = true := decide_eq_true (by omega)
      have d3 : decide ((lw : Int) ≤ (24 : Int)) = true := decide_eq_true (by omega)
      clear k1 k2 k3'
      go_wp2_with fail
      go_ret
      exact ⟨by rw [HGt.out]; rfl, HB1.out⟩
    · have HGt : Hid (lg17 ps lw = true) := by unfold Hid; rw [HG.out, decide_eq_true k4]; simp
      have d1 : decide ((20 : Int) < (len : Int)) = false := decide_eq_false (by omega)
      have d2 : decide ((8 : Int) < (lw : Int)) = true := decide_eq_true (by omega)
      have d3 : decide ((lw : Int) ≤ (24 : Int)) = false := decide_eq_false (by omega)
      have d4 : decide ((40 : Int) < (lw : Int)) = true := decide_eq_true (by omega)
      clear k1 k2 k3' k4
      go_wp2_with fail
      go_ret
      exact ⟨by rw [HGt.out]; rfl, HB1.out⟩
    · have HGt : Hid (lg17 ps lw = false) := by unfold Hid; rw [HG.out, decide_eq_false k1, decide_eq_false k3', decide_eq_false k4]; simp
      have d1 : decide ((20 : Int) < (len : Int)) = false := decide_eq_false (by omega)
      have d2 : decide ((8 : Int) < (lw : Int)) = true := decide_eq_true (by omega)
      have d3 : decide ((lw : Int) ≤ (24 : Int)) = false := decide_eq_false (by omega)
      have d4 : decide ((40 : Int) < (lw : Int)) = false := decide_eq_false (by omega)
      clear k1 k2 k3' k4
      go_wp2_with fail
      go_ret
      exact ⟨by rw [HGt.out]; rfl, HB1.out⟩
    · have HGt : Hid (lg17 ps lw = false) := by unfold Hid; rw [HG.out, decide_eq_false k1, decide_eq_false k2, decide_eq_false k4]; simp
      have d1 : decide ((20 : Int) < (len : Int)) = false := decide_eq_false (by omega)
      have d2 : decide ((8 : Int) < (lw : Int)) = false := decide_eq_false (by omega)
      have d4 : decide ((40 : Int) < (lw : Int)) = false := decide_eq_false (by omega)
      clear k1 k2 k4
      go_wp2_with fail
      go_ret
      exact ⟨by rw [HGt.out]; rfl, HB1.out⟩

theorem lrd_new (w : World) (t : TypeId) (cs : Array Value) {xs : List Value} (h : cs.toList = xs) {g : Nat} (hg : g = w.heap.size) : Rd (w.alloc (.cells cs t)) (w.alloc (.cells cs t)).heap.size (some ⟨g, 0, none⟩) xs := by
  subst h hg
  exact (rd_newB w t cs).more (by simp)
theorem lrd_on {w w' : World} {A : Option Addr} {xs : List Value} (h : Rd w w.heap.size A xs) (hb : Bl w w') : Rd w' w'.heap.size A xs := (h.bl (Nat.le_refl _) hb).more hb.size
theorem lprs_on {w w' : World} {A : Option Addr} {ps : List Gr.Pr} (h : PrsC w w.heap.size A ps) (hb : Bl w w') : PrsC w' w'.heap.size A ps := (h.bl (Nat.le_refl _) hb).more hb.size
end Go.Proofs.Ytdfhhbncmdpoeaa
