/- TreeComes: the word of a derivation comes of its grammar. -/
import Derived.Test.YtmdepbgcgkifpaaTAwake
import Derived.Test.YtmdepbgcgkifpaaDOpI
import Derived.Test.YtmdepbgcgkifpaaKLarge
import Derived.Test.YtmdepbgcgkifpaaHPeek
namespace Go.Proofs.Ytmdepbgcgkifpaa
open Go.RowKit

set_option maxRecDepth 100000 in
set_option maxHeartbeats 2000000 in
theorem in_any (t n s : Int) (A : Option Addr) (len c : Nat) (ps : List Gr.Pr) (Aw : Option Addr) (lw cw : Nat) (xs : List Int) (w : World) (B : Nat) (hlen : len = ps.length) (hok : okB ⟨t, n, s, ps⟩ = true) (hr : Prs w B A ps)
    (hlw : lw = xs.length) (hmw : lw ≤ 6) (hrw : Rd w B Aw (ins xs)) (hB : B ≤ w.heap.size) (hcm : Cf.Cm ⟨t, n, s, ps⟩ [⟨true, s⟩] xs) :
    Calls Try.prog 17 #[.agg #[.int .i64 t, .int .i64 n, .int .i64 s, .slice A len c], .slice Aw lw cw] w fun e w' => e = .returned (.bool true) ∧ Bl w w' := by
  obtain ⟨_, _, h3, h4, h5, h6, _, _⟩ := (okB_iff _).1 hok
  simp only at h3 h4 h5 h6
  obtain ⟨N, rfl⟩ : ∃ N : Nat, n = (N : Int) := ⟨n.toNat, by omega⟩
  obtain ⟨st, rfl⟩ : ∃ st : Nat, s = (st : Int) := ⟨s.toNat, by omega⟩
  have hst : st < N := by omega
  have hb0 : Bl w (w.alloc (.cells #[.int .i64 t, .int .i64 (N : Int), .int .i64 (st : Int), .slice A len c] 24)) := (Bl.refl w).alloc _
  have HC := Lib.hid (spans_any t N st A len c ps Aw lw cw xs (w.alloc (.cells #[.int .i64 t, .int .i64 (N : Int), .int .i64 (st : Int), .slice A len c] 24)).drew B hlen hok (hr.bl hB hb0.drew) hlw (by omega) (hrw.bl hB hb0.drew) (Nat.le_trans hB hb0.size))
  have HG : Hid (Bk (w.alloc (.cells #[.int .i64 t, .int .i64 (N : Int), .int .i64 (st : Int), .slice A len c] 24)) w.heap.size 24 #[.int .i64 t, .int .i64 (N : Int), .int .i64 (st : Int), .slice A len c]) := Bk.new w _ _
  have HB0 := Lib.hid hb0
  have HLw := Lib.hid hlw
  have HCm := Lib.hid hcm
  have HM : Hid (xs.length + 1 = lw + 1) := by show _ = _; omega
  clear hlen hok hr hlw hrw hB hcm hb0 h3 h4 h5 h6
  have i0 : (0 : Int) ≤ (st : Int) := by omega
  have i1 : (st : Int) < (N : Int) := by omega
  have i2 : (0 : Int) < ((lw + 1 : Nat) : Int) := by omega
  have i3 : (0 : Int) ≤ (lw : Int) := by omega
  have i4 : (lw : Int) < (lw : Int) + 1 := by omega
  have i5 : (0 : Int) < (lw : Int) + 1 := by omega
  go_enter Try.func17, Try.ntmps17
  go_wp2_with fail
  generalize w.alloc (.cells #[.int .i64 t, .int .i64 (N : Int), .int .i64 (st : Int), .slice A len c] 24) = w0 at *
  have c0 := HG.out.cell 0
  have c1 := HG.out.cell 1
  have c2 := HG.out.cell 2
  have c3 := HG.out.cell 3
  go_region_law (first
    | (go_simp; go_at_call 22; ((with_reducible refine HC.out.mono ?_); rintro e w2 h6; obtain ⟨bo, c6, B6, rows, TT, he6, hl6, ht6, hs6, hc6, hb6⟩ := h6.lit (N := N) (m := lw + 1) rfl HM.out (by omega); subst he6; have HBc : Hid (Bl w0 w2) := Bl.undrew hb6; have d2 := (HG.out.bl HBc.out).cell 2; obtain ⟨r1, cr1, g1, x1, x2, x3, x4, x5, x6⟩ := ht6.peek hl6 hst (show 0 < lw + 1 by omega) (show lw < lw + 1 by omega); have HT : Hid (TT st 0 lw = true) := (Cf.table hs6 hc6 st (Nat.zero_le _) (Nat.le_of_eq HLw.out)).2 (by rw [HLw.out, show Cf.part xs 0 xs.length = xs by simp [Cf.part]]; exact HCm.out); rw [HT.out] at x6; clear h6 hl6 ht6 hs6 hc6 hb6))
    | fail)
  all_goals
    go_wp2_with fail
    go_ret
    exact ⟨rfl, HB0.out.trans HBc.out⟩

set_option maxRecDepth 100000 in
set_option maxHeartbeats 2000000 in
theorem treeComes_any (t n s : Int) (A : Option Addr) (len c : Nat) (ps : List Gr.Pr) (Al : Option Addr) (ll cl : Nat) (l : List Int) (W : World) (hlen : len = ps.length) (hmax : len ≤ 9223372036854775807) (hr : PrsC W W.heap.size A ps)
    (hll : ll = l.length) (hrl : Rd W W.heap.size Al (ins l)) :
    Calls Try.prog 4 #[.agg #[.int .i64 t, .int .i64 n, .int .i64 s, .slice A len c], .slice Al ll cl] W fun e w' => e = .returned (.bool true) ∧ Bl W w' := by
  have HL := Lib.hid hlen; clear hlen
  have HLL := Lib.hid hll; clear hll
  have HP := Lib.hid hr; clear hr
  have HF := Lib.hid hrl; clear hrl
  have hb0 : Bl W (W.alloc (.cells #[.int .i64 t, .int .i64 n, .int .i64 s, .slice A len c] 24)) := (Bl.refl W).alloc _
  have HB0 := Lib.hid hb0; clear hb0
  have HG0 : Hid (Bk (W.alloc (.cells #[.int .i64 t, .int .i64 n, .int .i64 s, .slice A len c] 24)) W.heap.size 24 #[.int .i64 t, .int .i64 n, .int .i64 s, .slice A len c]) := Bk.new W _ _
  go_enter Try.func4, Try.ntmps4
  go_wp2_with fail
  refine (awake15_any _).mono ?_
  rintro e w1 ⟨rfl, hb1⟩
  have HG1 := Lib.hid (HG0.out.bl hb1)
  have HB1 := Lib.hid (HB0.out.trans hb1)
  clear hb1 HG0 HB0
  have g0 := HG1.out.cell 0
  have g1 := HG1.out.cell 1
  have g2 := HG1.out.cell 2
  have g3 := HG1.out.cell 3
  go_wp2_with fail
  refine (large9_any t n s A len c ps w1 w1.heap.size HL.out hmax (prsC_on HP.out HB1.out).prs (Nat.le_refl _)).mono ?_
  rintro e w2 ⟨rfl, hb2⟩
  have HG2 := Lib.hid (HG1.out.bl hb2)
  have HB2 := Lib.hid (HB1.out.trans hb2)
  clear hb2 HG1 HB1 g0 g1 g2 g3
  cases hl : lgB ps with
  | true =>
    go_wp2_with fail
    go_ret
    exact ⟨rfl, HB2.out⟩
  | false =>
  clear hl
  by_cases h30 : 30 < ll
  · have hd : decide ((30 : Int) < (ll : Int)) = true := decide_eq_true (by omega)
    go_wp2_with fail
    go_ret
    exact ⟨rfl, HB2.out⟩
  · have hd : decide ((30 : Int) < (ll : Int)) = false := decide_eq_false (by omega)
    have g0 := HG2.out.cell 0
    have g1 := HG2.out.cell 1
    have g2 := HG2.out.cell 2
    have g3 := HG2.out.cell 3
    go_wp2_with fail
    refine (replay_any t n s A len c ps Al ll cl l w2 w2.heap.size HL.out hmax (prsC_on HP.out HB2.out) (Nat.le_refl _) HLL.out (by omega) (rd_onb HF.out HB2.out)).mono ?_
    rintro e w3 ⟨A3, n3, c3, rfl, hn3, ho3, hb3⟩
    have HG3 := Lib.hid (HG2.out.bl hb3)
    have HB3 := Lib.hid (HB2.out.trans hb3)
    have HR3 := Lib.hid (Rd.own ho3)
    have HN3 := Lib.hid hn3
    have HNo := Lib.hid (fun h => Dv.replay_none (okg := okB ⟨t, n, s, ps⟩) (g := ⟨t, n, s, ps⟩) (l := l) h)
    have HOk := Lib.hid (fun h => Dv.replay_ok (okg := okB ⟨t, n, s, ps⟩) (g := ⟨t, n, s, ps⟩) (l := l) h)
    clear hb3 ho3 hn3 HG2 HB2 g0 g1 g2 g3
    generalize Dv.replayOf (okB ⟨t, n, s, ps⟩) ⟨t, n, s, ps⟩ l = x at *
    obtain ⟨v, cd⟩ := x
    simp only at HNo HOk HN3 HR3
    have g0 := HG3.out.cell 0
    have g1 := HG3.out.cell 1
    have g2 := HG3.out.cell 2
    have g3 := HG3.out.cell 3
    by_cases hcd : cd = 0
    · subst hcd
      obtain ⟨hok, _, m, _, hdr⟩ := HOk.out rfl
      have HCm : Hid (Cf.Cm ⟨t, n, s, ps⟩ [⟨true, s⟩] v) := hdr.cm
      have HO := Lib.hid hok
      clear hok hdr HOk HNo
      by_cases h6 : 6 < n3
      · have hd6 : decide ((6 : Int) < (n3 : Int)) = true := decide_eq_true (by omega)
        go_wp2_with fail
        go_ret
        exact ⟨rfl, HB3.out⟩
      · have hd6 : decide ((6 : Int) < (n3 : Int)) = false := decide_eq_false (by omega)
        go_wp2_with fail
        refine (in_any t n s A len c ps A3 n3 c3 v w3 w3.heap.size HL.out HO.out (prsC_on HP.out HB3.out).prs HN3.out (by omega) (by have h := HR3.out; exact h) (Nat.le_refl _) HCm.out).mono ?_
        rintro e w4 ⟨rfl, hb4⟩
        have HB4 := Lib.hid (HB3.out.trans hb4)
        clear hb4 g0 g1 g2 g3
        go_wp2_with fail
        go_ret
        exact ⟨rfl, HB4.out⟩
    · have hq : (((cd : Nat) : Int) != 0) = true := by simp; omega
      have hv : v = [] := HNo.out hcd
      subst hv
      have hn0 : n3 = 0 := HN3.out
      subst hn0
      go_wp2_with fail
      go_ret
      exact ⟨rfl, HB3.out⟩
end Go.Proofs.Ytmdepbgcgkifpaa
